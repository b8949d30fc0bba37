import Derived.Test.YtlfekmbalgkmeaaGreatDoorZM28
import Derived.Test.YtlfekmbalgkmeaaGreatDoorZRefGraph
import Derived.Test.YtlfekmbalgkmeaaGreatDoorZM25
import Derived.Laws.ResultCell
set_option linter.unusedSimpArgs false
set_option linter.unnecessarySimpa false
set_option linter.unusedVariables false
set_option maxRecDepth 100000
set_option maxHeartbeats 8000000
namespace Go.Proofs.YtlfekmbalgkmeaaGreatDoor
open Go.RowKit
theorem rgraph_got{s:Sh}{T:Task}(w:World)(h:IsD w s T)(hM:MayT T):Calls Tryz.prog 96 #[s.arg T.period T.deadline] w fun e w'=> ∃vW vE vP,e= .returned (.agg #[vW,vE,vP])/\OwnI w' w.heap.size vW (lowW T)/\OwnE w' w.heap.size vE (lowE T)/\OwnP w' w.heap.size vP (lowP T)/\Below w.heap.size w w':=
 (rgraph_any w h hM).mono fun e w' ⟨_,_,_,_,_,_,_,_,_,he,h1,h2,h3,hb⟩=>⟨_,_,_,he,h1,h2,h3,hb⟩
theorem rcheck_gr{A:Option Addr}{n c:Nat}{F:Option Addr}{m d:Nat}{W:List Int}{E:List (Int×Int)}{w:World}(h:IsG w A n c F m d W E):
  Calls Tryz.prog 97 #[.agg #[.slice A n c,.slice F m d]] w fun e w'=>e= .returned (.int .i64 (chkE W E))/\Below w.heap.size w w':=
 rcheck_any A F n c m d W E w h.hn (by have:=h.ln;omega) h.hm (by have:=h.lm;omega) h.ints h.pairs
theorem rlower_bad(s:Sh)(T:Task)(w:World)(hD:IsD w s T)(hM: ¬MayT T):Calls Tryz.prog 65 #[s.arg T.period T.deadline] w (GotLow T w):=by
 obtain⟨P,np,pc,E,ne,ec,F,nf,fc,R,nr,rc⟩:=s;have hx:lowX T=chkT T:=by unfold lowX;rw[if_neg hM]
 have h0:chkT T≠0:=fun h=>hM (chkT_zero.mp h)
 have hr:(chkT T !=0)=true:=bne_iff_ne.mpr h0;have C:=fun W (h:IsD W ⟨P,np,pc,E,ne,ec,F,nf,fc,R,nr,rc⟩ T)=>rcheck_dd h
 obtain⟨r,hrr⟩: ∃r,r=chkT T:=⟨_,rfl⟩;rw[<-hrr]at C hx h0 hr;have HC:=Lib.hid C;have HX:=Lib.hid hx;have H0:=Lib.hid h0;have B0:=Lib.hid (BxI.start hD T.period T.deadline);simp only[Sh.arg]at HC⊢;obtain⟨wA,hwA⟩: ∃wA,wA=w.alloc (.cells #[.int .i64 T.period,.int .i64 T.deadline,.slice P np pc,.slice E ne ec,.slice F nf fc,.slice R nr rc] 57):=⟨_,rfl⟩;obtain⟨wB,hwB⟩: ∃wB,wB=wA.alloc (.cells #[.slice none 0 0,.slice none 0 0,.slice none 0 0] 91):=⟨_,rfl⟩;rw[<-hwA]at B0;have hbB:Below wA.heap.size wA wB:=by rw[hwB];exact below_alloc _
 have sA:wA.heap.size=w.heap.size+1:=by rw[hwA];simp
 have rB:wB.heap[w.heap.size+1]? =some (.cells #[.slice none 0 0,.slice none 0 0,.slice none 0 0] 91 (0,0)):=by rw[hwB,<-sA];exact heap_alloc_new wA _
 have sB:wB.heap.size=w.heap.size+2:=by rw[hwB];simp[sA]
 have B1:=Lib.hid (B0.out.next hbB);have HRB:=Lib.hid rB;have HSB:=Lib.hid sB;have HW:=Lib.hid (And.intro hwA hwB);clear hD hM hx h0 C hrr hwA hwB B0 hbB rB sA sB;go_enter Tryz.func65,Tryz.ntmps65;go_wp2_with fail;rw[<-HW.out.1,<-HW.out.2];clear HW;refine(HC.out _ B1.out.d).mono ?_
 rintro e w1 ⟨rfl,b1⟩;have HBW:=Lib.hid (B1.out.b.bel.trans (b1.mono B1.out.b.bel.size));have hrb:=(b1.block (w.heap.size+1) (by rw[HSB.out];omega)).trans HRB.out
 have y0:=cell_of_row w1 (w.heap.size+1) 0 _ _ _ hrb;have y1:=cell_of_row w1 (w.heap.size+1) 1 _ _ _ hrb;have y2:=cell_of_row w1 (w.heap.size+1) 2 _ _ _ hrb;simp at y0 y1 y2;have z0:=frozen_of_row w1 (w.heap.size+1) 0 _ _ hrb;have z1:=frozen_of_row w1 (w.heap.size+1) 1 _ _ hrb;have z2:=frozen_of_row w1 (w.heap.size+1) 2 _ _ hrb;have HRW:=Lib.hid hrb;clear hrb b1;go_wp2;have h1:=heap_setCell_same w1 (w.heap.size+1) 0 _ _ (.slice none 0 0) HRW.out;have h2:=heap_setCell_same _ (w.heap.size+1) 1 _ _ (.slice none 0 0) h1;have h3:=heap_setCell_same _ (w.heap.size+1) 2 _ _ (.slice none 0 0) h2;obtain⟨x2,hx2⟩: ∃x2,x2=((w1.setCell ⟨w.heap.size+1,0,none⟩ (.slice none 0 0)).setCell ⟨w.heap.size+1,1,none⟩ (.slice none 0 0)).setCell ⟨w.heap.size+1,2,none⟩ (.slice none 0 0):=⟨_,rfl⟩;rw[<-hx2]at h3⊢;have hle:w.heap.size<=w.heap.size+1:=Nat.le_succ _;have hbx:Below w.heap.size w1 x2:=by
  rw[hx2];exact(((Below.refl _ w1).setCell hle _).setCell hle _).setCell hle _
 have k0:=cell_of_row x2 (w.heap.size+1) 0 _ _ _ h3;have k1:=cell_of_row x2 (w.heap.size+1) 1 _ _ _ h3;have k2:=cell_of_row x2 (w.heap.size+1) 2 _ _ _ h3;simp at k0 k1 k2;clear hx2;refine bodyPost_ret (v:=.tuple #[.agg #[.slice none 0 0,.slice none 0 0,.slice none 0 0],.int .i64 r]) ?_ rfl (gotLow_no HX.out.symm (by rw[HX.out];exact H0.out) (HBW.out.trans hbx))
 rw[results_cell_tmp rfl]
 go_simp
theorem rlower_may(s:Sh)(T:Task)(w:World)(hD:IsD w s T)(hM:MayT T):Calls Tryz.prog 65 #[s.arg T.period T.deadline] w (GotLow T w):=by
 obtain⟨P,np,pc,E,ne,ec,F,nf,fc,R,nr,rc⟩:=s;have C:=fun W (h:IsD W ⟨P,np,pc,E,ne,ec,F,nf,fc,R,nr,rc⟩ T)=>rcheck_dd h
 rw[chkT_zero.mpr hM]at C;have HC:=Lib.hid C;have HL:=Lib.hid (fun W (h:IsD W ⟨P,np,pc,E,ne,ec,F,nf,fc,R,nr,rc⟩ T)=>rgraph_got W h hM)
 have HM:=Lib.hid hM;have HFEW:=Lib.hid (low_few hM);have B0:=Lib.hid (BxI.start hD T.period T.deadline);simp only[Sh.arg]at HC HL⊢;obtain⟨wA,hwA⟩: ∃wA,wA=w.alloc (.cells #[.int .i64 T.period,.int .i64 T.deadline,.slice P np pc,.slice E ne ec,.slice F nf fc,.slice R nr rc] 57):=⟨_,rfl⟩;obtain⟨wB,hwB⟩: ∃wB,wB=wA.alloc (.cells #[.slice none 0 0,.slice none 0 0,.slice none 0 0] 91):=⟨_,rfl⟩;rw[<-hwA]at B0;have hbB:Below wA.heap.size wA wB:=by rw[hwB];exact below_alloc _
 have sA:wA.heap.size=w.heap.size+1:=by rw[hwA];simp
 have rB:wB.heap[w.heap.size+1]? =some (.cells #[.slice none 0 0,.slice none 0 0,.slice none 0 0] 91 (0,0)):=by rw[hwB,<-sA];exact heap_alloc_new wA _
 have sB:wB.heap.size=w.heap.size+2:=by rw[hwB];simp[sA]
 have B1:=Lib.hid (B0.out.next hbB);have HRB:=Lib.hid rB;have HSB:=Lib.hid sB;have HW:=Lib.hid (And.intro hwA hwB);clear hD hM C hwA hwB B0 hbB rB sA sB;go_enter Tryz.func65,Tryz.ntmps65;go_wp2_with fail;rw[<-HW.out.1,<-HW.out.2];clear HW;refine(HC.out _ B1.out.d).mono ?_
 rintro e w1 ⟨rfl,b1⟩;have B2:=Lib.hid (B1.out.next b1);obtain⟨c0,c1,c2,c3,c4,c5⟩:=B2.out.b.cells;go_wp2_with fail;refine(HL.out _ B2.out.d).mono ?_
 rintro e w2 ⟨vW,vE,vP,rfl,hOW,hOE,hOP,b2⟩;have B3:=Lib.hid (B2.out.next b2);have hb12:Below wB.heap.size wB w2:=b1.trans (b2.mono b1.size);obtain⟨w3,hw3⟩: ∃w3,w3=w2.alloc (.cells #[vW,vE,vP] 91):=⟨_,rfl⟩;have hb3:Below w2.heap.size w2 w3:=by rw[hw3];exact below_alloc _
 have rB3:w3.heap[w.heap.size+1]? =some (.cells #[.slice none 0 0,.slice none 0 0,.slice none 0 0] 91 (0,0)):=by
  rw[(hb12.trans (hb3.mono hb12.size)).block _ (by rw[HSB.out];omega)]
  exact HRB.out
 have rL3:w3.heap[w2.heap.size]? =some (.cells #[vW,vE,vP] 91 (0,0)):=by rw[hw3];exact heap_alloc_new w2 _
 have HOW:=Lib.hid (own_below hOW hb3);have HOE:=Lib.hid (own_below hOE hb3);have HOP:=Lib.hid (own_below hOP hb3);have B4:=Lib.hid (B3.out.next hb3);have hw12:w.heap.size+2<=w1.heap.size:=by have:=b1.size;rw[HSB.out]at this;exact this
 have hw23:w1.heap.size<=w2.heap.size:=b2.size;obtain⟨AW,cW,AE,cE,eW,eE,hIG⟩:=own_isG B4.out.d.tab HOW.out HOE.out (by have:=HFEW.out.1;omega) HFEW.out.2.1
 subst eW eE;obtain⟨AP,cP,eP⟩:=OwnP.slice HOP.out;subst eP;have HIG:=Lib.hid hIG;have HRB3:=Lib.hid rB3;have HRL3:=Lib.hid rL3;clear b1 c0 c1 c2 c3 c4 c5 hOW hOE hOP b2 hb12 hb3 rB3 rL3 hIG HC HL B1 B2 B3;go_wp2_with fail;rw[<-hw3];clear hw3;refine(rcheck_gr HIG.out).mono ?_
 rintro e w4 ⟨rfl,b4⟩;have hs3:w2.heap.size<w3.heap.size:=(Array.getElem?_eq_some_iff.mp HRL3.out).1
 have hrb:=(b4.block (w.heap.size+1) (by omega)).trans HRB3.out
 have hrl:=(b4.block w2.heap.size hs3).trans HRL3.out;have HBW:=Lib.hid (B4.out.b.bel.trans (b4.mono B4.out.b.bel.size));have HO:=Lib.hid (And.intro (own_below HOW.out b4) (And.intro (own_below HOE.out b4) (own_below HOP.out b4)));have y0:=cell_of_row w4 (w.heap.size+1) 0 _ _ _ hrb;have y1:=cell_of_row w4 (w.heap.size+1) 1 _ _ _ hrb;have y2:=cell_of_row w4 (w.heap.size+1) 2 _ _ _ hrb;simp at y0 y1 y2;have z0:=frozen_of_row w4 (w.heap.size+1) 0 _ _ hrb;have z1:=frozen_of_row w4 (w.heap.size+1) 1 _ _ hrb;have z2:=frozen_of_row w4 (w.heap.size+1) 2 _ _ hrb;have l0:=cell_of_row w4 w2.heap.size 0 _ _ _ hrl;have l1:=cell_of_row w4 w2.heap.size 1 _ _ _ hrl;have l2:=cell_of_row w4 w2.heap.size 2 _ _ _ hrl;simp at l0 l1 l2;have HRW:=Lib.hid hrb;have hchk:(chkE (lowW T) (lowE T)=0)↔May (lowW T) (lowE T):=chkE_zero;obtain⟨r,hr⟩: ∃r,r=chkE (lowW T) (lowE T):=⟨_,rfl⟩;rw[<-hr]at hchk⊢;obtain⟨kW,hkW⟩: ∃k,k=(lowW T).length:=⟨_,rfl⟩;obtain⟨kE,hkE⟩: ∃k,k=(lowE T).length:=⟨_,rfl⟩;obtain⟨kP,hkP⟩: ∃k,k=(lowP T).length:=⟨_,rfl⟩;rw[<-hkW,<-hkE,<-hkP]at HO⊢;rw[<-hkW]at l0;rw[<-hkE]at l1;rw[<-hkP]at l2;have HCK:=Lib.hid hchk;have HK:=Lib.hid (And.intro hkW (And.intro hkE hkP));clear hrb hrl b4 hr hchk hkW hkE hkP HIG HRB3 HRL3 HOW HOE HOP B4;have hle:w.heap.size<=w.heap.size+1:=Nat.le_succ _
 by_cases h0:r=0
 ·have hOK: LowOk T:=⟨HM.out,HCK.out.mp h0⟩
  have HOK:=Lib.hid hOK;have hX:=Lib.hid (lowX_zero.mpr hOK);subst h0;clear hOK;go_wp2;have h1:=heap_setCell_same w4 (w.heap.size+1) 0 _ _ (.slice AW kW cW) HRW.out;have h2:=heap_setCell_same _ (w.heap.size+1) 1 _ _ (.slice AE kE cE) h1;have h3:=heap_setCell_same _ (w.heap.size+1) 2 _ _ (.slice AP kP cP) h2;obtain⟨x2,hx2⟩: ∃x2,x2=((w4.setCell ⟨w.heap.size+1,0,none⟩ (.slice AW kW cW)).setCell ⟨w.heap.size+1,1,none⟩ (.slice AE kE cE)).setCell ⟨w.heap.size+1,2,none⟩ (.slice AP kP cP):=⟨_,rfl⟩;rw[<-hx2]at h3⊢;have ho: ∀k,k≠w.heap.size+1->x2.heap[k]? =w4.heap[k]?:=fun k hk=>by rw[hx2,heap_setCell_other _ _ _ _ hk,heap_setCell_other _ _ _ _ hk,heap_setCell_other _ _ _ _ hk]
  have hbx:Below w.heap.size w4 x2:=by
   rw[hx2];exact(((Below.refl _ w4).setCell hle _).setCell hle _).setCell hle _
  have k0:=cell_of_row x2 (w.heap.size+1) 0 _ _ _ h3;have k1:=cell_of_row x2 (w.heap.size+1) 1 _ _ _ h3;have k2:=cell_of_row x2 (w.heap.size+1) 2 _ _ _ h3;simp at k0 k1 k2;clear hx2;refine bodyPost_ret (v:=.tuple #[.agg #[.slice AW kW cW,.slice AE kE cE,.slice AP kP cP],.int .i64 0]) ?_ rfl ⟨_,_,_,by rw[hX.out],?_,?_,?_,HBW.out.trans hbx⟩
  ·rw [results_cell_tmp rfl]
   go_simp
  ·rw[show lowWv T=lowW T by unfold lowWv;rw[if_pos HOK.out]];unfold OwnI;rw[<-HK.out.1];exact own_less (other_own HO.out.1 HRW.out (by decide) ho) (by omega)
  ·rw[show lowEv T=lowE T by unfold lowEv;rw[if_pos HOK.out]];unfold OwnE;rw[<-HK.out.2.1];exact own_less (other_own HO.out.2.1 HRW.out (by decide) ho) (by omega)
  ·rw[show lowPv T=lowP T by unfold lowPv;rw[if_pos HOK.out]];unfold OwnP;rw[<-HK.out.2.2];exact own_less (other_own HO.out.2.2 HRW.out (by decide) ho) (by omega)
 ·have hb: (r != 0) = true:=bne_iff_ne.mpr h0
  have hX:Hid ((70:Int)=lowX T):=Lib.hid (by unfold lowX;rw[if_pos HM.out,if_neg (fun k=>h0 (HCK.out.mpr k))])
  clear h0;go_wp2;have h1:=heap_setCell_same w4 (w.heap.size+1) 0 _ _ (.slice none 0 0) HRW.out;have h2:=heap_setCell_same _ (w.heap.size+1) 1 _ _ (.slice none 0 0) h1;have h3:=heap_setCell_same _ (w.heap.size+1) 2 _ _ (.slice none 0 0) h2;obtain⟨x2,hx2⟩: ∃x2,x2=((w4.setCell ⟨w.heap.size+1,0,none⟩ (.slice none 0 0)).setCell ⟨w.heap.size+1,1,none⟩ (.slice none 0 0)).setCell ⟨w.heap.size+1,2,none⟩ (.slice none 0 0):=⟨_,rfl⟩;rw[<-hx2]at h3⊢;have hbx:Below w.heap.size w4 x2:=by
   rw[hx2];exact(((Below.refl _ w4).setCell hle _).setCell hle _).setCell hle _
  have k0:=cell_of_row x2 (w.heap.size+1) 0 _ _ _ h3;have k1:=cell_of_row x2 (w.heap.size+1) 1 _ _ _ h3;have k2:=cell_of_row x2 (w.heap.size+1) 2 _ _ _ h3;simp at k0 k1 k2;clear hx2;refine bodyPost_ret (v:=.tuple #[.agg #[.slice none 0 0,.slice none 0 0,.slice none 0 0],.int .i64 70]) ?_ rfl (gotLow_no hX.out (by rw[<-hX.out];decide) (HBW.out.trans hbx))
  rw[results_cell_tmp rfl]
  go_simp
theorem rlower_any(s:Sh)(T:Task)(w:World)(hD:IsD w s T):Calls Tryz.prog 65 #[s.arg T.period T.deadline] w (GotLow T w):=by
 by_cases hM:MayT T
 ·exact rlower_may s T w hD hM
 ·exact rlower_bad s T w hD hM
end Go.Proofs.YtlfekmbalgkmeaaGreatDoor
