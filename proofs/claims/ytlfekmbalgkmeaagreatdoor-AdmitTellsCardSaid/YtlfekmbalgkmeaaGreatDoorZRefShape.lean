import Derived.Test.YtlfekmbalgkmeaaGreatDoorZM30
import Derived.Test.YtlfekmbalgkmeaaGreatDoorZM39
import Derived.Test.YtlfekmbalgkmeaaGreatDoorZRefLower
import Derived.Test.YtlfekmbalgkmeaaGreatDoorZLowTellsWalk
import Derived.Test.YtlfekmbalgkmeaaGreatDoorZM24
import Derived.Test.YtlfekmbalgkmeaaGreatDoorZM26
import Derived.Test.YtlfekmbalgkmeaaGreatDoorZM9
set_option linter.unusedSimpArgs false
set_option linter.unnecessarySimpa false
set_option linter.unusedVariables false
set_option maxRecDepth 100000
set_option maxHeartbeats 32000000
namespace Go.Proofs.YtlfekmbalgkmeaaGreatDoor
open Go Go.RowKit
theorem most_max{l:List Int}(h:l≠ [])(h0: ∀z∈l,0<=z):most l=maxL l:=by
 obtain⟨h1,h2⟩:=maxL_mem h;obtain⟨k0,k1,k2⟩:=most_spec l;have a:=k1 _ h1;rcases k2 with e|e
 ·have:=h0 _ h1;omega
 ·have:=h2 _ e;omega
def PhiR4(w2 wf:World)(g:Nat)(A:Option Addr)(n c:Nat)(F:Option Addr)(m d:Nat)(tot lg D P:Int):Nat->Value->World->Prop
 |0,v,w=>v= .pointer (some ⟨g,0,none⟩)
 |1,v,w=>v=(.agg #[.slice A n c,.slice F m d])
 |2,v,w=>v= .int .i64 tot
 |3,v,w=>v= .pointer (some ⟨g,0,none⟩)
 |4,v,w=>v=(.agg #[.slice A n c,.slice F m d])
 |5,v,w=>v= .int .i64 lg
 |6,v,w=>v= .pointer (some ⟨wf.heap.size,1,none⟩)
 |7,v,w=>v= .int .i64 D
 |8,v,w=>v= .pointer (some ⟨wf.heap.size,0,none⟩)
 |9,v,w=>v= .int .i64 P
 |10,v,w=>v= .agg #[.int .i64 tot,.int .i64 lg,.int .i64 0,.int .i64 D,.int .i64 P]
 |11,v,w=> ∃g2,v= .pointer (some ⟨g2,0,none⟩)/\w2.heap.size<=g2/\RowV g2 44 [.int .i64 0,.int .i64 0,.int .i64 0,.int .i64 0,.int .i64 0] w
 |12,v,w=>True
 |_,_,_=>True
theorem phiR4_below(w2 wf:World)(g:Nat)(A:Option Addr)(n c:Nat)(F:Option Addr)(m d:Nat)(tot lg D P:Int): ∀kq v w w',PhiR4 w2 wf g A n c F m d tot lg D P kq v w->Below w.heap.size w w'->PhiR4 w2 wf g A n c F m d tot lg D P kq v w':=by
 intro kq v w w' h hb
 match kq,h with
 |0,h=>exact h
 |1,h=>exact h
 |2,h=>exact h
 |3,h=>exact h
 |4,h=>exact h
 |5,h=>exact h
 |6,h=>exact h
 |7,h=>exact h
 |8,h=>exact h
 |9,h=>exact h
 |10,h=>exact h
 |11,h=>exact(by obtain⟨g2,e,hg2,hr⟩:=h;exact⟨g2,e,hg2,hr.below hb hr.lt⟩)
 |12,h=>exact h
 |kq+13,h=>exact trivial
def PhiR8(g2 g:Nat)(A:Option Addr)(n c ab ao k:Nat)(x u:Int):Nat->Value->World->Prop
 |0,v,w=>v= .pointer (some ⟨g2,2,none⟩)
 |1,v,w=>v= .int .i64 x
 |2,v,w=>v= .pointer (some ⟨g,0,none⟩)
 |3,v,w=>v= .pointer (some ⟨g,0,none⟩)
 |4,v,w=>v= .slice (some ⟨ab,ao,none⟩) n c
 |5,v,w=>v= .int .i64 (k:Int)
 |6,v,w=>v= .pointer (some ⟨ab,ao+k,none⟩)
 |7,v,w=>v= .int .i64 u
 |8,v,w=>v= .int .i64 (max x u)
 |9,v,w=>v= .pointer (some ⟨g2,2,none⟩)
 |10,v,w=>True
 |_,_,_=>True
theorem phiR8_below(g2 g:Nat)(A:Option Addr)(n c ab ao k:Nat)(x u:Int): ∀kq v w w',PhiR8 g2 g A n c ab ao k x u kq v w->Below w.heap.size w w'->PhiR8 g2 g A n c ab ao k x u kq v w':=by
 intro kq v w w' h hb
 match kq,h with
 |0,h=>exact h
 |1,h=>exact h
 |2,h=>exact h
 |3,h=>exact h
 |4,h=>exact h
 |5,h=>exact h
 |6,h=>exact h
 |7,h=>exact h
 |8,h=>exact h
 |9,h=>exact h
 |10,h=>exact h
 |kq+11,h=>exact trivial
theorem rshape_any(s:Sh)(T:Task)(wf:World)(hD:IsD wf s T):Calls Tryz.prog 37 #[s.arg T.period T.deadline] wf
    fun e w'=>e= .returned (.tuple #[(shapeT T).val, .int .i64 (lowX T)])/\Below wf.heap.size wf w':=by
  have HLW:=Lib.hid (fun W (b:Below wf.heap.size wf W)=>rlower_sz (s:=s) (T:=T) (w:=W) rfl rfl rfl (hD.below b))
  have hsz:=lows_few (T:=T);obtain⟨sP,np,pc,sE,ne,ec,sF,nf,fc,sR,nr,rc⟩:=s;clear hD
  by_cases hX:lowX T=0
  · have hOK:=lowX_zero.mp hX;obtain⟨hw1,hw2⟩:=low_work hOK;have hw3:=hsz hX;have hfit:=shape_ok hOK;have hyes:=low_yes hOK;have hsv:shapeT T=⟨totalV (lowWv T) (lowEv T),longV (lowWv T) (lowEv T),maxL (lowWv T),T.deadline,T.period⟩:=if_pos hOK;have hG:May (lowWv T) (lowEv T):=by rw[hyes.1,hyes.2.1];exact hOK.2
    have hW1000: ∀z∈lowWv T,0<=z/\z<=1000:=hG.work;have hmost:most (lowWv T)=maxL (lowWv T):=most_max (fun e=>by rw[e]at hw1;simp at hw1) (fun z hz=>(hw2 z hz).1)
    have ht:totalV (lowWv T) (lowEv T)=(lowWv T).sum:=if_pos hG;have hl:longV (lowWv T) (lowEv T)=most (farK (lowWv T) (lowEv T) (lowWv T).length):=if_pos hG;rw[hX]at HLW;rw[hsv,hX,<-hmost];unfold Shp.val;clear hfit hyes hsv hmost hOK hX hsz;obtain⟨P,hP⟩: ∃P,P=T.period:=⟨_,rfl⟩;obtain⟨D,hDe⟩: ∃P,P=T.deadline:=⟨_,rfl⟩;obtain⟨tot,htot⟩: ∃P,P=totalV (lowWv T) (lowEv T):=⟨_,rfl⟩;obtain⟨lg,hlg⟩: ∃P,P=longV (lowWv T) (lowEv T):=⟨_,rfl⟩;obtain⟨n,hn⟩: ∃n,n=(lowWv T).length:=⟨_,rfl⟩;obtain⟨m,hm⟩: ∃n,n=(lowEv T).length:=⟨_,rfl⟩;obtain⟨z0,hz⟩: ∃n,n=(lowPv T).length:=⟨_,rfl⟩;obtain⟨W,hW⟩: ∃W,W=lowWv T:=⟨_,rfl⟩;obtain⟨E,hE⟩: ∃W,W=lowEv T:=⟨_,rfl⟩;obtain⟨Q,hQ⟩: ∃W,W=lowPv T:=⟨_,rfl⟩;dsimp only;rw[<-hP,<-hDe,<-hn,<-hm,<-hz,<-hW,<-hE,<-hQ]at HLW;rw[<-hn]at hw1 hw3;rw[<-hP,<-hDe,<-htot,<-hlg,<-hW];rw[<-htot,<-hW]at ht;rw[<-hlg,<-hW,<-hE]at hl;rw[<-hW]at hw2 hn hW1000;rw[<-hE]at hm;rw[<-hW,<-hE]at hG;have hnl:n<=700:=by omega
    have HTO: ∀{A c F d} (w:World),IsG w A n c F m d W E->Calls Tryz.prog 66 #[.agg #[.slice A n c, .slice F m d]] w fun e w'=>e= .returned (.int .i64 tot)/\Below w.heap.size w w':=fun{A c F d} w h=>by rw[ht];exact total_any A F n c m d W w hn.symm (by omega) hW1000 h.ints
    have HLO: ∀{A c F d} (w:World),IsG w A n c F m d W E->Calls Tryz.prog 67 #[.agg #[.slice A n c, .slice F m d]] w fun e w'=>e= .returned (.int .i64 lg)/\Below w.heap.size w w':=fun{A c F d} w h=>by
      rw[hl,<-hn];exact rlong_any A F n c m d W E w hn.symm (by omega) hm.symm (by have:=h.lm;omega) hG.work (by rw[hn];exact hG.fits) hG.acyc h.ints h.pairs (fun e=>(h.hA e).2)
    clear hm ht hl hW1000 hP hDe hz hW hE hQ htot hlg hG;have B0:=Lib.hid (Rwk.start wf [(57, [.int .i64 P, .int .i64 D, .slice sP np pc, .slice sE ne ec, .slice sF nf fc, .slice sR nr rc]),(44, [.int .i64 0, .int .i64 0, .int .i64 0, .int .i64 0, .int .i64 0])]);obtain⟨dv,hdv⟩: ∃dv:List Value,dv= [.int .i64 P, .int .i64 D, .slice sP np pc, .slice sE ne ec, .slice sF nf fc, .slice sR nr rc]:=⟨_,rfl⟩;dsimp only[Sh.arg]at HLW⊢;have HTO':= @HTO;have HLO':= @HLO;clear HTO HLO;have HN:=Lib.hid hn;have HW2:=Lib.hid hw2;have HDV:=Lib.hid hdv;clear hn hw2;go_enter Tryz.func37,Tryz.ntmps37;go_wp2_with fail;refine(HLW.out _ B0.out.bel).mono ?_
    rintro e w1 ⟨A,c,F,d,R,k0,rfl,hL,b⟩;have HTO:=Lib.hid (fun w h=>HTO' (A:=A) (c:=c) (F:=F) (d:=d) w h)
    have HLO:=Lib.hid (fun w h=>HLO' (A:=A) (c:=c) (F:=F) (d:=d) w h)
    clear HTO' HLO' HLW;have HB:=Lib.hid (show BxShp wf _ w1.heap.size A n c F m d (.slice R z0 k0) W E (w1.alloc (.cells #[.slice A n c, .slice F m d, .slice R z0 k0] 91))from⟨(B0.out.next b).next (below_alloc _),RowV.new _ _ _,hL.g.below (below_alloc _)⟩)
    clear b hL B0;rw[<-hdv]at HB;clear hdv;go_wp2_with fail;obtain⟨g,hg⟩: ∃g,g=w1.heap.size:=⟨_,rfl⟩;obtain⟨w2,hw2⟩: ∃w2,w2=w1.alloc (.cells #[.slice A n c, .slice F m d, .slice R z0 k0] 91):=⟨_,rfl⟩;rw[<-hw2,<-hg]at HB;rw[<-hw2,<-hg];clear hw2 hg;have HBZ:=Lib.hid (fun z (b:Below w2.heap.size w2 z)=>HB.out.next b)
    refine wp_region_stored 12 [17,18,19,20,21,22,23,24,25,26,27,6,1000] [] (by kernel_rfl) (by kernel_rfl) (by intro d hd;simp at hd⊢;omega) (fun z=>BxShp wf [(57,dv),(44, [.int .i64 0, .int .i64 0, .int .i64 0, .int .i64 0, .int .i64 0])] g A n c F m d (.slice R z0 k0) W E z/\Below w2.heap.size w2 z) (PhiR4 w2 wf g A n c F m d tot lg D P) (fun f z=> ∃g2,f 6= .pointer (some ⟨g2,0,none⟩)/\w2.heap.size<=g2/\RowV g2 44 [.int .i64 tot, .int .i64 lg, .int .i64 0, .int .i64 D, .int .i64 P] z/\Below w2.heap.size w2 z)
      (fun x y h hb=>⟨h.1.next hb,h.2.trans (hb.mono h.2.size)⟩) (phiR4_below w2 wf g A n c F m d tot lg D P) (⟨HB.out.next (Below.refl _ _).drew,(Below.refl _ _).drew⟩) ?hstep ?hpure ?hstore ?htheta ?hend
    case hstep=>
      intro kq o hkp hkS ho a w hI hA hd K hK;obtain⟨ρ,hρ⟩: ∃ρ,a.eval=ρ:=⟨_,rfl⟩;rw[hρ]at hA hd
      match kq,hkp,hkS,ho with
      | 0, _, _, ho =>
        have hoo:=Option.some.inj ho;subst hoo;exact fx_val hK hρ (.pointer (some ⟨g,0,none⟩)) (by have h:=hA.tmp 4 (by decide);simp[execOp,h,go_sem]) rfl
      | 1, _, _, ho =>
        have hoo:=Option.some.inj ho;subst hoo;have f0:(ρ (.tmp 17))= .pointer (some ⟨g,0,none⟩):=hd ⟨0, .data⟩ (by simp) (by rfl)
        have q0:=hI.1.r.cell (j:=0) rfl;have q1:=hI.1.r.cell (j:=1) rfl;exact fx_val hK hρ (.agg #[.slice A n c, .slice F m d]) (by simp[execOp,f0,q0,q1,go_sem]) rfl
      | 2, _, _, ho =>
        have hoo:=Option.some.inj ho;subst hoo;have f1:(ρ (.tmp 18))=(.agg #[.slice A n c, .slice F m d]):=hd ⟨1, .data⟩ (by simp) (by rfl)
        exact fx_call hK hρ 66 _ _ #[.agg #[.slice A n c, .slice F m d]] rfl (by simp only[List.map_toArray,List.map_cons,List.map_nil,hA.const,f1]) (eg_of Tryz.func66 (by kernel_rfl) rfl) ((HTO.out w hI.1.l).mono fun e w' ⟨he,hb⟩=>⟨_,he,rfl,hb⟩)
      | 3, _, _, ho =>
        have hoo:=Option.some.inj ho;subst hoo;exact fx_val hK hρ (.pointer (some ⟨g,0,none⟩)) (by have h:=hA.tmp 4 (by decide);simp[execOp,h,go_sem]) rfl
      | 4, _, _, ho =>
        have hoo:=Option.some.inj ho;subst hoo;have f3:(ρ (.tmp 20))= .pointer (some ⟨g,0,none⟩):=hd ⟨3, .data⟩ (by simp) (by rfl)
        have q0:=hI.1.r.cell (j:=0) rfl;have q1:=hI.1.r.cell (j:=1) rfl;exact fx_val hK hρ (.agg #[.slice A n c, .slice F m d]) (by simp[execOp,f3,q0,q1,go_sem]) rfl
      | 5, _, _, ho =>
        have hoo:=Option.some.inj ho;subst hoo;have f4:(ρ (.tmp 21))=(.agg #[.slice A n c, .slice F m d]):=hd ⟨4, .data⟩ (by simp) (by rfl)
        exact fx_call hK hρ 67 _ _ #[.agg #[.slice A n c, .slice F m d]] rfl (by simp only[List.map_toArray,List.map_cons,List.map_nil,hA.const,f4]) (eg_of Tryz.func67 (by kernel_rfl) rfl) ((HLO.out w hI.1.l).mono fun e w' ⟨he,hb⟩=>⟨_,he,rfl,hb⟩)
      | 6, _, _, ho =>
        have hoo:=Option.some.inj ho;subst hoo;exact fx_val hK hρ (.pointer (some ⟨wf.heap.size,1,none⟩)) (by have h:=hA.tmp 1 (by decide);simp[execOp,h,go_sem]) rfl
      | 7, _, _, ho =>
        have hoo:=Option.some.inj ho;subst hoo;have f6:(ρ (.tmp 23))= .pointer (some ⟨wf.heap.size,1,none⟩):=hd ⟨6, .data⟩ (by simp) (by rfl)
        have q0:=hI.1.b.cell 0 1 rfl (by rw[HDV.out];rfl)
        simp only[Nat.add_zero]at q0;exact fx_val hK hρ (.int .i64 D) (by simp[execOp,f6,q0,go_sem]) rfl
      | 8, _, _, ho =>
        have hoo:=Option.some.inj ho;subst hoo;exact fx_val hK hρ (.pointer (some ⟨wf.heap.size,0,none⟩)) (by have h:=hA.tmp 1 (by decide);simp[execOp,h,go_sem]) rfl
      | 9, _, _, ho =>
        have hoo:=Option.some.inj ho;subst hoo;have f8:(ρ (.tmp 25))= .pointer (some ⟨wf.heap.size,0,none⟩):=hd ⟨8, .data⟩ (by simp) (by rfl)
        have q0:=hI.1.b.cell 0 0 rfl (by rw[HDV.out];rfl)
        simp only[Nat.add_zero]at q0;exact fx_val hK hρ (.int .i64 P) (by simp[execOp,f8,q0,go_sem]) rfl
      | 10, _, _, ho =>
        have hoo:=Option.some.inj ho;subst hoo;have f2:(ρ (.tmp 19))= .int .i64 tot:=hd ⟨2, .data⟩ (by simp) (by rfl)
        have f5:(ρ (.tmp 22))= .int .i64 lg:=hd ⟨5, .data⟩ (by simp) (by rfl)
        have f7:(ρ (.tmp 24))= .int .i64 D:=hd ⟨7, .data⟩ (by simp) (by rfl)
        have f9:(ρ (.tmp 26))= .int .i64 P:=hd ⟨9, .data⟩ (by simp) (by rfl)
        exact fx_val hK hρ (.agg #[.int .i64 tot, .int .i64 lg, .int .i64 0, .int .i64 D, .int .i64 P]) (by simp[execOp,f2,f5,f7,f9,hA.const,hA.const,go_sem]) rfl
      | 11, _, _, ho =>
        have hoo:=Option.some.inj ho;subst hoo;exact fx_make hK hρ (.pointer (some ⟨w.heap.size,0,none⟩)) (w.alloc (.cells #[.int .i64 0, .int .i64 0, .int .i64 0, .int .i64 0, .int .i64 0] 44)) (by simp[execOp,go_sem]) ⟨w.heap.size,rfl,hI.2.size,RowV.new w _ _⟩ (below_alloc _)
      |12,hkp,_,_=>exact absurd rfl hkp
      |kq+13,_,_,ho=>simp at ho
    case hpure=>
      intro kq o hkS ho ρ w hA hd;exact absurd hkS (by simp)
    case hstore=>
      intro o ho a w hI hA hF K hK;have hoo:=Option.some.inj ho;subst hoo;have f10:a.eval (.tmp 27)= .agg #[.int .i64 tot, .int .i64 lg, .int .i64 0, .int .i64 D, .int .i64 P]:=hF 10 (by decide) (by decide) (by decide)
      obtain⟨g2,f11,hg2,hr⟩:=hF 11 (by decide) (by decide) (by decide)
      simp only[List.getD_cons_zero,List.getD_cons_succ]at f11;have q0:=hr.cell (j:=0) rfl;have q1:=hr.cell (j:=1) rfl;have q2:=hr.cell (j:=2) rfl;have q3:=hr.cell (j:=3) rfl;have q4:=hr.cell (j:=4) rfl;have e0:=hr.frozen 0;have e1:=hr.frozen 1;have e2:=hr.frozen 2;have e3:=hr.frozen 3;have e4:=hr.frozen 4;have hr5:=((((hr.set 0 (.int .i64 tot)).set 1 (.int .i64 lg)).set 2 (.int .i64 0)).set 3 (.int .i64 D)).set 4 (.int .i64 P);have hb5:=((((hI.2.setCell (show w2.heap.size<=(⟨g2,0,none⟩:Addr).block from hg2) (.int .i64 tot)).setCell (show w2.heap.size<=(⟨g2,1,none⟩:Addr).block from hg2) (.int .i64 lg)).setCell (show w2.heap.size<=(⟨g2,2,none⟩:Addr).block from hg2) (.int .i64 0)).setCell (show w2.heap.size<=(⟨g2,3,none⟩:Addr).block from hg2) (.int .i64 D)).setCell (show w2.heap.size<=(⟨g2,4,none⟩:Addr).block from hg2) (.int .i64 P)
      have g11:=f11;obtain⟨ρ,hρ⟩: ∃ρ,a.eval=ρ:=⟨_,rfl⟩;rw[hρ]at g11 f10;unfold Oper.wp;rw[show(execOp a.eval _).run Tryz.prog w= .ok .skip (((((w.setCell ⟨g2,0,none⟩ (.int .i64 tot)).setCell ⟨g2,1,none⟩ (.int .i64 lg)).setCell ⟨g2,2,none⟩ (.int .i64 0)).setCell ⟨g2,3,none⟩ (.int .i64 D)).setCell ⟨g2,4,none⟩ (.int .i64 P))from by rw[hρ];simp[execOp,g11,f10,e0,e1,e2,e3,e4,q0,q1,q2,q3,q4,go_sem],Oper.upon_skip]
      exact hK _ ⟨g2,f11,hg2,hr5,hb5⟩
    case htheta=>
      intro f g w h hT;obtain⟨g2,q,hg2,hr,hb⟩:=hT;exact⟨g2,(h 11 (by decide) (by decide) (by decide)).symm.trans q,hg2,hr,hb⟩
    case hend=>
      intro vals w3 hT hF4;clear hF4;obtain⟨g2,f11,hg2,hr2,hb2⟩:=hT;have HR2:=Lib.hid hr2;have HZ2:=Lib.hid hb2;have HG2:=Lib.hid hg2;clear hr2 hb2 hg2;simp only[f11,fillA,fillL,List.contains_cons,List.contains_nil,Nat.reduceBEq,Bool.or_false,Bool.false_or,Bool.or_true,Bool.true_or,cond_true,cond_false,Nat.zero_add,Nat.reduceAdd];go_wp2_with fail;go_loopw [7] (fun v wr=> ∃(k:Nat) (x:Int),k<=n/\v= .int .i64 k/\Hid (x=most (W.take k))/\Hid (Below w2.heap.size w2 wr)/\Hid (RowV g2 44 [.int .i64 tot, .int .i64 lg, .int .i64 x, .int .i64 D, .int .i64 P] wr)) (fun v _=>n - (intOf v).toNat)
      case atStart=>exact⟨0,0,Nat.zero_le _,rfl,Lib.hid rfl,HZ2,HR2⟩
      case round=>
        obtain⟨k,x,hk,rfl,HX,HZ,HR⟩:=hrel;have hr:=HR.out;have q1:=(HBZ.out wr HZ.out).r.cell (j:=0) rfl;have hgl:=(HBZ.out wr HZ.out).r.lt
        by_cases hlt:k<n
        · obtain⟨ab,ao,u,rfl,hab,hu,hcu⟩:=HB.out.l.ints.at_ (k:=k) (by rw[<-HN.out];exact hlt)
          have HCU:=Lib.hid (fun z (b:Below w2.heap.size w2 z)=>(b.cell hab).trans hcu)
          have HX2:=Lib.hid (show max x u=most (W.take (k+1)) by rw[most_snoc hu,<-HX.out])
          have HMX:=Lib.hid (max_pick x u);clear hu hcu;go_wp2_with fail;clear q1 hgl;refine wp_region_stored 10 [36,37,38,39,40,41,42,43,44,45,1000] [] (by kernel_rfl) (by kernel_rfl) (by intro d hd;simp at hd⊢;omega) (fun z=>Below w2.heap.size w2 z/\RowV g2 44 [.int .i64 tot, .int .i64 lg, .int .i64 x, .int .i64 D, .int .i64 P] z/\w2.heap.size<=g2) (PhiR8 g2 g (some ⟨ab,ao,none⟩) n c ab ao k x u) (fun _ z=>Below w2.heap.size w2 z/\RowV g2 44 [.int .i64 tot, .int .i64 lg, .int .i64 (max x u), .int .i64 D, .int .i64 P] z)
            (fun x y h hb=>⟨h.1.trans (hb.mono h.1.size),h.2.1.below hb h.2.1.lt,h.2.2⟩) (phiR8_below g2 g (some ⟨ab,ao,none⟩) n c ab ao k x u) (⟨HZ.out.drew,hr.below ((Below.refl _ _).drew) hr.lt,HG2.out⟩) ?hstep ?hpure ?hstore ?htheta ?hend
          case hstep=>
            intro kq o hkp hkS ho a w hI hA hd K hK;obtain⟨ρ,hρ⟩: ∃ρ,a.eval=ρ:=⟨_,rfl⟩;rw[hρ]at hA hd
            match kq,hkp,hkS,ho with
            | 0, _, _, ho =>
              have hoo:=Option.some.inj ho;subst hoo;exact fx_val hK hρ (.pointer (some ⟨g2,2,none⟩)) (by have h:=hA.tmp 6 (by decide);simp[execOp,h,go_sem]) rfl
            | 1, _, _, ho =>
              have hoo:=Option.some.inj ho;subst hoo;have f0:(ρ (.tmp 36))= .pointer (some ⟨g2,2,none⟩):=hd ⟨0, .data⟩ (by simp) (by rfl)
              have q0:=hI.2.1.cell (j:=2) rfl;exact fx_val hK hρ (.int .i64 x) (by simp[execOp,f0,q0,go_sem]) rfl
            | 2, _, _, ho =>
              have hoo:=Option.some.inj ho;subst hoo;exact fx_val hK hρ (.pointer (some ⟨g,0,none⟩)) (by have h:=hA.tmp 4 (by decide);simp[execOp,h,go_sem]) rfl
            | 3, _, _, ho =>
              have hoo:=Option.some.inj ho;subst hoo;have f2:(ρ (.tmp 38))= .pointer (some ⟨g,0,none⟩):=hd ⟨2, .data⟩ (by simp) (by rfl)
              exact fx_val hK hρ (.pointer (some ⟨g,0,none⟩)) (by simp[execOp,f2,go_sem]) rfl
            | 4, _, _, ho =>
              have hoo:=Option.some.inj ho;subst hoo;have f3:(ρ (.tmp 39))= .pointer (some ⟨g,0,none⟩):=hd ⟨3, .data⟩ (by simp) (by rfl)
              have q0:=(HBZ.out w hI.1).r.cell (j:=0) rfl;exact fx_val hK hρ (.slice (some ⟨ab,ao,none⟩) n c) (by simp[execOp,f3,q0,go_sem]) rfl
            | 5, _, _, ho =>
              have hoo:=Option.some.inj ho;subst hoo;exact fx_val hK hρ (.int .i64 (k:Int)) (by have h:=hA.tmp 7 (by decide);simp[execOp,h,go_sem]) rfl
            | 6, _, _, ho =>
              have hoo:=Option.some.inj ho;subst hoo;have f4:(ρ (.tmp 40))= .slice (some ⟨ab,ao,none⟩) n c:=hd ⟨4, .data⟩ (by simp) (by rfl)
              have f5:(ρ (.tmp 41))= .int .i64 (k:Int):=hd ⟨5, .data⟩ (by simp) (by rfl)
              exact fx_val hK hρ _ (idx_eqC rfl f4 f5 hlt) rfl
            | 7, _, _, ho =>
              have hoo:=Option.some.inj ho;subst hoo;have f6:(ρ (.tmp 42))= .pointer (some ⟨ab,ao+k,none⟩):=hd ⟨6, .data⟩ (by simp) (by rfl)
              have q0:=HCU.out w hI.1;exact fx_val hK hρ (.int .i64 u) (by simp[execOp,f6,q0,go_sem]) rfl
            | 8, _, _, ho =>
              have hoo:=Option.some.inj ho;subst hoo;have f1:(ρ (.tmp 37))= .int .i64 x:=hd ⟨1, .data⟩ (by simp) (by rfl)
              have f7:(ρ (.tmp 43))= .int .i64 u:=hd ⟨7, .data⟩ (by simp) (by rfl)
              exact fx_val hK hρ (.int .i64 (max x u)) (by simp[execOp,f1,f7,go_sem,HMX.out]) rfl
            | 9, _, _, ho =>
              have hoo:=Option.some.inj ho;subst hoo;exact fx_val hK hρ (.pointer (some ⟨g2,2,none⟩)) (by have h:=hA.tmp 6 (by decide);simp[execOp,h,go_sem]) rfl
            |10,hkp,_,_=>exact absurd rfl hkp
            |kq+11,_,_,ho=>simp at ho
          case hpure=>
            intro kq o hkS ho ρ w hA hd;exact absurd hkS (by simp)
          case hstore=>
            intro o ho a w hI hA hF K hK;have hoo:=Option.some.inj ho;subst hoo;have f8:a.eval (.tmp 44)= .int .i64 (max x u):=hF 8 (by decide) (by decide) (by decide)
            have f9:a.eval (.tmp 45)= .pointer (some ⟨g2,2,none⟩):=hF 9 (by decide) (by decide) (by decide)
            have q2:=hI.2.1.cell (j:=2) rfl;have e2:=hI.2.1.frozen 2;obtain⟨ρ,hρ⟩: ∃ρ,a.eval=ρ:=⟨_,rfl⟩;rw[hρ]at f8 f9;unfold Oper.wp;rw[show(execOp a.eval _).run Tryz.prog w= .ok .skip (w.setCell ⟨g2,2,none⟩ (.int .i64 (max x u)))from by rw[hρ];simp[execOp,f8,f9,e2,q2,go_sem],Oper.upon_skip]
            exact hK _ ⟨hI.1.setCell (show w2.heap.size<=(⟨g2,2,none⟩:Addr).block from hI.2.2) _,hI.2.1.set 2 _⟩
          case htheta=>
            intro f g w h hT;exact hT
          case hend=>
            intro vals8 w5 hT8 hF8;clear hF8;obtain⟨hb8,hr8⟩:=hT8;have HZ8:=Lib.hid hb8;have HR8:=Lib.hid hr8;clear hb8 hr8;simp only[fillA,fillL,List.contains_cons,List.contains_nil,Nat.reduceBEq,Bool.or_false,Bool.false_or,Bool.or_true,Bool.true_or,cond_true,cond_false,Nat.zero_add,Nat.reduceAdd];go_wp2;go_roundw
            case rel=>exact⟨k+1,max x u,by omega,by go_num,HX2,HZ8,HR8⟩
            case measure=>simp[intOf];omega
        · have e:k=n:=by omega
          subst e;have HXE:=Lib.hid (show x=most W by rw[HX.out,List.take_of_length_le (by rw[<-HN.out];exact Nat.le_refl _)])
          have c0:=HR.out.cell (j:=0) rfl;have c1:=HR.out.cell (j:=1) rfl;have c2:=HR.out.cell (j:=2) rfl;have c3:=HR.out.cell (j:=3) rfl;have c4:=HR.out.cell (j:=4) rfl;have B1:=Lib.hid (HBZ.out wr HZ.out).b;have c10:=B1.out.cell 1 0 rfl rfl;have c11:=B1.out.cell 1 1 rfl rfl;have c12:=B1.out.cell 1 2 rfl rfl;have c13:=B1.out.cell 1 3 rfl rfl;have c14:=B1.out.cell 1 4 rfl rfl;have z10:=B1.out.frozen 1 0 rfl;have z11:=B1.out.frozen 1 1 rfl;have z12:=B1.out.frozen 1 2 rfl;have z13:=B1.out.frozen 1 3 rfl;have z14:=B1.out.frozen 1 4 rfl;go_wp2;have B2:=B1.out.set5 1 rfl (.int .i64 tot) (.int .i64 lg) (.int .i64 x) (.int .i64 D) (.int .i64 P);refine bodyPost_ret (ret_shape rfl rfl rfl (B2.row 1 _ _ rfl)) rfl ?_
          exact⟨by rw[HXE.out];rfl,B2.bel⟩
  · have hN: ¬LowOk T:=fun h=>hX (lowX_zero.mpr h)
    have hsv:shapeT T=⟨0,0,0,0,0⟩:=if_neg hN;rw[hsv];unfold Shp.val;dsimp only;obtain⟨P,hP⟩: ∃P,P=T.period:=⟨_,rfl⟩;obtain⟨D,hDe⟩: ∃P,P=T.deadline:=⟨_,rfl⟩;obtain⟨n,hn⟩: ∃n,n=(lowWv T).length:=⟨_,rfl⟩;obtain⟨m,hm⟩: ∃n,n=(lowEv T).length:=⟨_,rfl⟩;obtain⟨z,hz⟩: ∃n,n=(lowPv T).length:=⟨_,rfl⟩;obtain⟨x,hx⟩: ∃n,n=lowX T:=⟨_,rfl⟩;rw[<-hP,<-hDe,<-hn,<-hm,<-hz,<-hx]at HLW;rw[<-hx]at hX;rw[<-hP,<-hDe,<-hx];have hb:(x !=0)=true:=bne_iff_ne.mpr hX;clear hsv hN hsz hP hDe hn hm hz hx hX;have B0:=Lib.hid (Rwk.start wf [(57, [.int .i64 P, .int .i64 D, .slice sP np pc, .slice sE ne ec, .slice sF nf fc, .slice sR nr rc]),(44, [.int .i64 0, .int .i64 0, .int .i64 0, .int .i64 0, .int .i64 0])]);dsimp only[Sh.arg]at HLW⊢;go_enter Tryz.func37,Tryz.ntmps37;go_wp2_with fail;refine(HLW.out _ B0.out.bel).mono ?_
    rintro e w1 ⟨A,c,F,d,R,k,rfl,hL,b⟩;have B1:=Lib.hid ((B0.out.next b).alloc (.cells #[.slice A n c, .slice F m d, .slice R z k] 91));clear b hL B0 HLW;have c10:=B1.out.cell 1 0 rfl rfl;have c11:=B1.out.cell 1 1 rfl rfl;have c12:=B1.out.cell 1 2 rfl rfl;have c13:=B1.out.cell 1 3 rfl rfl;have c14:=B1.out.cell 1 4 rfl rfl;have z10:=B1.out.frozen 1 0 rfl;have z11:=B1.out.frozen 1 1 rfl;have z12:=B1.out.frozen 1 2 rfl;have z13:=B1.out.frozen 1 3 rfl;have z14:=B1.out.frozen 1 4 rfl;go_upto_region 3 with(fail);obtain⟨w2,hw2⟩: ∃w2,w2=w1.alloc (.cells #[.slice A n c, .slice F m d, .slice R z k] 91):=⟨_,rfl⟩;rw[<-hw2]at B1 c10 c11 c12 c13 c14 z10 z11 z12 z13 z14;rw[<-hw2];clear hw2;go_wp2;have B2:=B1.out.set5 1 rfl (.int .i64 0) (.int .i64 0) (.int .i64 0) (.int .i64 0) (.int .i64 0);refine bodyPost_ret (ret_shape rfl rfl rfl (B2.row 1 _ _ rfl)) rfl ?_
    exact⟨rfl,B2.bel⟩
end Go.Proofs.YtlfekmbalgkmeaaGreatDoor
