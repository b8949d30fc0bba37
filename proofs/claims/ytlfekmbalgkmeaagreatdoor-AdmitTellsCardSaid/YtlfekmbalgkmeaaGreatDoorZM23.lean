import Derived.Test.YtlfekmbalgkmeaaGreatDoorZM22
import Derived.Test.YtlfekmbalgkmeaaGreatDoorZM2
import Derived.WalkKit
import Derived.WalkSmall
import Derived.Handy
import Derived.KernelRfl
import Derived.Below
import Derived.BigQuiet
import Derived.Deep.QuietTactic
import Derived.Lib.Hide
set_option linter.unusedSimpArgs false
set_option linter.unnecessarySimpa false
set_option linter.unusedVariables false
set_option maxRecDepth 100000
set_option maxHeartbeats 32000000
namespace Go.Proofs.YtlfekmbalgkmeaaGreatDoor
open Go.RowKit Go.Maps
def LayE(gb b1 b2 eb a b la fb:Nat):Nat->Value->World->Prop
 |0,v,_=>v= .pointer (some ⟨gb,0,none⟩)
 |1,v,_=>v= .pointer (some ⟨gb,0,none⟩)
 |2,v,_=>v= .pointer (some ⟨gb,0,none⟩)
 |3,v,_=>v= .pointer (some ⟨gb,4,none⟩)
 |4,v,_=>v= .map (some b2)
 |5,v,_=>v= .pointer (some ⟨eb,0,none⟩)
 |6,v,_=>v= .int .i64 ((a:Nat):Int)
 |7,v,_=>v= .int .i64 ((la:Nat):Int)
 |8,v,_=>v= .pointer (some ⟨gb,0,none⟩)
 |9,v,_=>v= .pointer (some ⟨gb,0,none⟩)
 |10,v,_=>v= .pointer (some ⟨gb,3,none⟩)
 |11,v,_=>v= .map (some b1)
 |12,v,_=>v= .pointer (some ⟨eb,1,none⟩)
 |13,v,_=>v= .int .i64 ((b:Nat):Int)
 |14,v,_=>v= .int .i64 ((fb:Nat):Int)
 |_,_,_=>True
theorem layE_any{gb b1 b2 eb a b la fb:Nat}: ∀(k:Nat) (v:Value) (w w':World),LayE gb b1 b2 eb a b la fb k v w->LayE gb b1 b2 eb a b la fb k v w'
 |0,_,_,_,h|1,_,_,_,h|2,_,_,_,h|3,_,_,_,h|4,_,_,_,h|5,_,_,_,h|6,_,_,_,h|7,_,_,_,h|8,_,_,_,h|9,_,_,_,h|10,_,_,_,h|11,_,_,_,h|12,_,_,_,h|13,_,_,_,h|14,_,_,_,h=>h
 |_+15,_,_,_,_=>trivial
theorem endsL_bound{ps fs:List (Int×Int×Int)}(hps:partsOk ps){x:Nat}(hx:x<ps.length): ∀z∈endsL fs ps x,0<=z/\z<=100000:=by
 intro z hz;unfold endsL at hz;rcases List.mem_append.mp hz with h|h
 ·obtain ⟨k,hk,rfl⟩:=List.mem_map.mp h
  have:=mem_touK.mp hk;omega
 ·rw [List.mem_singleton.mp h,List.getD_eq_getElem?_getD,List.getElem?_eq_getElem hx]
  have:=hps _ (List.getElem_mem hx);unfold partOk at this;show 0<=(ps[x]).2.2/\(ps[x]).2.2<=100000
  omega
theorem firN_le(fs:List (Int×Int×Int)): ∀x,firN fs x<=x * (fs.length+1)
  |0=>by simp[firN]
  | x + 1 => by
    rw[firN];have h1:=firN_le fs x;have h2:nst fs x<=fs.length+1:=by unfold nst;have:=touK_len fs (x:Int) 99;unfold touL;omega
    have h3:(x+1) * (fs.length+1)=x * (fs.length+1)+(fs.length+1):=Nat.succ_mul _ _;omega
theorem bEs_len(fs:List (Int×Int×Int))(bs:List (List Int×List Int))(n m:Nat)(hb: ∀b∈bs,b.1.length<=m/\b.2.length<=m): ∀j,(bEs fs bs n j).length<=j * (2 * m)
  |0=>by simp[bEs]
  | j + 1 => by
    rw[bEs,List.length_append,barN,List.length_append,List.length_map,List.length_map];have h1:=bEs_len fs bs n m hb j;have h3:(j+1) * (2 * m)=j * (2 * m)+2 * m:=Nat.succ_mul _ _;have h2:(bs.getD j ([], [])).1.length<=m/\(bs.getD j ([], [])).2.length<=m:=by
      rcases Nat.lt_or_ge j bs.length with h|h
      · rw[List.getD_eq_getElem?_getD,List.getElem?_eq_getElem h]
        exact hb _ (List.getElem_mem h)
      · rw[List.getD_eq_getElem?_getD,List.getElem?_eq_none h]
        exact⟨Nat.zero_le _,Nat.zero_le _⟩
    omega
theorem row_len'{np:Nat}{l:List Int}(h:RowOk np l):l.length<=np:=by
  have hat: ∀(i:Nat) (x:Int),l[i]? =some x->(i:Int)<=x:=by
    intro i
    induction i with
    |zero=>intro x e;have:=h.parts x (List.mem_of_getElem? e);omega
    | succ i ih =>
      intro x e;have hi:i<l.length:=by have:=(List.getElem?_eq_some_iff.mp e).1;omega
      have e':l[i]? =some l[i]:=List.getElem?_eq_getElem hi
      have h1:=ih _ e';have h2:=h.rises i _ _ e' e;omega
  rcases Nat.eq_zero_or_pos l.length with h0|h0
  · omega
  · have e:l[l.length - 1]? =some l[l.length - 1]:=List.getElem?_eq_getElem (by omega)
    have h1:=hat _ _ e;have h2:=h.parts _ (List.mem_of_getElem? e)
    omega
def GotLl(T:Task)(w:World)(e:Ending)(w':World):Prop:=∃ vW vE vP,e= .returned (.agg #[vW,vE,vP])/\OwnI w' w.heap.size vW (lowW T)/\OwnE w' w.heap.size vE (lowE T)/\OwnP w' w.heap.size vP (lowP T)/\Below w.heap.size w w'
theorem lay_any(s:Sh)(T:Task)(w:World)(hD:IsD w s T)(hM:MayT T):Calls Tryz.prog 88 #[s.arg T.period T.deadline] w (GotLl T w):=by
  obtain⟨P,np,pc,E,ne,ec,F,nf,fc,R,nr,rc⟩:=s;obtain⟨p,q,ps,es,fs,bs⟩:=T;have hmm:= @run_makeMap Tryz.prog;have HD:=Lib.hid hD;have HM:=Lib.hid hM;have hp:=hD.t.hp;have he:=hD.t.he;have hf:=hD.t.hf;have hr:=hD.t.hr;have hfew:=hM.few;unfold ManyT at hfew;simp only at hp he hf hr hfew;rw[hp,he,hf,hr]at hfew;have hnp:np<=16:=by omega
  have hne:ne<=48:=by omega
  have hnf:nf<=16:=by omega
  have hnr:nr<=4:=by omega
  have HP:=Lib.hid hp;have HE:=Lib.hid he;have HF:=Lib.hid hf;have HR:=Lib.hid hr;have HFI:Hid (∀x,x<=np->firN fs x<=272):=Lib.hid (fun x hx=>by
    have h1:=firN_le fs x;have h2:x * (fs.length+1)<=16 * 17:=Nat.mul_le_mul (by omega) (by rw[hf];omega)
    omega)
  simp only[Sh.arg];obtain⟨wA,hwA⟩: ∃wA,wA=w.alloc (.cells #[.int .i64 p, .int .i64 q, .slice P np pc, .slice E ne ec, .slice F nf fc, .slice R nr rc] 57):=⟨_,rfl⟩;obtain⟨wB,hwB⟩: ∃wB,wB=wA.alloc (.cells #[.slice none 0 0, .slice none 0 0, .slice none 0 0] 91):=⟨_,rfl⟩;obtain⟨wC,hwC⟩: ∃wC,wC=wB.alloc (.map #[] 0):=⟨_,rfl⟩;obtain⟨wD,hwD⟩: ∃wD,wD=wC.alloc (.map #[] 0):=⟨_,rfl⟩;obtain⟨b1,hb1⟩: ∃b,b=w.heap.size+2:=⟨_,rfl⟩;obtain⟨b2,hb2⟩: ∃b,b=w.heap.size+3:=⟨_,rfl⟩;obtain⟨gb,hgb⟩: ∃b,b=w.heap.size+4:=⟨_,rfl⟩;obtain⟨wG,hwG⟩: ∃wG,wG=wD.alloc (.cells #[.slice none 0 0, .slice none 0 0, .slice none 0 0, .map (some b1), .map (some b2)] 141):=⟨_,rfl⟩;have sA:wA.heap.size=w.heap.size+1:=by rw[hwA];simp
  have sB:wB.heap.size=w.heap.size+2:=by rw[hwB];simp[sA]
  have sC:wC.heap.size=w.heap.size+3:=by rw[hwC];simp[sB]
  have sD:wD.heap.size=w.heap.size+4:=by rw[hwD];simp[sC]
  have sG:wG.heap.size=w.heap.size+5:=by rw[hwG];simp[sD]
  have kA:Below w.heap.size w wA:=by rw[hwA];exact below_alloc _
  have kB:Below wA.heap.size wA wB:=by rw[hwB];exact below_alloc _
  have kC:Below wB.heap.size wB wC:=by rw[hwC];exact below_alloc _
  have kD:Below wC.heap.size wC wD:=by rw[hwD];exact below_alloc _
  have kG:Below wD.heap.size wD wG:=by rw[hwG];exact below_alloc _
  have rA:wA.heap[w.heap.size]? =some (.cells #[.int .i64 p, .int .i64 q, .slice P np pc, .slice E ne ec, .slice F nf fc, .slice R nr rc] 57 (0,0)):=by rw[hwA];exact heap_alloc_new w _
  have rB:wB.heap[w.heap.size+1]? =some (.cells #[.slice none 0 0, .slice none 0 0, .slice none 0 0] 91 (0,0)):=by rw[hwB,<-sA];exact heap_alloc_new wA _
  have mC:OwnM wC b1 0 (.map []):=by unfold OwnM;rw[hwC,hb1,<-sB];exact World.ownsMap_made _ _ _ _
  have mD:OwnM wD b2 0 (.map []):=by unfold OwnM;rw[hwD,hb2,<-sC];exact World.ownsMap_made _ _ _ _
  have kBG:Below wB.heap.size wB wG:=kC.trans ((kD.mono (by omega)).trans (kG.mono (by omega)))
  have kAG:Below wA.heap.size wA wG:=kB.trans (kBG.mono (by omega))
  have HRA:Hid (wG.heap[w.heap.size]? =some (.cells #[.int .i64 p, .int .i64 q, .slice P np pc, .slice E ne ec, .slice F nf fc, .slice R nr rc] 57 (0,0))):=Lib.hid (by rw[kAG.block _ (by omega)];exact rA)
  have HRB:Hid (wG.heap[w.heap.size+1]? =some (.cells #[.slice none 0 0, .slice none 0 0, .slice none 0 0] 91 (0,0))):=Lib.hid (by rw[kBG.block _ (by omega)];exact rB)
  obtain⟨base,hbase⟩: ∃b,b=w.heap.size+2:=⟨_,rfl⟩;have HG0:Hid (Gl base gb b1 b2 0 0 (.map []) (.map []) (.slice none 0 0) (.slice none 0 0) (.slice none 0 0) (wPs fs ps 0) (ePs fs 0) (pPs fs 0) wG):=Lib.hid ⟨by rw[hwG,hgb,<-sD];exact heap_alloc_new wD _,by omega,by omega,by omega,by omega,⟨rfl, .inl ⟨rfl,rfl⟩⟩,⟨rfl, .inl ⟨rfl,rfl⟩⟩,⟨rfl, .inl ⟨rfl,rfl⟩⟩,(mC.below (kD.trans (kG.mono (by omega)))),mD.below kG⟩
  have HWG:Hid (Below w.heap.size w wG):=Lib.hid (kA.trans (kAG.mono (by omega)))
  have HSG:=Lib.hid sG;have HBS:=Lib.hid hbase;have HGBE:Hid (gb=w.heap.size+1+1+1+1):=Lib.hid (by omega)
  have HB1E:Hid (b1=w.heap.size+1+1):=Lib.hid (by omega)
  have HB2E:Hid (b2=w.heap.size+1+1+1):=Lib.hid (by omega)
  have HWS:=Lib.hid (And.intro hwA (And.intro hwB (And.intro hwC (And.intro hwD hwG))));clear hD hM hp he hf hr hfew rA rB mC mD kA kB kC kD kG kBG kAG sA sB sC sD sG hwA hwB hwC hwD hwG hb1 hb2 hgb hbase;go_enter Tryz.func88,Tryz.ntmps88;go_wp2;rw[<-HGBE.out,<-HB2E.out,<-HB1E.out,<-HWS.out.1,<-HWS.out.2.1,<-HWS.out.2.2.1,<-HWS.out.2.2.2.1,<-HWS.out.2.2.2.2];clear HGBE HB1E HB2E HWS hmm;go_loopw [16] (fun iv wr=> ∃(j n1 n2:Nat) (D1 D2:DataW Unit) (vW vE vP:Value),j<=np/\iv= .int .i64 (j:Int)/\n1<=j/\n2<=300/\Hid (n2<=firN fs j)/\Hid (Gl base gb b1 b2 n1 n2 D1 D2 vW vE vP (wPs fs ps j) (ePs fs j) (pPs fs j) wr)/\Hid (Tells D1 (firN fs) j)/\Hid (Tells D2 (lasN fs) j)/\Hid (Below base wG wr)) (fun iv _=>np - (intOf iv).toNat)
  case atStart=>exact⟨0,0,0,_,_,_,_,_,Nat.zero_le _,rfl,Nat.le_refl _,by omega,Lib.hid (Nat.zero_le _),HG0,Lib.hid (Tells.zero _ _),Lib.hid (Tells.zero _ _),Lib.hid (Below.refl _ _)⟩
  case round=>
    obtain⟨j,n1,n2,D1,D2,vW,vE,vP,hj,rfl,hn1,hn2,HN2,HGJ,HT1,HT2,HBJ⟩:=hrel;clear HG0;have HWJ:Hid (Below w.heap.size w wr):=Lib.hid (HWG.out.trans (HBJ.out.mono (by rw[HBS.out];omega)))
    have hrd:=(HBJ.out.block w.heap.size (by rw[HBS.out];omega)).trans HRA.out
    have d0:=cell_of_row wr w.heap.size 0 _ _ _ hrd;have d1:=cell_of_row wr w.heap.size 1 _ _ _ hrd;have d2:=cell_of_row wr w.heap.size 2 _ _ _ hrd;have d3:=cell_of_row wr w.heap.size 3 _ _ _ hrd;have d4:=cell_of_row wr w.heap.size 4 _ _ _ hrd;have d5:=cell_of_row wr w.heap.size 5 _ _ _ hrd;simp at d0 d1 d2 d3 d4 d5;clear hrd
    by_cases hlt:j<np
    · have CE:=ends_any ⟨P,np,pc,E,ne,ec,F,nf,fc,R,nr,rc⟩ ⟨p,q,ps,es,fs,bs⟩ j wr (HD.out.below HWJ.out) HM.out (by rw[HP.out];exact hlt)
      simp only[Sh.arg]at CE;have hnst:(endsL fs ps j).length=nst fs j:=endsL_len _ _ _;have hns9:nst fs j<=17:=by
        unfold nst;have:=touK_len fs (j:Int) 99;rw[HF.out]at this;unfold touL;omega
      obtain⟨m,hm⟩: ∃m,m=nst fs j:=⟨_,rfl⟩;have hfj:=HFI.out j (by omega)
      have hfj1:=HFI.out (j+1) (by omega)
      have hfs1:firN fs (j+1)=firN fs j+m:=by rw[firN,hm]
      have hm1:1<=m:=by rw[hm];exact nst_pos _ _
      have HM2:=Lib.hid hm;have HNS:=Lib.hid hnst;have HCE:=Lib.hid CE;have HFS1:=Lib.hid hfs1;have HHJ:=Lib.hid (And.intro hfj hfj1);have hm9:m<=17:=by omega
      clear CE hnst hm hfj hfj1 hfs1 hns9;go_wp2_with fail;refine HCE.out.mono ?_
      rintro e w4 ⟨A4,c4',rfl,hO4,b4⟩;rw[HNS.out,<-HM2.out]at hO4⊢;have hG4:=HGJ.out.below b4;have hS4:Side w4 base vW (.slice A4 m c4') (endsL fs ps j):=⟨own_less hO4 (by have:=HBJ.out.size;rw[HSG.out]at this;rw[HBS.out];omega),fun k hk e=>by
        have h1:=(row_lt hO4 k hk).1;have h2:=(row_lt HGJ.out.hW k e).2.1;omega⟩
      have CS:=steps_any base gb b1 b2 n1 n2 D1 D2 vW vE vP (wPs fs ps j) (ePs fs j) (pPs fs j) j m (firN fs j) c4' A4 (endsL fs ps j) (firN fs) (lasN fs) w4 (by omega) (by rw[HNS.out,HM2.out]) hm1 (by omega) (endsL_bound HM.out.parts (by rw[HP.out];exact hlt)) (wPs_len _ _ _) (pPs_len _ _) (by have:=HHJ.out.1;omega) (by have:=ePs_len fs j;have:=HHJ.out.1;omega) (by omega) (by omega) hG4 hS4 HT1.out HT2.out rfl (by unfold lasN;rw[HM2.out])
      have HCS:=Lib.hid CS;have HB4:=Lib.hid (HBJ.out.trans (b4.mono (by have:=HBJ.out.size;rw[HSG.out]at this;rw[HBS.out];omega)))
      clear CS hO4 b4 hG4 hS4 HCE d0 d1 d2 d3 d4 d5;go_wp2_with fail;refine HCS.out.mono ?_
      rintro e w5 ⟨rfl,n1',n2',D1',D2',uW,uE,uP,hG5,hT1,hT2,hn1',hn2',b5⟩;have HG5:=Lib.hid hG5;have HT15:=Lib.hid hT1;have HT25:=Lib.hid hT2;have HB5:=Lib.hid (HB4.out.trans b5);have hn3:n2'<=firN fs (j+1):=by rw[HFS1.out];have:=HN2.out;omega
      have HN3:=Lib.hid hn3;have hn4:n2'<=300:=by have:=HHJ.out.2;omega
      clear hG5 hT1 hT2 b5 hn3 hn2' HCS;go_wp2;go_roundw
      case rel=>exact⟨j+1,n1',n2',D1',D2',uW,uE,uP,hlt,by go_num,by omega,hn4,HN3,Lib.hid (by have h:=HG5.out;rw[HM2.out]at h;exact h),HT15,HT25,HB5⟩
      case measure=>simp[intOf];omega
    · obtain rfl:np=j:=by omega
      have hE0:Hid (Gl base gb b1 b2 n1 n2 D1 D2 vW vE vP (wPs fs ps np) (ePs fs np++(es.take 0).map (edgN fs)) (pPs fs np) wr):=Lib.hid (by have h:=HGJ.out;simpa using h)
      have hfn:=HFI.out np (Nat.le_refl _);have hep:(ePs fs np).length<=272:=by have:=ePs_len fs np;omega
      have HB0:=HBJ;clear HGJ HBJ HWJ HN2 d0 d1 d2 d4 d5;go_wp2;go_loopw [29] (fun iv wr=> ∃(j:Nat) (vE':Value),j<=ne/\iv= .int .i64 (j:Int)/\Hid (Gl base gb b1 b2 n1 n2 D1 D2 vW vE' vP (wPs fs ps np) (ePs fs np++(es.take j).map (edgN fs)) (pPs fs np) wr)/\Hid (Below base wG wr)) (fun iv _=>ne - (intOf iv).toNat)
      case atStart=>exact⟨0,_,Nat.zero_le _,rfl,hE0,HB0⟩
      case round=>
        obtain⟨j,vE',hj,rfl,HGJ,HBJ⟩:=hrel;clear hE0 HB0 d3;have HWJ:Hid (Below w.heap.size w wr):=Lib.hid (HWG.out.trans (HBJ.out.mono (by rw[HBS.out];omega)))
        by_cases hlt:j<ne
        · obtain⟨tb,to_,⟨x,y⟩,eE,htb,het,x0,x1⟩:=((HD.out.below HWJ.out).t.edges).at_ (k:=j) (by rw[HE.out];exact hlt)
          simp only at eE x0 x1;subst eE;have heo:=HM.out.edges.1 _ (List.mem_of_getElem? het)
          simp only at heo;rw[HP.out]at heo;obtain⟨a,rfl⟩: ∃k:Nat,x=(k:Int):=⟨x.toNat,by omega⟩
          obtain⟨b,rfl⟩: ∃k:Nat,y=(k:Int):=⟨y.toNat,by omega⟩
          have han:a<np:=by omega
          have hbn:b<np:=by omega
          have htk:es.take (j+1)=es.take j++ [((a:Int),(b:Int))]:=by rw[List.take_add_one,het];rfl
          obtain⟨la,hla⟩: ∃la,la=lasN fs a:=⟨_,rfl⟩;obtain⟨fb,hfb⟩: ∃fb,fb=firN fs b:=⟨_,rfl⟩;have HTK:Hid ((es.take (j+1)).map (edgN fs)=(es.take j).map (edgN fs)++ [((la:Int),(fb:Int))]):=Lib.hid (by rw[htk,List.map_append,hla,hfb];rfl)
          have HLA:=Lib.hid hla;have HFB:=Lib.hid hfb;obtain⟨eb,heb⟩: ∃eb,eb=wr.heap.size:=⟨_,rfl⟩;obtain⟨wE,hwE⟩: ∃wE,wE=wr.alloc (.cells #[.int .i64 (a:Int), .int .i64 (b:Int)] 131):=⟨_,rfl⟩;have hbE:Below wr.heap.size wr wE:=by rw[hwE];exact below_alloc _
          have HGE:=Lib.hid (HGJ.out.below hbE);have HEB:Hid (wE.heap[eb]? =some (.cells #[.int .i64 (a:Int), .int .i64 (b:Int)] 131 (0,0))):=Lib.hid (by rw[hwE,heb];exact heap_alloc_new wr _)
          have hbsz:base<=wr.heap.size:=by have:=HBJ.out.size;rw[HSG.out]at this;rw[HBS.out];omega
          have HBE:=Lib.hid (HBJ.out.trans (hbE.mono hbsz));have hbsE:base<=wE.heap.size:=Nat.le_trans hbsz hbE.size;clear het heo htk hla hfb hbE HGJ HBJ HWJ;go_wp2_with fail;rw[<-hwE,<-heb];clear hwE heb;refine wp_region_gather2' 15 15 [33,34,35,36,37,38,39,40,41,42,43,44,45,46,47] (by kernel_rfl) (by kernel_rfl) (by intro d hd;simp at hd⊢;omega) (fun y=>Below wE.heap.size wE y) (fun _=>True) (fun y z=>Below y.heap.size y z) (LayE gb b1 b2 eb a b la fb)
            (fun _ _ h=>h) (fun y z h hr=>h.trans (hr.mono h.size)) (fun _ _ h _=>trivial) (fun k v y z _ h _=>layE_any k v y z h) (fun v y z h _=>trivial) (Below.refl _ _).drew trivial ?hs ?hl
          case hs=>
            intro j o hj ho ρ y hI hA hd hJ;have h3:ρ (.tmp 3)= .pointer (some ⟨gb,0,none⟩):=hA.tmp 3 (by decide)
            have h6:ρ (.tmp 6)= .pointer (some ⟨eb,0,none⟩):=hA.tmp 6 (by decide)
            have hG:=HGE.out.below hI;have hrow:=(hI.block eb (Array.getElem?_eq_some_iff.1 HEB.out).1).trans HEB.out
            have x0:y.cell? ⟨eb,0,none⟩=some (.int .i64 (a:Int)):=by rw[cell_of_row _ _ _ _ _ _ hrow];rfl
            have x1:y.cell? ⟨eb,1,none⟩=some (.int .i64 (b:Int)):=by rw[cell_of_row _ _ _ _ _ _ hrow];rfl
            have c3:y.cell? ⟨gb,3,none⟩=some (.map (some b1)):=by rw[hG.cell];rfl
            have c4:y.cell? ⟨gb,4,none⟩=some (.map (some b2)):=by rw[hG.cell];rfl
            have r1:=tells_run hG.m2 HT2.out han (by omega)
            have r2:=tells_run hG.m1 HT1.out hbn (by omega)
            rw[<-HLA.out]at r1;rw[<-HFB.out]at r2
            match j,hj with
            | 0, _ =>
              have hoo:=Option.some.inj ho;subst hoo;exact⟨.pointer (some ⟨gb,0,none⟩),y,by simp[execOp,h3,go_sem],rfl,Below.refl _ _⟩
            | 1, _ =>
              have hoo:=Option.some.inj ho;subst hoo;exact⟨.pointer (some ⟨gb,0,none⟩),y,by simp[execOp,h3,go_sem],rfl,Below.refl _ _⟩
            | 2, _ =>
              have hoo:=Option.some.inj ho;subst hoo;have f1:ρ (.tmp 34)= .pointer (some ⟨gb,0,none⟩):=hd ⟨1, .data⟩ (by simp) (by rfl)
              exact⟨.pointer (some ⟨gb,0,none⟩),y,by simp[execOp,f1,go_sem],rfl,Below.refl _ _⟩
            | 3, _ =>
              have hoo:=Option.some.inj ho;subst hoo;have f2:ρ (.tmp 35)= .pointer (some ⟨gb,0,none⟩):=hd ⟨2, .data⟩ (by simp) (by rfl)
              exact⟨.pointer (some ⟨gb,4,none⟩),y,by simp[execOp,f2,go_sem],rfl,Below.refl _ _⟩
            | 4, _ =>
              have hoo:=Option.some.inj ho;subst hoo;have f3:ρ (.tmp 36)= .pointer (some ⟨gb,4,none⟩):=hd ⟨3, .data⟩ (by simp) (by rfl)
              exact⟨.map (some b2),y,by simp[execOp,f3,c4,go_sem],rfl,Below.refl _ _⟩
            | 5, _ =>
              have hoo:=Option.some.inj ho;subst hoo;exact⟨.pointer (some ⟨eb,0,none⟩),y,by simp[execOp,h6,go_sem],rfl,Below.refl _ _⟩
            | 6, _ =>
              have hoo:=Option.some.inj ho;subst hoo;have f5:ρ (.tmp 38)= .pointer (some ⟨eb,0,none⟩):=hd ⟨5, .data⟩ (by simp) (by rfl)
              exact⟨.int .i64 ((a:Nat):Int),y,by simp[execOp,f5,x0,go_sem],rfl,Below.refl _ _⟩
            | 7, _ =>
              have hoo:=Option.some.inj ho;subst hoo;have f4:ρ (.tmp 37)= .map (some b2):=hd ⟨4, .data⟩ (by simp) (by rfl)
              have f6:ρ (.tmp 39)= .int .i64 ((a:Nat):Int):=hd ⟨6, .data⟩ (by simp) (by rfl)
              exact⟨.int .i64 ((la:Nat):Int),y,by simp[execOp,f4,f6,r1,Result.andThen],rfl,Below.refl _ _⟩
            | 8, _ =>
              have hoo:=Option.some.inj ho;subst hoo;exact⟨.pointer (some ⟨gb,0,none⟩),y,by simp[execOp,h3,go_sem],rfl,Below.refl _ _⟩
            | 9, _ =>
              have hoo:=Option.some.inj ho;subst hoo;have f8:ρ (.tmp 41)= .pointer (some ⟨gb,0,none⟩):=hd ⟨8, .data⟩ (by simp) (by rfl)
              exact⟨.pointer (some ⟨gb,0,none⟩),y,by simp[execOp,f8,go_sem],rfl,Below.refl _ _⟩
            | 10, _ =>
              have hoo:=Option.some.inj ho;subst hoo;have f9:ρ (.tmp 42)= .pointer (some ⟨gb,0,none⟩):=hd ⟨9, .data⟩ (by simp) (by rfl)
              exact⟨.pointer (some ⟨gb,3,none⟩),y,by simp[execOp,f9,go_sem],rfl,Below.refl _ _⟩
            | 11, _ =>
              have hoo:=Option.some.inj ho;subst hoo;have f10:ρ (.tmp 43)= .pointer (some ⟨gb,3,none⟩):=hd ⟨10, .data⟩ (by simp) (by rfl)
              exact⟨.map (some b1),y,by simp[execOp,f10,c3,go_sem],rfl,Below.refl _ _⟩
            | 12, _ =>
              have hoo:=Option.some.inj ho;subst hoo;exact⟨.pointer (some ⟨eb,1,none⟩),y,by simp[execOp,h6,go_sem],rfl,Below.refl _ _⟩
            | 13, _ =>
              have hoo:=Option.some.inj ho;subst hoo;have f12:ρ (.tmp 45)= .pointer (some ⟨eb,1,none⟩):=hd ⟨12, .data⟩ (by simp) (by rfl)
              exact⟨.int .i64 ((b:Nat):Int),y,by simp[execOp,f12,x1,go_sem],rfl,Below.refl _ _⟩
            | 14, _ =>
              have hoo:=Option.some.inj ho;subst hoo;have f11:ρ (.tmp 44)= .map (some b1):=hd ⟨11, .data⟩ (by simp) (by rfl)
              have f13:ρ (.tmp 46)= .int .i64 ((b:Nat):Int):=hd ⟨13, .data⟩ (by simp) (by rfl)
              exact⟨.int .i64 ((fb:Nat):Int),y,by simp[execOp,f11,f13,r2,Result.andThen],rfl,Below.refl _ _⟩
            |j+15,hk=>omega
          case hl=>
            intro o ho vals y hI hF;have hoo:=Option.some.inj ho;subst hoo;have q0:vals 33= .pointer (some ⟨gb,0,none⟩):=hF 0 (by decide)
            have q7:vals 40= .int .i64 (la:Int):=hF 7 (by decide)
            have q14:vals 47= .int .i64 (fb:Int):=hF 14 (by decide)
            have hG:=HGE.out.below hI;refine cx_fun rfl 111 _ _ #[.pointer (some ⟨gb,0,none⟩), .int .i64 (la:Int), .int .i64 (fb:Int)] rfl (by rw[<-q0,<-q7,<-q14];simp only[List.map_toArray,List.map_cons,List.map_nil];rfl) eg_edge ?_
            refine(edge_any base gb b1 b2 n1 n2 D1 D2 vW vE' vP (wPs fs ps np) (ePs fs np++(es.take j).map (edgN fs)) (pPs fs np) (la:Int) (fb:Int) y _ _ (by rw[List.length_append,List.length_map,List.length_take];omega) hG (Side.nil y base vW)).mono ?_
            rintro e y' ⟨rfl,uE',hG4,_,b4,_⟩;refine⟨_,rfl,?_⟩
            have HG4:=Lib.hid hG4;have HB4:=Lib.hid (HBE.out.trans ((hI.mono (by have:=HBE.out.size;omega)).trans b4))
            clear hI hF q0 q7 q14 hG hG4 b4;simp only[fillA,fillL,List.contains_cons,List.contains_nil,Nat.reduceBEq,Bool.or_false,Bool.false_or,Bool.or_true,Bool.true_or,cond_true,cond_false,Nat.zero_add,Nat.reduceAdd];go_wp2;go_roundw
            case rel=>exact⟨j+1,uE',hlt,by go_num,Lib.hid (by rw[HTK.out,<-List.append_assoc];exact HG4.out),HB4⟩
            case measure=>simp[intOf];omega
        · obtain rfl:ne=j:=by omega
          have htk:es.take ne=es:=List.take_of_length_le (by rw[HE.out];exact Nat.le_refl _)
          have hG:=HGJ.out;rw[htk]at hG;have hrd:=(HBJ.out.block w.heap.size (by rw[HBS.out];omega)).trans HRA.out
          have d4:=cell_of_row wr w.heap.size 4 _ _ _ hrd;simp at d4;have hbsz:base<=wr.heap.size:=by have:=HBJ.out.size;rw[HSG.out]at this;rw[HBS.out];omega
          have CF:=futures_any fs ps np base gb b1 b2 n1 n2 D1 D2 vW vE' vP (ePs fs np++es.map (edgN fs)) (pPs fs np) (firN fs np) nf fc F wr HM.out.parts HM.out.futures HP.out HF.out rfl (by omega) (by omega) (by rw[List.length_append,List.length_map,HE.out];omega) (by omega) hG (((HD.out.t.futures.below HWJ.out)).more (by rw[HBS.out];omega)) HT1.out HT2.out
          have HCF:=Lib.hid CF;have HBF:=HBJ;clear htk hG hrd CF HGJ HBJ HWJ;go_wp2_with fail;refine HCF.out.mono ?_
          rintro e w6 ⟨rfl,uE,hG6,b6⟩;have hG7:Hid (Gl base gb b1 b2 n1 n2 D1 D2 vW uE vP (wPs fs ps np++List.replicate 0 1) (((ePs fs np++es.map (edgN fs))++(List.range nf).map (futN fs))++bEs fs bs (firN fs np) 0) (pPs fs np++(List.range 0).map fun j=>((-1:Int),((j:Nat):Int))) w6):=Lib.hid (by simpa[bEs]using hG6)
          have HB6:=Lib.hid (HBF.out.trans b6);have hrd:=(HB6.out.block w.heap.size (by rw[HBS.out];omega)).trans HRA.out
          have d5:=cell_of_row w6 w.heap.size 5 _ _ _ hrd;simp at d5;have hle:((ePs fs np++es.map (edgN fs))++(List.range nf).map (futN fs)).length<=336:=by rw[List.length_append,List.length_append,List.length_map,List.length_map,List.length_range,HE.out];omega
          obtain⟨E6,hE6⟩: ∃E6,E6=(ePs fs np++es.map (edgN fs))++(List.range nf).map (futN fs):=⟨_,rfl⟩;rw[<-hE6]at hG7 hle;have HE6:=Lib.hid hE6;clear hG6 b6 HBF HCF hrd hE6;go_wp2;go_loopw [57] (fun iv wr=> ∃(j:Nat) (uW uE' uP:Value),j<=nr/\iv= .int .i64 (j:Int)/\Hid (Gl base gb b1 b2 n1 n2 D1 D2 uW uE' uP (wPs fs ps np++List.replicate j 1) (E6++bEs fs bs (firN fs np) j) (pPs fs np++(List.range j).map fun j=>((-1:Int),((j:Nat):Int))) wr)/\Hid (Below base wG wr)) (fun iv _=>nr - (intOf iv).toNat)
          case atStart=>exact⟨0,_,_,_,Nat.zero_le _,rfl,hG7,HB6⟩
          case round=>
            obtain⟨j,uW,uE',uP,hj,rfl,HGJ,HBJ⟩:=hrel;clear hG7 HB6 d5;have HWJ:Hid (Below w.heap.size w wr):=Lib.hid (HWG.out.trans (HBJ.out.mono (by rw[HBS.out];omega)))
            by_cases hlt:j<nr
            · obtain⟨tb,to_,xs,ys,A1,k1,c1,A2,k2,c2,eR,htb,hbt,hl1,hl2,x0,x1,hi1,hi2,_,_⟩:=((HD.out.t.bars.below HWJ.out)).at_ (k:=j) (by rw[HR.out];exact hlt)
              simp only at eR;subst eR;have hws:=HWJ.out.size;have hbo:=HM.out.bars _ (List.mem_of_getElem? hbt)
              have hb1:=row_len' hbo.1;have hb2:=row_len' hbo.2;simp only at hb1 hb2;rw[HP.out]at hb1 hb2;rw[hl1]at hb1;rw[hl2]at hb2;have hgd:bs.getD j ([], [])=(xs,ys):=by rw[List.getD_eq_getElem?_getD,hbt];rfl
              have hpx: ∀z∈xs,0<=z/\z<(np:Int):=by have h:=hbo.1.parts;rw[HP.out]at h;exact h
              have hpy: ∀z∈ys,0<=z/\z<(np:Int):=by have h:=hbo.2.parts;rw[HP.out]at h;exact h
              obtain⟨wE,hwE⟩: ∃wE,wE=wr.alloc (.cells #[.slice A1 k1 c1, .slice A2 k2 c2] 97):=⟨_,rfl⟩;have hbE:Below wr.heap.size wr wE:=by rw[hwE];exact below_alloc _
              have hbsz:base<=wr.heap.size:=by have:=HBJ.out.size;rw[HSG.out]at this;rw[HBS.out];omega
              have hbl:(bEs fs bs (firN fs np) j).length<=128:=by
                have h1:=bEs_len fs bs (firN fs np) 16 (fun b hb=>by
                  have h:=HM.out.bars b hb;have h1:=row_len' h.1;have h2:=row_len' h.2;rw[HP.out]at h1 h2;omega) j
                have h2:j * (2 * 16)<=4 * 32:=Nat.mul_le_mul (by omega) (by omega)
                omega
              have CB:=barrier_any fs np base gb b1 b2 n1 n2 D1 D2 uW uE' uP (wPs fs ps np++List.replicate j 1) (E6++bEs fs bs (firN fs np) j) (pPs fs np++(List.range j).map fun j=>((-1:Int),((j:Nat):Int))) j (firN fs np+j) k1 c1 k2 c2 A1 A2 xs ys wE (by omega) (by rw[List.length_append,wPs_len,List.length_replicate];omega) (by rw[List.length_append,pPs_len,List.length_map,List.length_range]) (by omega) (by rw[List.length_append];omega) (by omega) hl1 hl2 (by omega) (by omega) hpx hpy (HGJ.out.below hbE) (((hi1.keep fun a ha=>hbE.cell (by omega))).more (by rw[HBS.out];omega)) (((hi2.keep fun a ha=>hbE.cell (by omega))).more (by rw[HBS.out];omega)) HT1.out HT2.out
              have HCB:=Lib.hid CB;have HGD:=Lib.hid hgd;have HBE:=Lib.hid (HBJ.out.trans (hbE.mono hbsz));clear CB hbt hl1 hl2 hi1 hi2 hbo hb1 hb2 hgd hpx hpy hbE hbl HGJ HBJ HWJ;go_wp2_with fail;rw[<-hwE];clear hwE;refine HCB.out.mono ?_
              rintro e w7 ⟨rfl,uW',uE'',uP',hG8,b8⟩;have HG8:=Lib.hid hG8;have HB8:=Lib.hid (HBE.out.trans b8);clear hG8 b8 HCB;go_wp2;go_roundw
              case rel=>exact⟨j+1,uW',uE'',uP',hlt,by go_num,Lib.hid (by rw[List.replicate_succ',<-List.append_assoc,bEs,HGD.out,<-List.append_assoc,List.range_succ,List.map_append,<-List.append_assoc];exact HG8.out),HB8⟩
              case measure=>simp[intOf];omega
            · obtain rfl:nr=j:=by omega
              have hG:=HGJ.out;have g0:=hG.cell 0;have g1:=hG.cell 1;have g2:=hG.cell 2;simp at g0 g1 g2;have hrb:=(HBJ.out.block (w.heap.size+1) (by rw[HBS.out];omega)).trans HRB.out
              have y0:=cell_of_row wr (w.heap.size+1) 0 _ _ _ hrb;have y1:=cell_of_row wr (w.heap.size+1) 1 _ _ _ hrb;have y2:=cell_of_row wr (w.heap.size+1) 2 _ _ _ hrb;simp at y0 y1 y2;have z0:=frozen_of_row wr (w.heap.size+1) 0 _ _ hrb;have z1:=frozen_of_row wr (w.heap.size+1) 1 _ _ hrb;have z2:=frozen_of_row wr (w.heap.size+1) 2 _ _ hrb;have HRW:=Lib.hid hrb;clear hG hrb HWJ;obtain⟨AW,cW,eW,_⟩:=HGJ.out.hW.slice;obtain⟨AE,cE,eE,_⟩:=HGJ.out.hE.slice;obtain⟨AP,cP,eP⟩:=HGJ.out.hP.slice;subst eW eE eP;have lW:(wPs fs ps np++List.replicate nr (1:Int))=lowW ⟨p,q,ps,es,fs,bs⟩:=by unfold lowW;simp only;rw[HP.out,HR.out]
              have lP:(pPs fs np++(List.range nr).map fun j=>((-1:Int),((j:Nat):Int)))=lowP ⟨p,q,ps,es,fs,bs⟩:=by unfold lowP;simp only;rw[HP.out,HR.out]
              have lE:(E6++bEs fs bs (firN fs np) nr)=lowE ⟨p,q,ps,es,fs,bs⟩:=by unfold lowE;simp only;rw[HP.out,HF.out,HR.out,HE6.out]
              have HOW:=HGJ.out.hW;have HOE:=HGJ.out.hE;have HOP:=HGJ.out.hP;rw[lW]at HOW;rw[lE]at HOE;rw[lP]at HOP;have HO:=Lib.hid (And.intro HOW (And.intro HOE HOP));have hbw:=HBJ.out;have HBW:=Lib.hid (HWG.out.trans (hbw.mono (by rw[HBS.out];omega)))
              obtain⟨kW,hkW⟩: ∃k,k=(lowW ⟨p,q,ps,es,fs,bs⟩).length:=⟨_,rfl⟩;obtain⟨kE,hkE⟩: ∃k,k=(lowE ⟨p,q,ps,es,fs,bs⟩).length:=⟨_,rfl⟩;obtain⟨kP,hkP⟩: ∃k,k=(lowP ⟨p,q,ps,es,fs,bs⟩).length:=⟨_,rfl⟩;rw[<-hkW,<-hkE,<-hkP]at HO;rw[lW,<-hkW]at g0;rw[lE,<-hkE]at g1;rw[lP,<-hkP]at g2;clear lW lP lE HOW HOE HOP hbw hkW hkE hkP HGJ;go_wp2;have h1:=heap_setCell_same wr (w.heap.size+1) 0 _ _ (.slice AW kW cW) HRW.out;have h2:=heap_setCell_same _ (w.heap.size+1) 1 _ _ (.slice AE kE cE) h1;have h3:=heap_setCell_same _ (w.heap.size+1) 2 _ _ (.slice AP kP cP) h2;obtain⟨x2,hx2⟩: ∃x2,x2=((wr.setCell ⟨w.heap.size+1,0,none⟩ (.slice AW kW cW)).setCell ⟨w.heap.size+1,1,none⟩ (.slice AE kE cE)).setCell ⟨w.heap.size+1,2,none⟩ (.slice AP kP cP):=⟨_,rfl⟩;rw[<-hx2]at h3⊢;have ho: ∀k,k≠w.heap.size+1->x2.heap[k]? =wr.heap[k]? :=fun k hk=>by rw[hx2,heap_setCell_other _ _ _ _ hk,heap_setCell_other _ _ _ _ hk,heap_setCell_other _ _ _ _ hk]
              have hle:w.heap.size<=w.heap.size+1:=Nat.le_succ _;have hbx:Below w.heap.size wr x2:=by
                rw[hx2];exact(((Below.refl _ wr).setCell hle _).setCell hle _).setCell hle _
              have k0:=cell_of_row x2 (w.heap.size+1) 0 _ _ _ h3;have k1:=cell_of_row x2 (w.heap.size+1) 1 _ _ _ h3;have k2:=cell_of_row x2 (w.heap.size+1) 2 _ _ _ h3;simp at k0 k1 k2;clear hx2;refine bodyPost_ret (v:= .agg #[.slice AW kW cW, .slice AE kE cE, .slice AP kP cP]) ?_ rfl ⟨_,_,_,rfl,own_less (other_own HO.out.1 HRW.out (by decide) ho) (by rw[HBS.out];omega),own_less (other_own HO.out.2.1 HRW.out (by decide) ho) (by rw[HBS.out];omega),own_less (other_own HO.out.2.2 HRW.out (by decide) ho) (by rw[HBS.out];omega),HBW.out.trans hbx⟩
              simp[results,Tryz.results88,go_sem,k0,k1,k2]
end Go.Proofs.YtlfekmbalgkmeaaGreatDoor
namespace Go.Proofs.YtlfekmbalgkmeaaGreatDoor
open Go.RowKit
theorem node_any(A F:Option Addr)(n c m d:Nat)(x:Int)(w:World):
  Calls Tryz.prog 161 #[.agg #[.slice A n c,.slice F m d],.int .i64 x] w fun e w'=>e= .returned (.bool (decide (0<=x/\x<n)))/\Below w.heap.size w w':=by
 by_cases h:0<=x
 ·by_cases k: x < n
  ·rw [decide_eq_true (⟨h,k⟩: 0 <= x /\ x < n)]
   go_enter Tryz.func161,Tryz.ntmps161;go_wp2;go_ret;exact⟨rfl,below_alloc _⟩
  ·rw [decide_eq_false (fun q: 0 <= x /\ x < n => k q.2)]
   go_enter Tryz.func161,Tryz.ntmps161;go_wp2;go_ret;exact⟨rfl,below_alloc _⟩
 ·rw [decide_eq_false (fun q: 0 <= x /\ x < n => h q.1)]
  have h':x<0:=by omega
  clear h;go_enter Tryz.func161,Tryz.ntmps161;go_wp2;go_ret;exact⟨rfl,below_alloc _⟩
end Go.Proofs.YtlfekmbalgkmeaaGreatDoor
