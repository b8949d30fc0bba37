import Derived.Test.YtngdbbligebcbabGreatDoorZM28
import Derived.Test.YtngdbbligebcbabGreatDoorZM25
import Derived.Test.YtngdbbligebcbabGreatDoorZM20
import Derived.StillTailTactics
import Derived.BigRegion
import Derived.Test.YtngdbbligebcbabGreatDoorZM26
import Derived.Test.YtngdbbligebcbabGreatDoorZM13
import Derived.Test.YtngdbbligebcbabGreatDoorZM7
import Derived.Test.YtngdbbligebcbabGreatDoorZM16
set_option linter.unusedVariables false
set_option linter.unusedSimpArgs false
set_option maxRecDepth 100000
set_option maxHeartbeats 16000000
namespace Go.Proofs.YtngdbbligebcbabGreatDoor
open Go Go.RowKit
structure RowsC(B gO:Nat)(FL:Option Addr)(n m cO cL:Nat)(O L:List Int)(w:World):Prop where
 rO:OwnI w B (.slice (some ⟨gO,0,none⟩) n cO) O
 rL:OwnI w B (.slice FL m cL) L
 ne:0<m-> ∃gL,FL=some ⟨gL,0,none⟩/\gO≠gL
theorem RowsC.next{B gO:Nat}{FL:Option Addr}{n m cO cL:Nat}{O L:List Int}{w w':World}(h:RowsC B gO FL n m cO cL O L w)(hb:Below w.heap.size w w'):RowsC B gO FL n m cO cL O L w':=⟨own_below h.rO hb,own_below h.rL hb,h.ne⟩
theorem StC.rows{hb g gO:Nat}{FL:Option Addr}{n m cO cL:Nat}{O L:List Int}{w:World}(h:StC hb g gO FL n m cO cL O L w):RowsC hb gO FL n m cO cL O L w:=⟨h.rO,h.rL,h.ne⟩
theorem RowsC.isC{B gO:Nat}{FL:Option Addr}{n m cO cL:Nat}{O L:List Int}{w:World}(h:RowsC B gO FL n m cO cL O L w)(l1:n<=400)(l2:m<=400):IsC w (some ⟨gO,0,none⟩) n cO FL m cL O L:=
 own_isC h.rO h.rL h.rO.len_eq h.rL.len_eq l1 l2
def ThCo(wf:World)(n m:Nat)(O L:List Int)(f:Nat->Value)(w:World):Prop:=∃ gO FL cO cL,Below wf.heap.size wf w/\StC wf.heap.size (wf.heap.size+1) gO FL n m cO cL O L w
theorem ThCo.below{wf w w':World}{n m:Nat}{O L:List Int}{f:Nat->Value}(h:ThCo wf n m O L f w)(hb:Below w.heap.size w w'):ThCo wf n m O L f w':=by
 obtain⟨gO,FL,cO,cL,h1,h2⟩:=h;exact⟨gO,FL,cO,cL,h1.trans (hb.mono h1.size),h2.next hb⟩
def PhiCo(sb hb:Nat)(A:Option Addr)(n c:Nat)(F:Option Addr)(m d:Nat)(O L:List Int):Nat->Value->World->Prop
 |0,v,w=>v= .pointer (some ⟨sb,0,none⟩)
 |1,v,w=>v= .slice A n c
 |2,v,w=>OwnI w hb v O
 |3,v,w=>v= .pointer (some ⟨sb,1,none⟩)
 |4,v,w=>v= .slice F m d
 |5,v,w=>OwnI w hb v L
 |6,v,w=>GBc hb n m O L v w
 |7,v,w=>True
 |_,_,_=>True
theorem phiCo_below(sb hb:Nat)(A:Option Addr)(n c:Nat)(F:Option Addr)(m d:Nat)(O L:List Int): ∀kq v w w',PhiCo sb hb A n c F m d O L kq v w->Below w.heap.size w w'->PhiCo sb hb A n c F m d O L kq v w':=by
 intro kq v w w' h hb'
 match kq,h with
 |0,h=>exact h
 |1,h=>exact h
 |2,h=>exact own_below h hb'
 |3,h=>exact h
 |4,h=>exact h
 |5,h=>exact own_below h hb'
 |6,h=>exact GBc.below h hb'
 |7,h=>exact h
 |kq+8,h=>exact trivial
section
variable {A': Option Addr} {n' c': Nat} {F': Option Addr} {m' d': Nat} {O L: List Int}
theorem copied_any(wf:World)(hk:IsC wf A' n' c' F' m' d' O L)(hn0:0<n'):
    Calls Tryz.prog 99 #[.agg #[.slice A' n' c', .slice F' m' d']] wf fun e w'=> ∃gO cO FL cL,e= .returned (.agg #[.slice (some ⟨gO,0,none⟩) n' cO, .slice FL m' cL])/\RowsC wf.heap.size gO FL n' m' cO cL O L w'/\Below wf.heap.size wf w':=by
  obtain⟨w0,hw0⟩: ∃w0,w0=(wf.alloc (.cells #[.slice A' n' c', .slice F' m' d'] 37)).alloc (.cells #[.slice none 0 0, .slice none 0 0] 37):=⟨_,rfl⟩;have B0:Hid (BxK wf A' n' c' F' m' d' O L w0/\w0.heap[wf.heap.size+1]? =some (.cells #[.slice none 0 0, .slice none 0 0] 37 (0,0))):=Lib.hid (by
    have h1:=BxK.start hk;obtain⟨v1,hv1⟩: ∃v1,v1=wf.alloc (.cells #[.slice A' n' c', .slice F' m' d'] 37):=⟨_,rfl⟩;have s1:v1.heap.size=wf.heap.size+1:=by rw[hv1];simp
    rw[<-hv1]at h1 hw0;have h2:=heap_alloc_new v1 (.cells #[.slice none 0 0, .slice none 0 0] 37);rw[s1,<-hw0]at h2;exact⟨h1.next (by rw[hw0];exact below_alloc _),h2⟩)
  have HW:=Lib.hid hw0;clear hk hw0;go_enter Tryz.func99,Tryz.ntmps99;go_wp2_with fail;rw[<-HW.out];clear HW;refine wp_region_stored3 7 [3,4,5,6,7,8,9,1000] [] wf.heap.size 2 5 (by kernel_rfl) (by kernel_rfl) (by intro d hd;simp at hd⊢;omega) (fun x=>BxK wf A' n' c' F' m' d' O L x/\(Below wf.heap.size wf x/\x.heap[wf.heap.size+1]? =some (.cells #[.slice none 0 0, .slice none 0 0] 37 (0,0)))) (PhiCo wf.heap.size wf.heap.size A' n' c' F' m' d' O L) (ThCo wf n' m' O L) (fun u v _=>0<m'->ApartV u v) (by decide) (fun o ho=>by have hoo:=Option.some.inj ho;subst hoo;exact⟨⟨2, .chain⟩,by simp,rfl,by rfl⟩) (fun u v w w' h hb=>h)
    (fun x y h hb=>⟨h.1.next hb,h.2.1.trans (hb.mono h.2.1.size),by rw[hb.block _ (Array.getElem?_eq_some_iff.1 h.2.2).1];exact h.2.2⟩) (phiCo_below wf.heap.size wf.heap.size A' n' c' F' m' d' O L) (⟨B0.out.1.next (Below.refl _ _).drew,B0.out.1.bel.drew,by exact B0.out.2⟩) ?hstep ?hside ?hstore ?htheta ?hthetab B0.out.1.bel.size ?hend
  case hstep=>
    intro kq o hkp hkS ho a w hI hA hd hps K hK;obtain⟨ρ,hρ⟩: ∃ρ,a.eval=ρ:=⟨_,rfl⟩;rw[hρ]at hA hd hps hK
    match kq,hkp,hkS,ho with
    | 0, _, _, ho =>
      have hoo:=Option.some.inj ho;subst hoo;have hK:=fun v w' h b=>hK v w' h b (fun e=>absurd e (by decide))
      exact fx_val hK hρ (.pointer (some ⟨wf.heap.size,0,none⟩)) (by have h:=hA.tmp 1 (by decide);simp[execOp,h,go_sem]) rfl
    | 1, _, _, ho =>
      have hoo:=Option.some.inj ho;subst hoo;have f0:(ρ (.tmp 3))= .pointer (some ⟨wf.heap.size,0,none⟩):=hd ⟨0, .data⟩ (by simp) (by rfl)
      have hK:=fun v w' h b=>hK v w' h b (fun e=>absurd e (by decide))
      exact fx_val hK hρ _ (by have h0:=hI.1.c0;simp[execOp,f0,h0,go_sem]) rfl
    | 2, _, _, ho =>
      have hoo:=Option.some.inj ho;subst hoo;have f1:(ρ (.tmp 4))= .slice A' n' c':=hd ⟨1, .data⟩ (by simp) (by rfl)
      have hK:=fun v w' h b=>hK v w' h b (fun e=>absurd e (by decide))
      exact fx_call hK hρ 34 _ _ #[.slice A' n' c'] rfl (by simp only[List.map_toArray,List.map_cons,List.map_nil,f1]) (eg_of Tryz.func34 (by kernel_rfl) rfl) ((clone_i _ _ _ _ O (hI.1.k).hn (by have:=(hI.1.k).ln;omega) (hI.1.k).on (hI.1.k).hA).mono fun e w' ⟨A1,c1,he,ho,hb⟩=>⟨_,he,ho.down hI.2.1.size,hb⟩)
    | 3, _, _, ho =>
      have hoo:=Option.some.inj ho;subst hoo;have hK:=fun v w' h b=>hK v w' h b (fun e=>absurd e (by decide))
      exact fx_val hK hρ (.pointer (some ⟨wf.heap.size,1,none⟩)) (by have h:=hA.tmp 1 (by decide);simp[execOp,h,go_sem]) rfl
    | 4, _, _, ho =>
      have hoo:=Option.some.inj ho;subst hoo;have f3:(ρ (.tmp 6))= .pointer (some ⟨wf.heap.size,1,none⟩):=hd ⟨3, .data⟩ (by simp) (by rfl)
      have hK:=fun v w' h b=>hK v w' h b (fun e=>absurd e (by decide))
      exact fx_val hK hρ _ (by have h0:=hI.1.c1;simp[execOp,f3,h0,go_sem]) rfl
    | 5, _, _, ho =>
      have hoo:=Option.some.inj ho;subst hoo;have f4:(ρ (.tmp 7))= .slice F' m' d':=hd ⟨4, .data⟩ (by simp) (by rfl)
      have f2:=hd ⟨2, .chain⟩ (by simp) (by rfl)
      exact fx_call (k:=5) (Φ:=fun _ v w'=>OwnI w' wf.heap.size v L/\(0<m'->ApartV (ρ (.tmp 5)) v)) (fun v w' h b=>hK v w' h.1 b (fun _=>h.2)) hρ 34 _ _ #[.slice F' m' d'] rfl (by simp only[List.map_toArray,List.map_cons,List.map_nil,f4]) (eg_of Tryz.func34 (by kernel_rfl) rfl) ((clone_i _ _ _ _ L (hI.1.k).hm (by have:=(hI.1.k).lm;omega) (hI.1.k).left (hI.1.k).hF).mono fun e w' ⟨A1,c1,he,ho,hb⟩=>⟨_,he,⟨ho.down hI.2.1.size,fun _ b e1 e2=>by have h1:=(OwnI.blockLt f2 b e1).2;have h2:=(ho.blockLt b e2).1;omega⟩,hb⟩)
    | 6, _, _, ho =>
      have hoo:=Option.some.inj ho;subst hoo;have f2:OwnI w wf.heap.size (ρ (.tmp 5)) O:=hd ⟨2, .data⟩ (by simp) (by rfl)
      have f5:OwnI w wf.heap.size (ρ (.tmp 8)) L:=hd ⟨5, .data⟩ (by simp) (by rfl)
      have hK:=fun v w' h b=>hK v w' h b (fun e=>absurd e (by decide))
      have hap:=hps ⟨5, .data⟩ (by simp) (by rfl) rfl
      obtain⟨A1,a1,g2,_⟩:=OwnI.slice f2;obtain⟨A2,a2,g5,_⟩:=OwnI.slice f5;rw[(hI.1.k).hn]at g2;rw[(hI.1.k).hm]at g5;exact fx_val hK hρ (.agg #[.slice A1 n' a1, .slice A2 m' a2]) (by simp[execOp,g2,g5,go_sem]) ⟨A1,a1,A2,a2,rfl,g2▸f2,g5▸f5,fun hm=>g2▸g5▸hap hm⟩
    |7,hkp,_,_=>exact absurd rfl hkp
    |kq+8,_,_,ho=>simp at ho
  case hside=>
    intro kq o hkS ho ρ w hbw hA hd;exact absurd hkS (by simp)
  case hstore=>
    intro o ho a w hI hA hF hps K hK;have hoo:=Option.some.inj ho;subst hoo;refine stC (slot:=2) rfl rfl rfl (show GNc wf.heap.size _ w from⟨wf.heap.size+1,hA.tmp 2 (by decide),by omega,hI.2.2⟩) (hF 6 (by decide) (by decide) (by decide)) hn0 hI.2.1 (fun w' h1 h2 h3=>hK w' ?_ ?_ (fun k hk=>absurd hk (by simp)))
    · obtain⟨g,gO,FL,cO,cL,e,r⟩:=h1;replace e:=(hA.tmp 2 (by decide)).symm.trans e
      exact⟨gO,FL,cO,cL,by have e2:wf.heap.size+1=g:=(by injection e with e;injection e with e;injection e with e);subst e2;exact⟨r.1,r.2.2⟩⟩
    · exact h2
  case htheta=>
    intro f g w h hT;exact hT
  case hthetab=>
    intro f w w' hT hb;exact ThCo.below hT hb
  case hend=>
    intro vals w1 hT hF;obtain⟨gO,FL,cO,cL,hb1,hst⟩:=hT;simp only[fillA,fillL,List.contains_cons,List.contains_nil,Nat.reduceBEq,Bool.or_false,Bool.false_or,Bool.or_true,Bool.true_or,cond_true,cond_false,Nat.zero_add,Nat.reduceAdd];have x0:=hst.x0;have x1:=hst.x1;have HS:=Lib.hid hst;have HB:=Lib.hid hb1;clear hF hst hb1 B0;go_wp2;refine bodyPost_ret (v:= .agg #[.slice (some ⟨gO,0,none⟩) n' cO, .slice FL m' cL]) ?_ rfl ⟨gO,cO,FL,cL,rfl,HS.out.rows,HB.out⟩
    exact results_cell_row rfl _ _ (wf.heap.size+1) _ _ _ _ rfl HS.out.x Tryz.underlying37 rfl (by kernel_rfl)
end
structure Turn2(gD gV:Nat)(w w':World):Prop where
 os:w'.os=w.os
 tape:w'.tape=w.tape
 output:w'.output=w.output
 size:w.heap.size<=w'.heap.size
 block: ∀k,k<w.heap.size->k≠gD->k≠gV->w'.heap[k]? =w.heap[k]?
section
variable {gD gV: Nat} {w w1 w2: World}
theorem Turn2.refl(gD gV:Nat)(w:World):Turn2 gD gV w w:=⟨rfl,rfl,rfl,Nat.le_refl _,fun _ _ _ _=>rfl⟩
theorem Turn2.trans(h:Turn2 gD gV w w1)(k:Turn2 gD gV w1 w2):Turn2 gD gV w w2:=
 ⟨k.os.trans h.os,k.tape.trans h.tape,k.output.trans h.output,Nat.le_trans h.size k.size,fun i hi h1 h2=>(k.block i (Nat.lt_of_lt_of_le hi h.size) h1 h2).trans (h.block i hi h1 h2)⟩
theorem Turn2.more(h:Turn2 gD gV w w1)(k:Below w1.heap.size w1 w2):Turn2 gD gV w w2:=
 h.trans ⟨k.os,k.tape,k.output,k.size,fun i hi _ _=>k.block i hi⟩
theorem Turn2.setD(h:Turn2 gD gV w w1)(j:Nat)(v:Value):Turn2 gD gV w (w1.setCell ⟨gD,j,none⟩ v):=
 h.trans ⟨rfl,rfl,rfl,by simp[World.setCell],fun i hi h1 _=>heap_setCell_other _ _ _ _ h1⟩
theorem Turn2.setV(h:Turn2 gD gV w w1)(j:Nat)(v:Value):Turn2 gD gV w (w1.setCell ⟨gV,j,none⟩ v):=
 h.trans ⟨rfl,rfl,rfl,by simp[World.setCell],fun i hi _ h2=>heap_setCell_other _ _ _ _ h2⟩
theorem Turn2.drew(h:Turn2 gD gV w w1):Turn2 gD gV w w1.drew:=⟨h.os,h.tape,h.output,h.size,h.block⟩
theorem Turn2.below{B:Nat}(h:Turn2 gD gV w w1)(hB:B<=w.heap.size)(hD:B<=gD)(hV:B<=gV):Below B w w1:=
 ⟨h.os,h.tape,h.output,h.size,fun k hk=>h.block k (by omega) (by omega) (by omega)⟩
theorem Turn2.cell(h:Turn2 gD gV w w1){p:Addr}(hp:p.block<w.heap.size)(h1:p.block≠gD)(h2:p.block≠gV):w1.cell? p=w.cell? p:=World.cell?_of_block (w:=w) (h.block p.block hp h1 h2)
end
section
variable {A: Option Addr} {n c: Nat} {F: Option Addr} {m d: Nat} {W: List Int} {E: List (Int × Int)} {gO: Nat} {FL: Option Addr} {n' m' cO cL: Nat} {O L: List Int}
theorem RowsC.setO{B:Nat}{w:World}(h:RowsC B gO FL n' m' cO cL O L w){j:Nat}(hj:j<n')(z:Int):RowsC B gO FL n' m' cO cL (O.set j z) L (w.setCell ⟨gO,j,none⟩ (.int .i64 z)):=by
 have hO:=h.rO.len_eq;refine⟨ownI_setC h.rO (by omega) z,?_,h.ne⟩
 rcases Nat.eq_zero_or_pos m' with h0|h0
 ·have hL:=h.rL.len_eq
  subst h0;obtain rfl:L= []:=List.eq_nil_of_length_eq_zero hL;refine⟨h.rL.1,?_⟩
  rcases h.rL.2 with q|⟨g',cap,cur,e,hg,hgg,hnc,hcm,hcs,ht⟩
  ·exact .inl q
  ·by_cases hgo: g' = gO
   ·subst hgo
    exact .inr ⟨g',cap,cur.setIfInBounds j (.int .i64 z),e,hg,heap_setCell_same w g' j _ _ _ hgg,hnc,hcm,by rw[Array.size_setIfInBounds];exact hcs,by simp⟩
   ·exact .inr ⟨g',cap,cur,e,hg,by rw[heap_setCell_other _ _ _ _ hgo];exact hgg,hnc,hcm,hcs,ht⟩
 ·obtain ⟨gL,rfl,hne⟩:=h.ne h0
  exact own_farC h.rL (fun e=>hne (by simpa[Value.ownBlock]using e.symm)) fun k hk=>heap_setCell_other _ _ _ _ hk
end
end Go.Proofs.YtngdbbligebcbabGreatDoor
namespace Go.Proofs.YtngdbbligebcbabGreatDoor
theorem sorted_extI: ∀{l1 l2:List Int},(l1.Pairwise fun i j=>i<j)->(l2.Pairwise fun i j=>i<j)->(∀x,x∈l1↔x∈l2)->l1=l2
  | [], [],_,_,_=>rfl
  | [],b::l2,_,_,h=>absurd ((h b).mpr (List.mem_cons_self ..)) (by simp)
  |a::l1, [],_,_,h=>absurd ((h a).mp (List.mem_cons_self ..)) (by simp)
  | a :: l1, b :: l2, h1, h2, h => by
    rw[List.pairwise_cons]at h1 h2;have e:a=b:=by
      have ha:=(h a).mp (List.mem_cons_self ..);have hb:=(h b).mpr (List.mem_cons_self ..);rcases List.mem_cons.mp ha with ha|ha
      · exact ha
      · rcases List.mem_cons.mp hb with hb|hb
        · exact hb.symm
        · have:=h1.1 b hb;have:=h2.1 a ha;omega
    subst e;rw[sorted_extI h1.2 h2.2 fun x=> ?_]
    have hx:=h x;constructor
    · intro k;rcases List.mem_cons.mp (hx.mp (List.mem_cons_of_mem _ k))with e|k'
      · subst e;have:=h1.1 x k;omega
      · exact k'
    · intro k;rcases List.mem_cons.mp (hx.mpr (List.mem_cons_of_mem _ k))with e|k'
      · subst e;have:=h2.1 x k;omega
      · exact k'
theorem sort_is{l l':List Int}(hn:l.Nodup)(hs:l'.Pairwise fun i j=>i<j)(h: ∀x,x∈l↔x∈l'):(l.mergeSort fun x y=>decide (x<=y))=l':=by
 have hp:=List.mergeSort_perm l (fun x y=>decide (x<=y))
 have h1:(l.mergeSort fun x y=>decide (x<=y)).Pairwise fun x y=>decide (x<=y)=true:=
  List.pairwise_mergeSort (fun a b c q r=>by simp at q r⊢;omega) (fun a b=>by simp;omega) l
 have h2:(l.mergeSort fun x y=>decide (x<=y)).Nodup:=hp.nodup_iff.mpr hn
 refine sorted_extI ?_ hs fun x=>(hp.mem_iff).trans (h x)
 have h3:=h1.and h2;exact h3.imp fun{a b} q=>by
  have q1:=q.1;simp at q1;have q2:=q.2;omega
theorem nums_rises(n:Nat)(p:Nat->Bool):(nums ((List.range n).filter p)).Pairwise fun i j=>i<j:=by
 unfold nums;rw[List.pairwise_map];exact(List.pairwise_lt_range.filter p).imp fun{a b} h=>by simpa using h
structure TickC(O L:List Int)(k:Nat)(Oc Lc Dc:List Int):Prop where
 ho:Oc.length=O.length
 hl:Lc.length=L.length
 on: ∀(i:Nat) (x:Int),O[i]? =some x->Oc[i]? =some (if i<k/\x≠ -1/\leftC L x=1 then -1 else x)
 left: ∀q:Nat,q<L.length->leftC Lc (q:Int)=leftC L (q:Int) - if(q:Int)∈O.take k then 1 else 0
 done:Dc=(O.take k).filter fun x=>decide (x≠ -1/\leftC L x=1)
section
variable {O L Oc Lc Dc: List Int} {k: Nat}
theorem TickC.start(O L:List Int):TickC O L 0 O L []:=by
 refine⟨rfl,rfl,fun i x h=> ?_,fun q hq=> ?_,by simp⟩
 ·rw[h,if_neg (fun q=>by omega)]
 ·rw [if_neg (by simp)]
  omega
theorem take_nextI{O:List Int}{k:Nat}{x:Int}(hx:O[k]? =some x):O.take (k+1)=O.take k++ [x]:=by
 rw[List.take_add_one,hx];rfl
theorem TickC.here(h:TickC O L k Oc Lc Dc){x:Int}(hx:O[k]? =some x):Oc[k]? =some x:=by
 rw[h.on k x hx,if_neg (fun q=>by omega)]
theorem TickC.idle(h:TickC O L k Oc Lc Dc)(hx:O[k]? =some (-1)):TickC O L (k+1) Oc Lc Dc:=by
 refine⟨h.ho,h.hl,fun i y hy=> ?_,fun q hq=> ?_,?_⟩
 ·rw [h.on i y hy]
  congr 1
  by_cases hik:i=k
  ·subst hik
   rw[hx]at hy;obtain rfl:=Option.some.inj hy;rw[if_neg (fun q=>by omega),if_neg (fun q=>q.2.1 rfl)]
  ·have: (i < k + 1) ↔ (i < k):=by omega
   simp only[this]
 ·rw [h.left q hq,take_nextI hx]
  congr 1
  have:(q:Int)∈O.take k++ [-1]↔(q:Int)∈O.take k:=by
   rw[List.mem_append,List.mem_singleton];exact⟨fun r=>r.resolve_right (by omega),.inl⟩
  simp only[this]
 ·rw [h.done,take_nextI hx,List.filter_append]
  simp
theorem TickC.node(h:TickC O L k Oc Lc Dc){n:Nat}(hx:O[k]? =some (n:Int))(hn:n<L.length)(hno:(n:Int)∉O.take k):
  leftC Lc (n:Int)=leftC L (n:Int)/\(leftC L (n:Int)=1->TickC O L (k+1) (Oc.set k (-1)) (Lc.set n (leftC L (n:Int) - 1)) (Dc++ [(n:Int)]))/\(leftC L (n:Int)≠1->TickC O L (k+1) Oc (Lc.set n (leftC L (n:Int) - 1)) Dc):=by
 have hk:k<O.length:=(List.getElem?_eq_some_iff.1 hx).1
 have hleft: ∀q:Nat,q<L.length->leftC (Lc.set n (leftC L (n:Int) - 1)) (q:Int)=leftC L (q:Int) - if(q:Int)∈O.take (k+1)then 1 else 0:=fun q hq=>by
  have hm:(q:Int)∈O.take (k+1)↔(q:Int)∈O.take k\/q=n:=by
   rw[take_nextI hx,List.mem_append,List.mem_singleton];exact⟨fun r=>r.imp id (fun e=>by omega),fun r=>r.imp id (fun e=>by omega)⟩
  rw[leftC_nat (Lc.set n _)]
  by_cases hqn:q=n
  ·subst hqn
   rw[getD_set_self (by rw[h.hl];exact hq),if_pos (hm.mpr (.inr rfl))]
  ·rw [getD_set_ne (fun e => hqn e.symm),<- leftC_nat,h.left q hq]
   congr 1
   have:(q:Int)∈O.take (k+1)↔(q:Int)∈O.take k:=hm.trans ⟨fun r=>r.resolve_right hqn,.inl⟩
   simp only[this]
 have hother: ∀i,i≠k-> ∀x,O[i]? =some x->Oc[i]? =some (if i<k+1/\x≠ -1/\leftC L x=1 then -1 else x):=fun i hik x hi=>by
  rw[h.on i x hi];have:(i<k+1)↔(i<k):=by omega
  simp only[this]
 have hf:(O.take (k+1)).filter (fun x=>decide (x≠ -1/\leftC L x=1))=Dc++if leftC L (n:Int)=1 then [(n:Int)]else []:=by
  rw[take_nextI hx,List.filter_append,<-h.done];congr 1
  by_cases h1:leftC L (n:Int)=1
  ·rw [if_pos h1]
   have hn1:(n:Int)≠ -1:=by omega
   simp[List.filter,h1,hn1]
  ·rw [if_neg h1]
   simp[List.filter,h1]
 refine⟨by rw[h.left n hn,if_neg hno];omega,fun h1=>⟨by rw[List.length_set];exact h.ho,by rw[List.length_set];exact h.hl,fun i x hi=> ?_,hleft,by rw[hf,if_pos h1]⟩,fun h1=>⟨h.ho,by rw[List.length_set];exact h.hl,fun i x hi=> ?_,hleft,by rw[hf,if_neg h1,List.append_nil]⟩⟩
 ·by_cases hik: i = k
  ·subst hik
   rw[hx]at hi;obtain rfl:=Option.some.inj hi;rw[List.getElem?_set_self (by rw[h.ho];exact hk),if_pos ⟨by omega,by omega,h1⟩]
  ·rw [List.getElem?_set_ne (fun e => hik e.symm)]
   exact hother i hik x hi
 ·by_cases hik: i = k
  ·subst hik
   rw[h.on i x hi];rw[hx]at hi;obtain rfl:=Option.some.inj hi;rw[if_neg (fun q=>h1 q.2.2),if_neg (fun q=>h1 q.2.2)]
  ·exact hother i hik x hi
theorem TickC.end_(h:TickC O L O.length Oc Lc Dc)(hO: ∀x∈O,x= -1\/(0<=x/\x<(L.length:Int)))(h1: ∀x,x≠ -1->O.count x<=1):Oc=onT O L/\Lc=leftT O L/\(Dc.mergeSort fun x y=>decide (x<=y))=nums (doneT O L):=by
 obtain⟨ho,hl,on,left,done⟩:=h;rw[List.take_length]at left done;refine⟨?_,?_,?_⟩
 ·refine List.ext_getElem? fun i => ?_
  unfold onT;rw[List.getElem?_map]
  rcases Nat.lt_or_ge i O.length with hi|hi
  ·have he:=List.getElem?_eq_getElem hi
   rw[on i _ he,he];show _=some (if O[i]≠ -1/\leftC L O[i]=1 then -1 else O[i])
   congr 1
   simp only[hi,true_and]
  ·rw[List.getElem?_eq_none (by omega),List.getElem?_eq_none hi];rfl
 ·refine List.ext_getElem? fun i => ?_
  rcases Nat.lt_or_ge i L.length with hi|hi
  ·have e1:=left i hi
   have e2:=leftT_at (O:=O) hi;rw[List.getElem?_eq_getElem (by omega),List.getElem?_eq_getElem (by rw[leftT_len];exact hi)]
   congr 1
   rw[leftC_nat,List.getD_eq_getElem?_getD,List.getElem?_eq_getElem (by omega)]at e1
   rw[leftC_nat,List.getD_eq_getElem?_getD,List.getElem?_eq_getElem (by rw[leftT_len];exact hi)]at e2
   simp only[Option.getD_some]at e1 e2;rw[e1,e2]
  ·rw[List.getElem?_eq_none (by omega),List.getElem?_eq_none (by rw[leftT_len];exact hi)]
 ·refine sort_is ?_ (nums_rises _ _) fun x => ?_
  ·rw [done,List.nodup_iff_count]
   intro x
   by_cases hx:x= -1
   ·subst hx
    rw[List.count_eq_zero.mpr]
    ·omega
    ·rw [List.mem_filter]
     simp
   ·exact Nat.le_trans (List.filter_sublist.count_le x) (h1 x hx)
  ·rw [done,List.mem_filter,decide_eq_true_iff]
   unfold nums;rw[List.mem_map];constructor
   ·rintro ⟨hm,hne,hle⟩
    rcases hO x hm with e|⟨e1,e2⟩
    ·exact absurd e hne
    ·refine⟨x.toNat,mem_doneT.mpr ⟨by omega,?_,?_⟩,Int.toNat_of_nonneg e1⟩<;>rw[Int.toNat_of_nonneg e1]<;>assumption
   ·rintro ⟨y,hy,rfl⟩
    obtain⟨e1,e2,e3⟩:=mem_doneT.mp hy;exact⟨e2,by simp only[Int.ofNat_eq_natCast];omega,e3⟩
end
end Go.Proofs.YtngdbbligebcbabGreatDoor
namespace Go.Proofs.YtngdbbligebcbabGreatDoor
open Go Go.RowKit
section
variable {gO gL: Nat} {FL: Option Addr} {n' m' cO cL: Nat} {O L: List Int}
structure StTi(Bq:Nat)(wf:World)(gO gL:Nat)(FL:Option Addr)(n' m' cO cL:Nat)(O L:List Int)(w:World):Prop where
 tn:Turn2 gO gL wf w
 lt:wf.heap.size<w.heap.size
 c0:w.cell? ⟨wf.heap.size,0,none⟩=some (.slice (some ⟨gO,0,none⟩) n' cO)
 c1:w.cell? ⟨wf.heap.size,1,none⟩=some (.slice FL m' cL)
 rows:RowsC Bq gO FL n' m' cO cL O L w
 lO:gO<wf.heap.size
 lL:gL<wf.heap.size
theorem own_later{w w':World}{base B:Nat}{v:Value}{zs:List Int}(h:OwnI w base v zs)(hv: ∀b,v.ownBlock=some b->b<B)(hb:Below B w w'):OwnI w' base v zs:=by
 refine⟨h.1,?_⟩
 rcases h.2 with hn|⟨g,cap,cur,rfl,hg,hgg,rest⟩
 ·exact .inl hn
 ·exact .inr ⟨g,cap,cur,rfl,hg,by rw[hb.block g (hv g rfl)];exact hgg,rest⟩
theorem StTi.later{Bq:Nat}{wf w w':World}(h:StTi Bq wf gO gL FL n' m' cO cL O L w)(hLb: ∀b,(Value.slice FL m' cL).ownBlock=some b->b<wf.heap.size)(hb:Below (wf.heap.size+1) w w'):StTi Bq wf gO gL FL n' m' cO cL O L w':=
 ⟨⟨hb.os.trans h.tn.os,hb.tape.trans h.tn.tape,hb.output.trans h.tn.output,Nat.le_trans h.tn.size hb.size,fun k hk h1 h2=>(hb.block k (by omega)).trans (h.tn.block k hk h1 h2)⟩,Nat.lt_of_lt_of_le h.lt hb.size,(hb.cell (show wf.heap.size<wf.heap.size+1 by omega)).trans h.c0,(hb.cell (show wf.heap.size<wf.heap.size+1 by omega)).trans h.c1,
  ⟨own_later h.rows.rO (fun b e=>by simp[Value.ownBlock]at e;have:=h.lO;omega) hb,own_later h.rows.rL (fun b e=>by have:=hLb b e;omega) hb,h.rows.ne⟩,h.lO,h.lL⟩
theorem StTi.setO{Bq:Nat}{wf w:World}(h:StTi Bq wf gO gL FL n' m' cO cL O L w){j:Nat}(hj:j<n')(z:Int):StTi Bq wf gO gL FL n' m' cO cL (O.set j z) L (w.setCell ⟨gO,j,none⟩ (.int .i64 z)):=by
 have hlo:=h.lO;exact⟨h.tn.setD j _,by simp[World.setCell];exact h.lt,(((Turn2.refl gO gO w).setD j (.int .i64 z)).cell (p:=⟨wf.heap.size,0,none⟩) h.lt (show wf.heap.size≠gO by omega) (show wf.heap.size≠gO by omega)).trans h.c0,(((Turn2.refl gO gO w).setD j (.int .i64 z)).cell (p:=⟨wf.heap.size,1,none⟩) h.lt (show wf.heap.size≠gO by omega) (show wf.heap.size≠gO by omega)).trans h.c1,h.rows.setO hj z,h.lO,h.lL⟩
theorem StTi.setL{Bq:Nat}{wf w:World}(h:StTi Bq wf gO gL (some ⟨gL,0,none⟩) n' m' cO cL O L w){j:Nat}(hj:j<m')(z:Int):StTi Bq wf gO gL (some ⟨gL,0,none⟩) n' m' cO cL O (L.set j z) (w.setCell ⟨gL,j,none⟩ (.int .i64 z)):=by
 have hlo:=h.lL;have hL:=h.rows.rL.len_eq;obtain⟨gL',e,hne⟩:=h.rows.ne (by omega)
 obtain rfl:gL=gL':=by simpa using e
 exact⟨h.tn.setV j _,by simp[World.setCell];exact h.lt,(((Turn2.refl gL gL w).setD j (.int .i64 z)).cell (p:=⟨wf.heap.size,0,none⟩) h.lt (show wf.heap.size≠gL by omega) (show wf.heap.size≠gL by omega)).trans h.c0,(((Turn2.refl gL gL w).setD j (.int .i64 z)).cell (p:=⟨wf.heap.size,1,none⟩) h.lt (show wf.heap.size≠gL by omega) (show wf.heap.size≠gL by omega)).trans h.c1,
  ⟨own_farC h.rows.rO (fun e=>hne (by simpa[Value.ownBlock]using e)) fun k hk=>heap_setCell_other _ _ _ _ hk,ownI_setC h.rows.rL (by omega) z,h.rows.ne⟩,h.lO,h.lL⟩
theorem own_storeLo{w:World}{B g j:Nat}{v:Value}{zs:List Int}(h:OwnI w B v zs)(hg:g<B)(u:Value):OwnI (w.setCell ⟨g,j,none⟩ u) B v zs:=
 own_farC h (fun e=>by have:=(h.blockLt g e).1;omega) fun k hk=>heap_setCell_other _ _ _ _ hk
theorem ptick_any(Bq:Nat)(wf:World)(hr:RowsC Bq gO FL n' m' cO cL O L wf)(hx: ∀x∈O,x= -1\/(0<=x/\x<(L.length:Int)))(h1: ∀x,x≠ -1->O.count x<=1)(hz: ∀z∈L,0<=z/\z<=1000)(ln:n'<=400)(lm:m'<=400):
  Calls Tryz.prog 100 #[.agg #[.slice (some ⟨gO,0,none⟩) n' cO,.slice FL m' cL]] wf fun e w'=> ∃A1 k1 c1 gL,e= .returned (.slice A1 k1 c1)/\OwnI w' (wf.heap.size+1) (.slice A1 k1 c1) (nums (doneT O L))/\(nums (doneT O L)).length=k1/\RowsC Bq gO FL n' m' cO cL (onT O L) (leftT O L) w'/\(gL=gO\/FL=some ⟨gL,0,none⟩)/\Bq<=gL/\Turn2 gO gL wf w':=by
 have hO:=hr.rO.len_eq;have hm:=hr.rL.len_eq;have hk:=hr.isC ln lm;obtain⟨cur,hgg,hgO,hncO,_⟩:=hr.rO.blockC;have hgl:gO<wf.heap.size:=(Array.getElem?_eq_some_iff.1 hgg).1
 obtain⟨gL,hgLw,hgLb,hFL,hwh⟩: ∃gL,gL<wf.heap.size/\Bq<=gL/\(0<m'->FL=some ⟨gL,0,none⟩)/\(gL=gO\/FL=some ⟨gL,0,none⟩):=by
  rcases Nat.eq_zero_or_pos m' with h0|h0
  ·exact⟨gO,hgl,hgO,fun q=>by omega,.inl rfl⟩
  ·obtain ⟨gL,rfl,_⟩:=hr.ne h0
   obtain⟨cur2,h2,h3,_⟩:=hr.rL.blockC;exact⟨gL,(Array.getElem?_eq_some_iff.1 h2).1,h3,fun _=>rfl,.inr rfl⟩
 have hLb: ∀b,(Value.slice FL m' cL).ownBlock=some b->b<wf.heap.size:=fun b e=>(hr.rL.blockLt b e).2
 obtain⟨w0,hw0⟩: ∃w0,w0=wf.alloc (.cells #[.slice (some ⟨gO,0,none⟩) n' cO,.slice FL m' cL] 37):=⟨_,rfl⟩;have B0:Hid (StTi Bq wf gO gL FL n' m' cO cL O L w0):=Lib.hid (by
  have h1:=BxK.start hk;rw[<-hw0]at h1;exact⟨(Turn2.refl _ _ _).more h1.bel,h1.lt,h1.c0,h1.c1,hr.next h1.bel,hgl,hgLw⟩)
 have T0:Hid (TickC O L 0 O L []):=Lib.hid (TickC.start O L);have HW:=Lib.hid hw0;have HO:=Lib.hid hO;have HM:=Lib.hid hm;have HX:=Lib.hid hx;have H1:=Lib.hid h1;have HZ:=Lib.hid hz;have HLB:=Lib.hid hLb;have HFL:=Lib.hid hFL;have HWH:=Lib.hid hwh;have HGB:=Lib.hid hgLb;have HND:Hid (∀k (x:Nat),O[k]? =some (x:Int)->(x:Int)∉O.take k):=Lib.hid (fun k x hk hm=>by
  obtain⟨i,hi,he⟩:=List.getElem_of_mem hm;rw[List.length_take]at hi;rw[List.getElem_take]at he;have h4:O[i]? =some (x:Int):=by rw[List.getElem?_eq_getElem (by omega)];exact congrArg some he
  have:=idx_once (h1 x (by omega)) hk h4
  omega)
 clear hr hx h1 hz hO hm hk hgg hncO hLb hFL hgLb hwh hw0 hgO;have q0:=B0.out.c0;go_enter Tryz.func100,Tryz.ntmps100;go_wp2_with fail;rw[<-HW.out];clear HW;go_wp2;go_loopw [3,9] (fun v i wr=> ∃(j k:Nat) (A2:Option Addr) (c2:Nat) (Oc Lc Dc:List Int),j<=n'/\k<=j/\i= .int .i64 j/\v= .slice A2 k c2/\Hid (Dc.length=k)/\Hid (TickC O L j Oc Lc Dc)/\Hid (OwnI wr (wf.heap.size+1) (.slice A2 k c2) Dc)/\Hid (StTi Bq wf gO gL FL n' m' cO cL Oc Lc wr)) (fun _ i _=>n' - (intOf i).toNat)
 case atStart=>exact⟨0,0,none,0,O,L,[],Nat.zero_le _,Nat.le_refl _,rfl,rfl,Lib.hid rfl,T0,Lib.hid ⟨rfl,.inl ⟨rfl,rfl⟩⟩,B0⟩
 case round=>
  clear B0 T0 q0;obtain⟨j,k,A2,c2,Oc,Lc,Dc,hj,hkj,rfl,rfl,HK,HT,HD,HB⟩:=hrel;have hlt0:wf.heap.size<wr.heap.size:=HB.out.lt
  by_cases hlt:j<n'
  ·obtain ⟨x,hxO⟩: ∃ x,O[j]? = some x:=⟨_,List.getElem?_eq_getElem (by rw [HO.out]; exact hlt)⟩
   have hxc:=HT.out.here hxO;obtain⟨b3,o3,x',e3,hb3,hx',d3⟩:=HB.out.rows.rO.ints.at_ (k:=j) (by have:=HB.out.rows.rO.len_eq;omega)
   obtain rfl:x=x':=by rw[hxc]at hx';exact Option.some.inj hx'
   obtain⟨h31,h32⟩:gO=b3/\0=o3:=by
    injection e3 with e3;injection e3 with e31 e32;exact⟨e31,e32⟩
   rw[<-h31,<-h32,Nat.zero_add]at d3;have HXO:=Lib.hid hxO;clear e3 hb3 hx' h31 h32 hxc
   by_cases hx1:x= -1
   ·subst hx1
    have HT2:=Lib.hid (HT.out.idle hxO);clear hxO;go_wp2;go_roundw
    case rel=>exact⟨j+1,k,A2,c2,Oc,Lc,Dc,by omega,by omega,by go_num,rfl,HK,HT2,HD,HB⟩
    case measure=>simp[intOf];omega
   ·have hx1a: (x == -1) = false:=beq_eq_false_iff_ne.mpr hx1
    obtain⟨h0x,hxm⟩:=(HX.out x (List.mem_of_getElem? hxO)).resolve_left hx1
    obtain⟨q,rfl⟩: ∃q:Nat,x=q:=⟨x.toNat,by omega⟩
    have hqm:q<m':=by have:=HM.out;omega
    obtain rfl:=HFL.out (by omega)
    obtain⟨hlc,hT1,hT2⟩:=HT.out.node hxO (by rw[HM.out];exact hqm) (HND.out j q hxO)
    have HT1:=Lib.hid hT1;have HT2:=Lib.hid hT2;have hgOL:gO≠gL:=by
     obtain⟨g',e,hne⟩:=HB.out.rows.ne (by omega)
     obtain rfl:gL=g':=by simpa using e
     exact hne
    obtain⟨b4,o4,y,e4,hb4,hy,d4⟩:=HB.out.rows.rL.ints.at_ (k:=q) (by have:=HB.out.rows.rL.len_eq;omega)
    obtain⟨h41,h42⟩:gL=b4/\0=o4:=by
     injection e4 with e4;injection e4 with e41 e42;exact⟨e41,e42⟩
    rw[<-h41,<-h42,Nat.zero_add]at d4;have hy2:leftC L (q:Int)=y:=hlc.symm.trans (leftC_at hy);have hyb:0<=y/\y<=1000:=by
     rw[<-hy2];exact HZ.out _ (leftC_mem (by rw[HM.out];exact hqm))
    obtain⟨hy0,hy1000⟩:=hyb;rw[hy2]at HT1 HT2;have fL:=HB.out.rows.rL.frozenC q;have q0:=HB.out.c0;have q1:=HB.out.c1;have hgLr:gL<wr.heap.size:=Nat.lt_trans hgLw hlt0;have hgOr:gO<wr.heap.size:=Nat.lt_trans hgl hlt0;clear e4 hb4 hy h41 h42 hlc hT1 hT2 hxO hx1 hy2 h0x hxm
    by_cases hy1:y=1
    ·subst hy1
     have HS1:=Lib.hid (HB.out.setL hqm 0);have HS2:=Lib.hid (HS1.out.setO hlt (-1));have HT3:=Lib.hid (HT1.out rfl);have HD2:=Lib.hid (own_storeLo (j:=j) (own_storeLo (j:=q) HD.out (show gL<wf.heap.size+1 by omega) (.int .i64 0)) (show gO<wf.heap.size+1 by omega) (.int .i64 (-1)))
     have q0s:=HS1.out.c0;have q1s:=HS1.out.c1;have d4s:(wr.setCell ⟨gL,q,none⟩ (.int .i64 0)).cell? ⟨gL,q,none⟩=some (.int .i64 0):=by
      obtain⟨b5,o5,y5,e5,_,hy5,d5⟩:=HS1.out.rows.rL.ints.at_ (k:=q) (by have:=HS1.out.rows.rL.len_eq;omega)
      injection e5 with e5;injection e5 with e51 e52;rw[<-e51,<-e52,Nat.zero_add]at d5;rw[List.getElem?_set_self (by have:=HB.out.rows.rL.len_eq;omega)]at hy5
      rw[<-Option.some.inj hy5]at d5;exact d5
     have d3s:(wr.setCell ⟨gL,q,none⟩ (.int .i64 0)).cell? ⟨gO,j,none⟩=some (.int .i64 q):=by
      rw[((Turn2.refl gL gL wr).setD q (.int .i64 0)).cell (p:=⟨gO,j,none⟩) hgOr hgOL hgOL];exact d3
     have fOs:=HS1.out.rows.rO.frozenC j;have hsz2:wf.heap.size+1<=((wr.setCell ⟨gL,q,none⟩ (.int .i64 0)).setCell ⟨gO,j,none⟩ (.int .i64 (-1))).heap.size:=by simp[World.setCell];omega
     clear HT1 HT2 HS1 HB HT
     go_wp2_with(at_builtin;refine wpList_push rfl _ _ rfl ((wr.setCell ⟨gL,q,none⟩ (.int .i64 0)).setCell ⟨gO,j,none⟩ (.int .i64 (-1))) (wf.heap.size+1) _ Dc (q:Int) k HK.out (by omega) HD2.out hsz2 (by first|rfl|simp[Act.eval]) (by first|rfl|simp[Act.eval]) ?_;intro A3 c3 w3 HO3 HB3;(have HO3':=Lib.hid HO3);(have HB3':=Lib.hid HB3);clear HO3 HB3)
     have HS3:=Lib.hid (HS2.out.later HLB.out HB3'.out);go_roundw
     case rel=>exact⟨j+1,k+1,A3,c3,_,_,_,by omega,by omega,by go_num,rfl,Lib.hid (by rw[List.length_append,HK.out];rfl),HT3,HO3',HS3⟩
     case measure=>simp[intOf];omega
    ·obtain ⟨y1,hy1e⟩: ∃ y1,y - 1 = y1:=⟨_,rfl⟩
     have hne:(y1==0)=false:=by rw[beq_eq_false_iff_ne];omega
     have hr1: -9223372036854775808<=y1:=by omega
     have hr2:y1<=9223372036854775807:=by omega
     have HS1:=Lib.hid (HB.out.setL hqm y1);have HT3:=Lib.hid (HT2.out hy1);have HD2:=Lib.hid (own_storeLo (j:=q) HD.out (show gL<wf.heap.size+1 by omega) (.int .i64 y1))
     have q0s:=HS1.out.c0;have q1s:=HS1.out.c1;have d4s:(wr.setCell ⟨gL,q,none⟩ (.int .i64 y1)).cell? ⟨gL,q,none⟩=some (.int .i64 y1):=by
      obtain⟨b5,o5,y5,e5,_,hy5,d5⟩:=HS1.out.rows.rL.ints.at_ (k:=q) (by have:=HS1.out.rows.rL.len_eq;omega)
      injection e5 with e5;injection e5 with e51 e52;rw[<-e51,<-e52,Nat.zero_add]at d5;rw[List.getElem?_set_self (by have:=HB.out.rows.rL.len_eq;omega)]at hy5
      rw[<-Option.some.inj hy5]at d5;exact d5
     rw[hy1e]at HT3;clear HT1 HT2 HB HT hy1;go_wp2;go_roundw
     case rel=>exact⟨j+1,k,A2,c2,_,_,_,by omega,by omega,by go_num,rfl,HK,HT3,HD2,HS1⟩
     case measure=>simp[intOf];omega
  ·obtain rfl: n' = j:=by omega
   obtain⟨e1,e2,e3⟩:=TickC.end_ (by rw[HO.out];exact HT.out:TickC O L O.length Oc Lc Dc) HX.out H1.out
   have CS:=Lib.hid (sortOwn_any wr (wf.heap.size+1) A2 k c2 Dc HK.out (by omega) HD.out hlt0)
   have HE:=Lib.hid (And.intro e1 (And.intro e2 e3));have HLN:Hid ((nums (doneT O L)).length=k):=Lib.hid (by rw[<-e3,List.length_mergeSort];exact HK.out)
   clear e1 e2 e3;go_wp2_with fail;refine CS.out.mono ?_
   rintro e w2 ⟨rfl,ho,hb⟩;have HS:=Lib.hid (HB.out.later HLB.out hb);have HOO:=Lib.hid ho;clear ho hb;go_wp2;go_ret;exact⟨A2,k,c2,gL,rfl,by rw[<-HE.out.2.2];exact HOO.out,HLN.out,by rw[<-HE.out.1,<-HE.out.2.1];exact HS.out.rows,HWH.out,HGB.out,HS.out.tn⟩
end
end Go.Proofs.YtngdbbligebcbabGreatDoor
namespace Go.Proofs.YtngdbbligebcbabGreatDoor
open Go.RowKit
section
variable {A: Option Addr} {n c: Nat} {F: Option Addr} {m d: Nat} {W: List Int} {E: List (Int × Int)} {A': Option Addr} {n' c': Nat} {F': Option Addr} {m' d': Nat} {W': List Int} {E': List (Int × Int)}
end
end Go.Proofs.YtngdbbligebcbabGreatDoor
