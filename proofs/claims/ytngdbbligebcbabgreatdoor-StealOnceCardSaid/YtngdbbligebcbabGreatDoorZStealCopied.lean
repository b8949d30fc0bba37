import Derived.Test.YtngdbbligebcbabGreatDoorZM31
import Derived.Test.YtngdbbligebcbabGreatDoorZM29
import Derived.Test.YtngdbbligebcbabGreatDoorZTailP
import Derived.Test.YtngdbbligebcbabGreatDoorZM20
import Derived.Test.YtngdbbligebcbabGreatDoorZM17
set_option linter.unusedVariables false
set_option linter.unusedSimpArgs false
set_option maxRecDepth 100000
set_option maxHeartbeats 16000000
namespace Go.Proofs.YtngdbbligebcbabGreatDoor
open Go Go.RowKit
theorem OwnI.some_{w:World}{b:Nat}{A:Option Addr}{n c:Nat}{zs:List Int}(h:OwnI w b (.slice A n c) zs)(hn:1<=n): ∃g,A=some ⟨g,0,none⟩/\b<=g/\g<w.heap.size:=by
 rcases h.2 with⟨e,q⟩|⟨g',cap,cur,e,hg,hgg,_⟩
 ·injection e with e1 e2 e3
  omega
 ·injection e with e1 e2 e3
  exact⟨g',e1,hg,(Array.getElem?_eq_some_iff.1 hgg).1⟩
theorem OwnI.blk{w:World}{b:Nat}{v:Value}{zs:List Int}(h:OwnI w b v zs){g:Nat}(hg:v.ownBlock=some g):b<=g/\g<w.heap.size:=by
 rcases h.2 with⟨rfl,q⟩|⟨g',cap,cur,rfl,hg',hgg,_⟩
 ·cases hg
 ·injection hg with hg
  subst hg;exact⟨hg',(Array.getElem?_eq_some_iff.1 hgg).1⟩
theorem clone_own{w:World}{base:Nat}{A:Option Addr}{n c:Nat}{zs:List Int}(h:OwnI w base (.slice A n c) zs)(hl:zs.length=n)(hn:n<=1000):
  Calls Tryz.prog 34 #[.slice A n c] w fun e w'=> ∃v,e= .returned v/\(∃A2 c2,v= .slice A2 n c2)/\OwnI w' w.heap.size v zs/\Below w.heap.size w w':=by
 refine(clone_i w A n c zs hl hn h.ints (fun hA=> ?_)).mono ?_
 ·subst hA
  exact h.none_nil
 ·rintro e w' ⟨A2,c2,rfl,hO,hb⟩
  rw[hl]at hO⊢;exact⟨_,rfl,⟨A2,c2,rfl⟩,hO,hb⟩
def PhiC1(b gb m:Nat)(g:Gng)(L:List Int)(ad:GAd):Nat->Value->World->Prop
 |0,v,w=>v= .pointer (some ⟨gb,0,none⟩)
 |1,v,w=>v= .pointer (some ⟨gb,0,none⟩)
 |2,v,w=>v= .slice (some ⟨ad.gO,0,none⟩) m ad.cO
 |3,v,w=> ∃g1 c1,v= .slice (some ⟨g1,0,none⟩) m c1/\OwnI w b v g.O
 |4,v,w=>v= .pointer (some ⟨gb,0,none⟩)
 |5,v,w=>v= .pointer (some ⟨gb,1,none⟩)
 |6,v,w=>v=ad.vL
 |7,v,w=>OwnI w b v L
 |8,v,w=>v= .pointer (some ⟨gb,0,none⟩)
 |9,v,w=>v= .pointer (some ⟨gb,0,none⟩)
 |_,_,_=>True
theorem phiC1_below{b gb m:Nat}{g:Gng}{L:List Int}{ad:GAd}: ∀kq v w w',PhiC1 b gb m g L ad kq v w->Below w.heap.size w w'->PhiC1 b gb m g L ad kq v w':=by
 intro kq v w w' h hb
 match kq,h with
 |0,h=>exact h
 |1,h=>exact h
 |2,h=>exact h
 |3,h=>exact(by obtain⟨g1,c1,e,ho⟩:=h;exact⟨g1,c1,e,OwnI.below ho hb⟩)
 |4,h=>exact h
 |5,h=>exact h
 |6,h=>exact h
 |7,h=>exact(OwnI.below h hb)
 |8,h=>exact h
 |9,h=>exact h
 |kq+10,h=>exact trivial
def PhiC2(b gb m:Nat)(g:Gng)(ad:GAd):Nat->Value->World->Prop
 |0,v,w=>v= .pointer (some ⟨gb,3,none⟩)
 |1,v,w=>v= .slice (some ⟨ad.gT,0,none⟩) m ad.cT
 |2,v,w=> ∃g1 c1,v= .slice (some ⟨g1,0,none⟩) m c1/\w.ownsRow b 65 6 v m (flatN (fun c=>cT (g.tk c)) m)
 |3,v,w=>v= .pointer (some ⟨gb,4,none⟩)
 |4,v,w=>v= .slice (some ⟨ad.gF,0,none⟩) m ad.cF
 |5,v,w=> ∃g1 c1,v= .slice (some ⟨g1,0,none⟩) m c1/\OwnI w b v (frL m g)
 |6,v,w=>v= .pointer (some ⟨gb,3,none⟩)
 |_,_,_=>True
theorem phiC2_below{b gb m:Nat}{g:Gng}{ad:GAd}: ∀kq v w w',PhiC2 b gb m g ad kq v w->Below w.heap.size w w'->PhiC2 b gb m g ad kq v w':=by
 intro kq v w w' h hb
 match kq,h with
 |0,h=>exact h
 |1,h=>exact h
 |2,h=>exact(by obtain⟨g1,c1,e,ho⟩:=h;exact⟨g1,c1,e,own_below ho hb⟩)
 |3,h=>exact h
 |4,h=>exact h
 |5,h=>exact(by obtain⟨g1,c1,e,ho⟩:=h;exact⟨g1,c1,e,OwnI.below ho hb⟩)
 |6,h=>exact h
 |kq+7,h=>exact trivial
def ThtC2(b gb m:Nat)(g:Gng)(ad:GAd)(vO vL:Value)(wr:World)(t:Nat)(f:Nat->Value)(w:World):Prop:=
 7<=t/\t<=10/\Kp [gb] wr w/\(∃g1 c1,f 21= .slice (some ⟨g1,0,none⟩) m c1)/\(∃g1 c1,f 24= .slice (some ⟨g1,0,none⟩) m c1)/\w.ownsRow b 65 6 (f 21) m (flatN (fun c=>cT (g.tk c)) m)/\OwnI w b (f 24) (frL m g)/\(t=7->f 25= .pointer (some ⟨gb,3,none⟩))/\(t=9->f 26= .pointer (some ⟨gb,4,none⟩))/\
  (t=7->RowV gb 41 [vO,vL,ad.vD m,ad.vT m,ad.vF m] w)/\(8<=t->t<=9->RowV gb 41 [vO,vL,ad.vD m,f 21,ad.vF m] w)/\(t=10->RowV gb 41 [vO,vL,ad.vD m,f 21,f 24] w)
theorem tk_one(g:Gng)(m:Nat): ∀u∈flatN (fun c=>cT (g.tk c)) m,u.oneCell'=true:=by
 intro u hu;unfold flatN at hu;obtain⟨c,_,h2⟩:=List.mem_flatMap.mp hu;simp only[cT,List.mem_cons,List.not_mem_nil,or_false]at h2;rcases h2 with rfl|rfl|rfl|rfl|rfl|rfl<;>rfl
theorem dq_one{w:World}{base m:Nat}{g:Gng}{L:List Int}{ad:GAd}(h:GngR w base m g L ad): ∀u∈flatN (dqC g ad) m,u.oneCell'=true:=by
 intro u hu;unfold flatN at hu;obtain⟨c,h1,h2⟩:=List.mem_flatMap.mp hu;obtain⟨A,cc,hv,_⟩:=(h.ring c (List.mem_range.mp h1)).slice;simp only[dqC,List.mem_cons,List.not_mem_nil,or_false]at h2;rcases h2 with rfl|rfl|rfl
 ·rw[hv];rfl
 ·rfl
 ·rfl
structure CpLoop(w6 wr:World)(b m:Nat)(g:Gng)(ad:GAd)(g3 c3 k:Nat)(Rv:Nat->Value):Prop where
 kp:Kp [g3] w6 wr
 dqs:wr.ownsRow b 81 3 (.slice (some ⟨g3,0,none⟩) m c3) m (flatN (dqC g {ad with Rv:=Rv}) m)
 new_: ∀j,j<k->OwnI wr w6.heap.size (Rv j) (g.R j)
 rest: ∀j,k<=j->Rv j=ad.Rv j
theorem CpLoop.cell{w6 wr:World}{b m:Nat}{g:Gng}{ad:GAd}{g3 c3 k:Nat}{Rv:Nat->Value}(h:CpLoop w6 wr b m g ad g3 c3 k Rv){j i:Nat}(hj:j<m){v:Value}(hi:(dqC g {ad with Rv:=Rv} j)[i]? =some v):wr.cell? ⟨g3,3 * j+i,none⟩=some v:=
 rowN_cell h.dqs (by rw[flatN_at (dqC_len g _) (List.getElem?_eq_some_iff.1 hi).1 hj];exact hi)
theorem rowN_blk{w:World}{b s n c g:Nat}{e:TypeId}{xs:List Value}(h:w.ownsRow b e s (.slice (some ⟨g,0,none⟩) n c) n xs):b<=g/\g<w.heap.size:=rowN_lt h
theorem CpLoop.below{w6 wr wr':World}{b m:Nat}{g:Gng}{ad:GAd}{g3 c3 k:Nat}{Rv:Nat->Value}(h:CpLoop w6 wr b m g ad g3 c3 k Rv)(hb:Below wr.heap.size wr wr'):CpLoop w6 wr' b m g ad g3 c3 k Rv:=
 ⟨h.kp.trans (Kp.of_below hb _),own_below h.dqs hb,fun j hj=>(h.new_ j hj).below hb,h.rest⟩
theorem CpLoop.put{w6 w:World}{b b2 m:Nat}{g:Gng}{ad:GAd}{g3 c3 k:Nat}{Rv:Nat->Value}{v:Value}(h:CpLoop w6 w b m g ad g3 c3 k Rv)(hk:k<m)(hg:g3<w6.heap.size)(ho:OwnI w b2 v (g.R k))(hb2:w6.heap.size<=b2):
  CpLoop w6 (w.setCell ⟨g3,3 * k,none⟩ v) b m g ad g3 c3 (k+1) (updG Rv k v):=by
 refine⟨h.kp.set _ (by simp),?_,fun j hj=> ?_,fun j hj=> ?_⟩
 ·have h1:=rowN_set h.dqs (3 * k) v
  have h2:=flatN_set (dqC_len g {ad with Rv:=Rv}) (i:=0) (by decide) v hk
  rw[Nat.add_zero]at h2;rw[h2]at h1;rw[flatN_congr (f':=dqC g {ad with Rv:=updG Rv k v}) (fun j hj=> ?_)]at h1
  ·exact h1
  ·by_cases e: j = k
   ·subst e
    rw[updG_at];simp[dqC,updG_at]
   ·rw [updG_ne _ _ e]
    simp[dqC,updG_ne _ _ e]
 ·by_cases e: j = k
  ·subst e
   rw[updG_at];exact OwnI.down (rowN_far ho (fun q=>by have:=(ho.blk q).1;omega)) hb2
  ·rw [updG_ne _ _ e]
   have ho2:=h.new_ j (by omega)
   exact rowN_far ho2 (fun q=>by have:=(ho2.blk q).1;omega)
 ·rw[updG_ne _ _ (by omega),h.rest j (by omega)]
def PhiC3(b gb m g3 c3 k x:Nat)(A:Option Addr)(nR c:Nat)(g:Gng):Nat->Value->World->Prop
 |0,v,w=>v= .pointer (some ⟨gb,2,none⟩)
 |1,v,w=>v= .slice (some ⟨g3,0,none⟩) m c3
 |2,v,w=>v= .int .i64 k
 |3,v,w=>v= .pointer (some ⟨x,0,none⟩)
 |4,v,w=>v= .slice A nR c
 |5,v,w=>OwnI w b v (g.R k)
 |6,v,w=>v= .pointer (some ⟨g3,3 * k,none⟩)
 |7,v,w=>v= .pointer (some ⟨g3,3 * k,none⟩)
 |_,_,_=>True
theorem phiC3_below{b gb m g3 c3 k x:Nat}{A:Option Addr}{nR c:Nat}{g:Gng}: ∀kq v w w',PhiC3 b gb m g3 c3 k x A nR c g kq v w->Below w.heap.size w w'->PhiC3 b gb m g3 c3 k x A nR c g kq v w':=by
 intro kq v w w' h hb
 match kq,h with
 |0,h=>exact h
 |1,h=>exact h
 |2,h=>exact h
 |3,h=>exact h
 |4,h=>exact h
 |5,h=>exact(OwnI.below h hb)
 |6,h=>exact h
 |7,h=>exact h
 |kq+8,h=>exact trivial
def ThtC3(b m g3 c3 k:Nat)(g:Gng)(ad:GAd)(w6 w7:World)(b4:Nat)(Rv:Nat->Value)(t:Nat)(f:Nat->Value)(w:World):Prop:=
 8<=t/\t<=9/\(t=8->f 46= .pointer (some ⟨g3,3 * k,none⟩)/\OwnI w b (f 44) (g.R k)/\Below w7.heap.size w7 w)/\(t=9->CpLoop w6 w b4 m g ad g3 c3 (k+1) (updG Rv k (f 44)))
def Apart(m:Nat)(u v:Value):Prop:=∃ g1 c1,u= .slice (some ⟨g1,0,none⟩) m c1/\v.ownBlock≠some g1
def ThtC1(b gb m:Nat)(g:Gng)(L:List Int)(ad:GAd)(wr:World)(t:Nat)(f:Nat->Value)(w:World):Prop:=
 10<=t/\t<=14/\Kp [gb] wr w/\OwnI w b (f 10) g.O/\OwnI w b (f 14) L/\Apart m (f 10) (f 14)/\(t=10->f 16= .pointer (some ⟨gb,0,none⟩))/\(t=12->f 17= .pointer (some ⟨gb,0,none⟩))/\(t=13->f 18= .pointer (some ⟨gb,1,none⟩))/\
  (t=10->RowV gb 41 (gangC m ad) w)/\(11<=t->t<=13->RowV gb 41 [f 10,ad.vL,ad.vD m,ad.vT m,ad.vF m] w)/\(t=14->RowV gb 41 [f 10,f 14,ad.vD m,ad.vT m,ad.vF m] w)
section
variable {base m: Nat} {g: Gng} {L: List Int} {ad: GAd} {vW vE: Value}
theorem scopied_any(w:World)(hm1:1<=m)(hm:m<=8)(hll:L.length<=1000)(hrl: ∀j,j<m->(g.R j).length<=1000)(h:GngR w base m g L ad):
    Calls Tryz.prog 43 #[.agg #[vW,vE], .agg #[.slice (some ⟨ad.gO,0,none⟩) m ad.cO,ad.vL, .slice (some ⟨ad.gD,0,none⟩) m ad.cD, .slice (some ⟨ad.gT,0,none⟩) m ad.cT, .slice (some ⟨ad.gF,0,none⟩) m ad.cF]] w fun e w'=> ∃gw ad',e= .returned (.pointer (some ⟨gw,0,none⟩))/\IsWk w' w.heap.size gw m g L ad' vW vE/\Below w.heap.size w w':=by
  obtain⟨w1,hw1⟩: ∃w1,w1=(w.alloc (.cells #[vW,vE] 25)).alloc (.cells #[.slice (some ⟨ad.gO,0,none⟩) m ad.cO,ad.vL, .slice (some ⟨ad.gD,0,none⟩) m ad.cD, .slice (some ⟨ad.gT,0,none⟩) m ad.cT, .slice (some ⟨ad.gF,0,none⟩) m ad.cF] 41):=⟨_,rfl⟩;have hb1:Below w.heap.size w w1:=by rw[hw1];exact((Below.refl _ _).alloc (Nat.le_refl _) _).alloc (by simp) _
  have HB1:=Lib.hid hb1;have HD1:Hid (RowV w.heap.size 25 [vW,vE] w1):=Lib.hid (by rw[hw1];exact(RowV.new w _ [vW,vE]).alloc _)
  have HR1:Hid (RowV (w.heap.size+1) 41 (gangC m ad) w1):=Lib.hid (by
    rw[hw1];have:=RowV.new (w.alloc (.cells #[vW,vE] 25)) 41 (gangC m ad)
    simpa[gangC,GAd.vO,GAd.vD,GAd.vT,GAd.vF]using this)
  have HG1:=Lib.hid (h.below hb1);have HGW:=Lib.hid h;have HW1:=Lib.hid hw1;have HM1:=Lib.hid hm1;have HLL:=Lib.hid hll;have HRL:=Lib.hid hrl;obtain⟨AL,cL,hvL,_⟩:=h.left.slice;have HVL:=Lib.hid hvL;clear h hw1 hb1 hm1 hll hvL hrl;go_enter Tryz.func43,Tryz.ntmps43;go_upto_region 1 with fail;rw[<-HW1.out];obtain⟨gb,hgb⟩: ∃gb,gb=w.heap.size+1:=⟨_,rfl⟩;rw[<-hgb]at HR1;have HGB:=Lib.hid hgb;clear hgb;refine wp_region_tailP 10 3 7 [7,8,9,10,11,12,13,14,15,16,1000,17,18,1001] [] (by kernel_rfl) (by kernel_rfl) (by intro d hd;simp at hd⊢;omega) ⟨by decide,by decide,by decide,by decide,by decide⟩ (fun o ho=>by have hoo:=Option.some.inj ho;subst hoo;exact⟨⟨3, .chain⟩,by simp,rfl,by rfl⟩) (Apart m) (fun z=>Below w1.heap.size w1 z) (PhiC1 w1.heap.size gb m g L ad) (fun _ _=>True) (ThtC1 w1.heap.size gb m g L ad w1)
    (fun z z' h hb=>h.trans (hb.mono h.size)) phiC1_below ((Below.refl _ _).drew) ?hstep ?hloose ?hmid ?htail ?hcon ?hend
  case hstep=>
    intro kq o hkm hkF ho a1 w hI hA hd K hK;obtain⟨ρ,hρ⟩: ∃ρ,a1.eval=ρ:=⟨_,rfl⟩;rw[hρ]at hA hd
    match kq,hkm,hkF,ho with
    | 0, _, _, ho =>
      have hoo:=Option.some.inj ho;subst hoo;have hK:=fun v w' h b=>hK v w' h b (fun e=>absurd e (by decide))
      have hp:ρ (.tmp 3)= .pointer (some ⟨gb,0,none⟩):=by rw[HGB.out];exact hA.tmp 3 (by decide)
      exact fx_val hK hρ (.pointer (some ⟨gb,0,none⟩)) (by simp[execOp,hp,go_sem]) rfl
    | 1, _, _, ho =>
      have hoo:=Option.some.inj ho;subst hoo;have f0:ρ (.tmp 7)= .pointer (some ⟨gb,0,none⟩):=hd ⟨0, .data⟩ (by simp) (by rfl) (by decide)
      have hK:=fun v w' h b=>hK v w' h b (fun e=>absurd e (by decide))
      exact fx_val hK hρ (.pointer (some ⟨gb,0,none⟩)) (by simp[execOp,f0,go_sem]) rfl
    | 2, _, _, ho =>
      have hoo:=Option.some.inj ho;subst hoo;have f1:ρ (.tmp 8)= .pointer (some ⟨gb,0,none⟩):=hd ⟨1, .data⟩ (by simp) (by rfl) (by decide)
      have hK:=fun v w' h b=>hK v w' h b (fun e=>absurd e (by decide))
      have h0:w.cell? ⟨gb,0,none⟩=some (.slice (some ⟨ad.gO,0,none⟩) m ad.cO):=(HR1.out.below hI HR1.out.lt).cell rfl
      exact fx_val hK hρ (.slice (some ⟨ad.gO,0,none⟩) m ad.cO) (by simp[execOp,f1,h0,go_sem]) rfl
    | 3, _, _, ho =>
      have hoo:=Option.some.inj ho;subst hoo;have f2:ρ (.tmp 9)= .slice (some ⟨ad.gO,0,none⟩) m ad.cO:=hd ⟨2, .data⟩ (by simp) (by rfl) (by decide)
      have hK:=fun v w' h b=>hK v w' h b (fun e=>absurd e (by decide))
      exact fx_call hK hρ 34 _ _ #[.slice (some ⟨ad.gO,0,none⟩) m ad.cO] rfl (by simp only[List.map_toArray,List.map_cons,List.map_nil,hA.const,f2]) (eg_of Tryz.func34 (by kernel_rfl) rfl) ((clone_own (HG1.out.below hI).on (HG1.out.ol) (by omega)).mono fun e w' hh=>by
        obtain⟨v,he,⟨A2,c2,rfl⟩,ho,hb⟩:=hh;obtain⟨g1,rfl,_,_⟩:=ho.some_ HM1.out;exact⟨_,he,⟨g1,c2,rfl,OwnI.down ho hI.size⟩,hb⟩)
    | 4, _, _, ho =>
      have hoo:=Option.some.inj ho;subst hoo;have hK:=fun v w' h b=>hK v w' h b (fun e=>absurd e (by decide))
      have hp:ρ (.tmp 3)= .pointer (some ⟨gb,0,none⟩):=by rw[HGB.out];exact hA.tmp 3 (by decide)
      exact fx_val hK hρ (.pointer (some ⟨gb,0,none⟩)) (by simp[execOp,hp,go_sem]) rfl
    | 5, _, _, ho =>
      have hoo:=Option.some.inj ho;subst hoo;have f4:ρ (.tmp 11)= .pointer (some ⟨gb,0,none⟩):=hd ⟨4, .data⟩ (by simp) (by rfl) (by decide)
      have hK:=fun v w' h b=>hK v w' h b (fun e=>absurd e (by decide))
      exact fx_val hK hρ (.pointer (some ⟨gb,1,none⟩)) (by simp[execOp,f4,go_sem]) rfl
    | 6, _, _, ho =>
      have hoo:=Option.some.inj ho;subst hoo;have f5:ρ (.tmp 12)= .pointer (some ⟨gb,1,none⟩):=hd ⟨5, .data⟩ (by simp) (by rfl) (by decide)
      have hK:=fun v w' h b=>hK v w' h b (fun e=>absurd e (by decide))
      have h0:w.cell? ⟨gb,1,none⟩=some (ad.vL):=(HR1.out.below hI HR1.out.lt).cell rfl
      exact fx_val hK hρ ad.vL (by simp[execOp,f5,h0,go_sem]) rfl
    | 7, _, _, ho =>
      have hoo:=Option.some.inj ho;subst hoo;have f6:ρ (.tmp 13)=ad.vL:=hd ⟨6, .data⟩ (by simp) (by rfl) (by decide)
      have f3: ∃g1 c1,ρ (.tmp 10)= .slice (some ⟨g1,0,none⟩) m c1/\OwnI w w1.heap.size (ρ (.tmp 10)) g.O:=hd ⟨3, .chain⟩ (by simp) (by rfl) (by decide)
      obtain⟨g1,c1,e1,o1⟩:=f3;have hown:=(HG1.out.below hI).left;rw[HVL.out]at f6 hown;refine fx_call (k:=7) (Φ:=fun _ v w'=>OwnI w' w1.heap.size v L/\v.ownBlock≠some g1) (fun v w' h b=>hK v w' h.1 b (fun _=>⟨g1,c1,by rw[hρ];exact e1,h.2⟩)) hρ 34 _ _ #[.slice AL L.length cL] rfl (by simp only[List.map_toArray,List.map_cons,List.map_nil,hA.const,f6]) (eg_of Tryz.func34 (by kernel_rfl) rfl) ((clone_own hown rfl HLL.out).mono fun e w' hh=>by
        obtain⟨v,he,_,ho,hb⟩:=hh;refine⟨_,he,⟨OwnI.down ho hI.size,fun q=> ?_⟩,hb⟩
        have h1:=(o1.blk (g:=g1) (by rw[e1];rfl)).2
        have h2:=(ho.blk q).1;omega)
    | 8, _, _, ho =>
      have hoo:=Option.some.inj ho;subst hoo;have hK:=fun v w' h b=>hK v w' h b (fun e=>absurd e (by decide))
      have hp:ρ (.tmp 3)= .pointer (some ⟨gb,0,none⟩):=by rw[HGB.out];exact hA.tmp 3 (by decide)
      exact fx_val hK hρ (.pointer (some ⟨gb,0,none⟩)) (by simp[execOp,hp,go_sem]) rfl
    | 9, _, _, ho =>
      have hoo:=Option.some.inj ho;subst hoo;have f8:ρ (.tmp 15)= .pointer (some ⟨gb,0,none⟩):=hd ⟨8, .data⟩ (by simp) (by rfl) (by decide)
      have hK:=fun v w' h b=>hK v w' h b (fun e=>absurd e (by decide))
      exact fx_val hK hρ (.pointer (some ⟨gb,0,none⟩)) (by simp[execOp,f8,go_sem]) rfl
    |kq+10,h,_,_=>exact absurd h (by omega)
  case hloose=>
    intro kq o hkF ho ρ w hA hd;exact absurd hkF (by simp)
  case hmid=>
    intro vals w hI hJ hF;have f9:=hF 9 (by decide) (by decide)
    obtain⟨g1,c1,e3,o3⟩:=hF 3 (by decide) (by decide)
    have f7:=hF 7 (by decide) (by decide)
    exact⟨Nat.le_refl _,by decide,Kp.of_below hI _,o3,f7,hJ,fun _=>f9,fun h=>absurd h (by decide),fun h=>absurd h (by decide),fun _=>HR1.out.below hI HR1.out.lt,fun h=>absurd h (by decide),fun h=>absurd h (by decide)⟩
  case htail=>
    intro t o htm ho a1 w hA hT hL K hK;have htl:t<14:=(Array.getElem?_eq_some_iff.1 ho).1
    obtain⟨ρ,hρ⟩: ∃ρ,a1.eval=ρ:=⟨_,rfl⟩;rw[hρ]at hA
    try rw[hρ]at hL
    obtain rfl|rfl|rfl|rfl:t=10\/t=11\/t=12\/t=13:=by omega
    · have hoo:=Option.some.inj ho;subst hoo;obtain⟨t1,t2,hkp,o1,o2,ap,e16,e17,e18,r10,r11,r14⟩:=hT;simp only[hρ]at o1 o2 ap e16 e17 e18 r11 r14;obtain⟨A1,c1,e10,_⟩:=o1.slice;obtain⟨A2,c2,e14,_⟩:=o2.slice;have hgb1:gb<w1.heap.size:=HR1.out.lt;have q1:(ρ (.tmp 10)).ownBlock≠some gb:=fun q=>by have:=(o1.blk q).1;omega
      have q2:(ρ (.tmp 14)).ownBlock≠some gb:=fun q=>by have:=(o2.blk q).1;omega
      have hr:=r10 (by first|rfl|trivial|decide)
      have hp:=e16 (by first|rfl|trivial|decide)
      have y0:=hr.cell (j:=0) rfl;have z0:=hr.frozen 0;unfold Oper.wp;rw[show(execOp a1.eval _).run Tryz.prog w= .ok .skip (w.setCell ⟨gb,0,none⟩ (ρ (.tmp 10)))from by rw[hρ];simp[execOp,hp,y0,z0,e10,go_sem],Oper.upon_skip]
      refine hK undef _ ⟨by decide,by decide,hkp.set _ (by simp),?_⟩
      simp only[Option.some.injEq,Nat.reduceEqDiff,if_false,if_true,reduceCtorEq,hρ];exact⟨(rowN_far o1 q1),(rowN_far o2 q2),ap,fun h=>absurd h (by decide),fun h=>absurd h (by decide),fun h=>absurd h (by decide),fun h=>absurd h (by decide),fun _ _=>hr.set 0 _,fun h=>absurd h (by decide)⟩
    · have hoo:=Option.some.inj ho;subst hoo;obtain⟨t1,t2,hkp,o1,o2,ap,e16,e17,e18,r10,r11,r14⟩:=hT;simp only[hρ]at o1 o2 ap e16 e17 e18 r11 r14;have hp:ρ (.tmp 3)= .pointer (some ⟨gb,0,none⟩):=by rw[HGB.out];exact hA.tmp 3 (by decide)
      unfold Oper.wp;rw[show(execOp a1.eval _).run Tryz.prog w= .ok (.value (.pointer (some ⟨gb,0,none⟩))) (w)from by rw[hρ];simp[execOp,hp,go_sem],Oper.upon_value]
      refine hK _ _ ⟨by decide,by decide,hkp,?_⟩
      simp only[Option.some.injEq,Nat.reduceEqDiff,if_false,if_true,reduceCtorEq,hρ];exact⟨o1,o2,ap,fun h=>absurd h (by decide),fun _=>rfl,fun h=>absurd h (by decide),fun h=>absurd h (by decide),fun _ _=>r11 (by decide) (by decide),fun h=>absurd h (by decide)⟩
    · have hoo:=Option.some.inj ho;subst hoo;obtain⟨t1,t2,hkp,o1,o2,ap,e16,e17,e18,r10,r11,r14⟩:=hT;simp only[hρ]at o1 o2 ap e16 e17 e18 r11 r14;have hp:=e17 (by first|rfl|trivial|decide)
      unfold Oper.wp;rw[show(execOp a1.eval _).run Tryz.prog w= .ok (.value (.pointer (some ⟨gb,1,none⟩))) (w)from by rw[hρ];simp[execOp,hp,go_sem],Oper.upon_value]
      refine hK _ _ ⟨by decide,by decide,hkp,?_⟩
      simp only[Option.some.injEq,Nat.reduceEqDiff,if_false,if_true,reduceCtorEq,hρ];exact⟨o1,o2,ap,fun h=>absurd h (by decide),fun h=>absurd h (by decide),fun _=>rfl,fun h=>absurd h (by decide),fun _ _=>r11 (by decide) (by decide),fun h=>absurd h (by decide)⟩
    · have hoo:=Option.some.inj ho;subst hoo;obtain⟨t1,t2,hkp,o1,o2,ap,e16,e17,e18,r10,r11,r14⟩:=hT;simp only[hρ]at o1 o2 ap e16 e17 e18 r11 r14;obtain⟨A1,c1,e10,_⟩:=o1.slice;obtain⟨A2,c2,e14,_⟩:=o2.slice;have hgb1:gb<w1.heap.size:=HR1.out.lt;have q1:(ρ (.tmp 10)).ownBlock≠some gb:=fun q=>by have:=(o1.blk q).1;omega
      have q2:(ρ (.tmp 14)).ownBlock≠some gb:=fun q=>by have:=(o2.blk q).1;omega
      have hr:=r11 (by decide) (by decide)
      have hp:=e18 (by first|rfl|trivial|decide)
      have y0:=hr.cell (j:=1) rfl;have z0:=hr.frozen 1;unfold Oper.wp;rw[show(execOp a1.eval _).run Tryz.prog w= .ok .skip (w.setCell ⟨gb,1,none⟩ (ρ (.tmp 14)))from by rw[hρ];simp[execOp,hp,y0,z0,e14,go_sem],Oper.upon_skip]
      refine hK undef _ ⟨by decide,by decide,hkp.set _ (by simp),?_⟩
      simp only[Option.some.injEq,Nat.reduceEqDiff,if_false,if_true,reduceCtorEq,hρ];exact⟨(rowN_far o1 q1),(rowN_far o2 q2),ap,fun h=>absurd h (by decide),fun h=>absurd h (by decide),fun h=>absurd h (by decide),fun h=>absurd h (by decide),fun _ h=>absurd h (by decide),fun _=>hr.set 1 _⟩
  case hcon=>
    intro t f g w h hT;obtain⟨t1,t2,hkp,o1,o2,ap,e16,e17,e18,r10,r11,r14⟩:=hT;have q10:=h 3 (by omega) (by simp)
    have q14:=h 7 (by omega) (by simp)
    have q16:=h 9 (by omega) (by simp)
    simp only[List.getD_cons_zero,List.getD_cons_succ]at q10 q14 q16;refine⟨t1,t2,hkp,q10▸o1,q14▸o2,q10▸q14▸ap,fun e=>q16▸e16 e,fun e=> ?_,fun e=> ?_,r10,fun e e'=>q10▸r11 e e',fun e=>q10▸q14▸r14 e⟩
    · have q17:=h 11 (by omega) (by simp)
      simp only[List.getD_cons_zero,List.getD_cons_succ]at q17;exact q17▸e17 e
    · have q18:=h 12 (by omega) (by simp)
      simp only[List.getD_cons_zero,List.getD_cons_succ]at q18;exact q18▸e18 e
  case hend=>
    intro vals w3 hT;obtain⟨t1,t2,hkp,o1,o2,ap,e16,e17,e18,r10,r11,r14⟩:=hT;have hr:=r14 rfl;simp only[fillA,fillL,List.contains_cons,List.contains_nil,Nat.reduceBEq,Bool.or_false,Bool.false_or,Bool.or_true,Bool.true_or,cond_true,cond_false,Nat.zero_add,Nat.reduceAdd];obtain⟨vO,hvO⟩: ∃v,v=vals 10:=⟨_,rfl⟩;obtain⟨vL,hvL⟩: ∃v,v=vals 14:=⟨_,rfl⟩;rw[<-hvO,<-hvL]at hr ap;rw[<-hvO]at o1;rw[<-hvL]at o2;have HR3:=Lib.hid hr;have HOO:=Lib.hid o1;have HOL:=Lib.hid o2;have HAP:=Lib.hid ap;have HB3:Hid (Below w.heap.size w w3):=Lib.hid (HB1.out.trans (hkp.below (by simp;have:=HGB.out;omega) HB1.out.size))
    have HG3:=Lib.hid (HGW.out.below HB3.out);have HD3:=Lib.hid (hkp.row HD1.out (by simp;have:=HGB.out;omega))
    have HSZ3:=Lib.hid hkp.size;clear hkp o1 o2 ap e16 e17 e18 r10 r11 r14 hr t1 t2 hvO hvL;go_upto_region 2 with fail;refine wp_region_tail 7 [19,20,21,22,23,24,25,1000,26,1001] [] (by kernel_rfl) (by kernel_rfl) (by intro d hd;simp at hd⊢;omega) (fun z=>Below w3.heap.size w3 z) (PhiC2 w3.heap.size gb m g ad) (fun _ _=>True) (ThtC2 w3.heap.size gb m g ad vO vL w3)
      (fun z z' h hb=>h.trans (hb.mono h.size)) phiC2_below ((Below.refl _ _).drew) ?hstep ?hloose ?hmid ?htail ?hcon ?hend
    case hstep=>
      intro kq o hkm hkF ho a1 w hI hA hd K hK;obtain⟨ρ,hρ⟩: ∃ρ,a1.eval=ρ:=⟨_,rfl⟩;rw[hρ]at hA hd
      match kq,hkm,hkF,ho with
      | 0, _, _, ho =>
        have hoo:=Option.some.inj ho;subst hoo;have hp:ρ (.tmp 3)= .pointer (some ⟨gb,0,none⟩):=by rw[HGB.out];exact hA.tmp 3 (by decide)
        exact fx_val hK hρ (.pointer (some ⟨gb,3,none⟩)) (by simp[execOp,hp,go_sem]) rfl
      | 1, _, _, ho =>
        have hoo:=Option.some.inj ho;subst hoo;have f0:ρ (.tmp 19)= .pointer (some ⟨gb,3,none⟩):=hd ⟨0, .data⟩ (by simp) (by rfl) (by decide)
        have h0:w.cell? ⟨gb,3,none⟩=some (.slice (some ⟨ad.gT,0,none⟩) m ad.cT):=(HR3.out.below hI HR3.out.lt).cell rfl
        exact fx_val hK hρ (.slice (some ⟨ad.gT,0,none⟩) m ad.cT) (by simp[execOp,f0,h0,go_sem]) rfl
      | 2, _, _, ho =>
        have hoo:=Option.some.inj ho;subst hoo;have f1:ρ (.tmp 20)= .slice (some ⟨ad.gT,0,none⟩) m ad.cT:=hd ⟨1, .data⟩ (by simp) (by rfl) (by decide)
        exact fx_call hK hρ 81 _ _ #[.slice (some ⟨ad.gT,0,none⟩) m ad.cT] rfl (by simp only[List.map_toArray,List.map_cons,List.map_nil,hA.const,f1]) (eg_of Tryz.func81 (by kernel_rfl) rfl) ((clone_tk w (HG3.out.below hI).tks HM1.out (by omega) (tk_one g m)).mono fun e w' hh=>by
          obtain⟨g1,c1,he,ho,hb⟩:=hh;exact⟨_,he,⟨g1,c1,rfl,own_less ho hI.size⟩,hb⟩)
      | 3, _, _, ho =>
        have hoo:=Option.some.inj ho;subst hoo;have hp:ρ (.tmp 3)= .pointer (some ⟨gb,0,none⟩):=by rw[HGB.out];exact hA.tmp 3 (by decide)
        exact fx_val hK hρ (.pointer (some ⟨gb,4,none⟩)) (by simp[execOp,hp,go_sem]) rfl
      | 4, _, _, ho =>
        have hoo:=Option.some.inj ho;subst hoo;have f3:ρ (.tmp 22)= .pointer (some ⟨gb,4,none⟩):=hd ⟨3, .data⟩ (by simp) (by rfl) (by decide)
        have h0:w.cell? ⟨gb,4,none⟩=some (.slice (some ⟨ad.gF,0,none⟩) m ad.cF):=(HR3.out.below hI HR3.out.lt).cell rfl
        exact fx_val hK hρ (.slice (some ⟨ad.gF,0,none⟩) m ad.cF) (by simp[execOp,f3,h0,go_sem]) rfl
      | 5, _, _, ho =>
        have hoo:=Option.some.inj ho;subst hoo;have f4:ρ (.tmp 23)= .slice (some ⟨ad.gF,0,none⟩) m ad.cF:=hd ⟨4, .data⟩ (by simp) (by rfl) (by decide)
        exact fx_call hK hρ 34 _ _ #[.slice (some ⟨ad.gF,0,none⟩) m ad.cF] rfl (by simp only[List.map_toArray,List.map_cons,List.map_nil,hA.const,f4]) (eg_of Tryz.func34 (by kernel_rfl) rfl) ((clone_own (HG3.out.below hI).frm (frL_len m g) (by omega)).mono fun e w' hh=>by
          obtain⟨v,he,⟨A2,c2,rfl⟩,ho,hb⟩:=hh;obtain⟨g1,rfl,_,_⟩:=ho.some_ HM1.out;exact⟨_,he,⟨g1,c2,rfl,OwnI.down ho hI.size⟩,hb⟩)
      | 6, _, _, ho =>
        have hoo:=Option.some.inj ho;subst hoo;have hp:ρ (.tmp 3)= .pointer (some ⟨gb,0,none⟩):=by rw[HGB.out];exact hA.tmp 3 (by decide)
        exact fx_val hK hρ (.pointer (some ⟨gb,3,none⟩)) (by simp[execOp,hp,go_sem]) rfl
      |kq+7,h,_,_=>exact absurd h (by omega)
    case hloose=>
      intro kq o hkF ho ρ w hA hd;exact absurd hkF (by simp)
    case hmid=>
      intro vals w hI hF;obtain⟨g1,c1,e2,o2⟩:=hF 2 (by decide) (by decide)
      obtain⟨g2,c2,e5,o5⟩:=hF 5 (by decide) (by decide)
      have f6:=hF 6 (by decide) (by decide)
      exact⟨Nat.le_refl _,by decide,Kp.of_below hI _,⟨g1,c1,e2⟩,⟨g2,c2,e5⟩,o2,o5,fun _=>f6,fun h=>absurd h (by decide),fun _=>HR3.out.below hI HR3.out.lt,fun h=>absurd h (by decide),fun h=>absurd h (by decide)⟩
    case htail=>
      intro t o htm ho a1 w hA hT hL K hK;have htl:t<10:=(Array.getElem?_eq_some_iff.1 ho).1
      obtain⟨ρ,hρ⟩: ∃ρ,a1.eval=ρ:=⟨_,rfl⟩;rw[hρ]at hA
      try rw[hρ]at hL
      obtain rfl|rfl|rfl:t=7\/t=8\/t=9:=by omega
      · have hoo:=Option.some.inj ho;subst hoo;obtain⟨t1,t2,hkp,x21,x24,o1,o2,e25,e26,r7,r8,r10⟩:=hT;simp only[hρ]at x21 x24 o1 o2 e25 e26 r8 r10;obtain⟨g1,c1,e21⟩:=x21;obtain⟨g2,c2,e24⟩:=x24;have hgb1:gb<w3.heap.size:=HR3.out.lt;have q1:(ρ (.tmp 21)).ownBlock≠some gb:=fun q=>by
          rw[e21]at q o1;injection q with q;replace q:g1=gb:=q;have:=(rowN_blk o1).1;omega
        have q2:(ρ (.tmp 24)).ownBlock≠some gb:=fun q=>by have:=(o2.blk q).1;omega
        have hr:=r7 (by first|rfl|trivial|decide)
        have hp:=e25 (by first|rfl|trivial|decide)
        have y0:=hr.cell (j:=3) rfl;have z0:=hr.frozen 3;unfold Oper.wp;rw[show(execOp a1.eval _).run Tryz.prog w= .ok .skip (w.setCell ⟨gb,3,none⟩ (ρ (.tmp 21)))from by rw[hρ];simp[execOp,hp,y0,z0,e21,go_sem],Oper.upon_skip]
        refine hK undef _ ⟨by decide,by decide,hkp.set _ (by simp),?_⟩
        simp only[Option.some.injEq,Nat.reduceEqDiff,if_false,if_true,reduceCtorEq,hρ];exact⟨⟨g1,c1,e21⟩,⟨g2,c2,e24⟩,rowN_far o1 q1,rowN_far o2 q2,fun h=>absurd h (by decide),fun h=>absurd h (by decide),fun h=>absurd h (by decide),fun _ _=>hr.set 3 _,fun h=>absurd h (by decide)⟩
      · have hoo:=Option.some.inj ho;subst hoo;obtain⟨t1,t2,hkp,x21,x24,o1,o2,e25,e26,r7,r8,r10⟩:=hT;simp only[hρ]at x21 x24 o1 o2 e25 e26 r8 r10;have hp:ρ (.tmp 3)= .pointer (some ⟨gb,0,none⟩):=by rw[HGB.out];exact hA.tmp 3 (by decide)
        unfold Oper.wp;rw[show(execOp a1.eval _).run Tryz.prog w= .ok (.value (.pointer (some ⟨gb,4,none⟩))) (w)from by rw[hρ];simp[execOp,hp,go_sem],Oper.upon_value]
        refine hK _ _ ⟨by decide,by decide,hkp,?_⟩
        simp only[Option.some.injEq,Nat.reduceEqDiff,if_false,if_true,reduceCtorEq,hρ];exact⟨x21,x24,o1,o2,fun h=>absurd h (by decide),fun _=>rfl,fun h=>absurd h (by decide),fun _ _=>r8 (by decide) (by decide),fun h=>absurd h (by decide)⟩
      · have hoo:=Option.some.inj ho;subst hoo;obtain⟨t1,t2,hkp,x21,x24,o1,o2,e25,e26,r7,r8,r10⟩:=hT;simp only[hρ]at x21 x24 o1 o2 e25 e26 r8 r10;obtain⟨g1,c1,e21⟩:=x21;obtain⟨g2,c2,e24⟩:=x24;have hgb1:gb<w3.heap.size:=HR3.out.lt;have q1:(ρ (.tmp 21)).ownBlock≠some gb:=fun q=>by
          rw[e21]at q o1;injection q with q;replace q:g1=gb:=q;have:=(rowN_blk o1).1;omega
        have q2:(ρ (.tmp 24)).ownBlock≠some gb:=fun q=>by have:=(o2.blk q).1;omega
        have hr:=r8 (by decide) (by decide)
        have hp:=e26 (by first|rfl|trivial|decide)
        have y0:=hr.cell (j:=4) rfl;have z0:=hr.frozen 4;unfold Oper.wp;rw[show(execOp a1.eval _).run Tryz.prog w= .ok .skip (w.setCell ⟨gb,4,none⟩ (ρ (.tmp 24)))from by rw[hρ];simp[execOp,hp,y0,z0,e24,go_sem],Oper.upon_skip]
        refine hK undef _ ⟨by decide,by decide,hkp.set _ (by simp),?_⟩
        simp only[Option.some.injEq,Nat.reduceEqDiff,if_false,if_true,reduceCtorEq,hρ];exact⟨⟨g1,c1,e21⟩,⟨g2,c2,e24⟩,rowN_far o1 q1,rowN_far o2 q2,fun h=>absurd h (by decide),fun h=>absurd h (by decide),fun h=>absurd h (by decide),fun _ h=>absurd h (by decide),fun _=>hr.set 4 _⟩
    case hcon=>
      intro t f g w h hT;obtain⟨t1,t2,hkp,x21,x24,o1,o2,e25,e26,r7,r8,r10⟩:=hT;have q21:=h 2 (by omega) (by simp)
      have q24:=h 5 (by omega) (by simp)
      have q25:=h 6 (by omega) (by simp)
      simp only[List.getD_cons_zero,List.getD_cons_succ]at q21 q24 q25;refine⟨t1,t2,hkp,q21▸x21,q24▸x24,q21▸o1,q24▸o2,fun e=>q25▸e25 e,fun e=> ?_,r7,fun e e'=>q21▸r8 e e',fun e=>q21▸q24▸r10 e⟩
      have q26:=h 8 (by omega) (by simp)
      simp only[List.getD_cons_zero,List.getD_cons_succ]at q26;exact q26▸e26 e
    case hend=>
      intro vals2 w4 hT;obtain⟨t1,t2,hkp,x21,x24,o1,o2,e25,e26,r7,r8,r10⟩:=hT;have hr:=r10 rfl;simp only[fillA,fillL,List.contains_cons,List.contains_nil,Nat.reduceBEq,Bool.or_false,Bool.false_or,Bool.or_true,Bool.true_or,cond_true,cond_false,Nat.zero_add,Nat.reduceAdd];obtain⟨g1,c1,e21⟩:=x21;obtain⟨g2,c2,e24⟩:=x24;rw[e21]at hr o1⊢;rw[e24]at hr o2⊢;have HR4:=Lib.hid hr;have HOT:=Lib.hid o1;have HOF:=Lib.hid o2;have HB4:Hid (Below w.heap.size w3 w4):=Lib.hid (hkp.below (by simp;have:=HGB.out;omega) (by have:=HB3.out.size;omega))
      have HG4:=Lib.hid (HGW.out.below (HB3.out.trans HB4.out));have HD4:=Lib.hid (hkp.row HD3.out (by simp;have:=HGB.out;omega))
      have HSZ4:=Lib.hid hkp.size;have HGB3:Hid (gb<w1.heap.size):=Lib.hid HR1.out.lt;have HOO4:Hid (OwnI w4 w1.heap.size vO g.O):=Lib.hid (hkp.own HOO.out (fun b hb q=>by simp at q;subst q;have:=(HOO.out.blk hb).1;have:=HR1.out.lt;omega))
      have HOL4:Hid (OwnI w4 w1.heap.size vL L):=Lib.hid (hkp.own HOL.out (fun b hb q=>by simp at q;subst q;have:=(HOL.out.blk hb).1;have:=HR1.out.lt;omega))
      have HGO:Hid (∀q,vO.ownBlock=some q->q<w3.heap.size):=Lib.hid fun q hq=>(HOO.out.blk hq).2
      have HGL:Hid (∀q,vL.ownBlock=some q->q<w3.heap.size):=Lib.hid fun q hq=>(HOL.out.blk hq).2
      have HGT:Hid (g1<w4.heap.size):=Lib.hid (rowN_blk HOT.out).2;have HGF:Hid (w3.heap.size<=g2/\g2<w4.heap.size):=Lib.hid (HOF.out.blk rfl);have hgb:=HGB.out;subst hgb;clear hkp o1 o2 e25 e26 r7 r8 r10 hr t1 t2 e21 e24 HR3 HOO HOL HR1;have CD:=Lib.hid (clone_dq w4 HG4.out.dqs HM1.out (by omega) (dq_one HG4.out))
      go_upto_region 3 with fail
      have p2:w4.cell? ⟨w.heap.size+1,2,none⟩=some (.slice (some ⟨ad.gD,0,none⟩) m ad.cD):=HR4.out.cell rfl
      go_upto_region 4 with(refine CD.out.mono ?_;rintro e w5 ⟨g3,c3,rfl,ho,hb⟩;(have HOD5:=Lib.hid ho);(have HB5:=Lib.hid hb);clear ho hb p2 CD;(have y0:w5.cell? ⟨w.heap.size+1,2,none⟩=some (.slice (some ⟨ad.gD,0,none⟩) m ad.cD):=(HR4.out.below HB5.out HR4.out.lt).cell rfl);(have z0:=(HR4.out.below HB5.out HR4.out.lt).frozen 2))
      obtain⟨w6,hw6⟩: ∃w6,w6=w5.setCell ⟨w.heap.size+1,2,none⟩ (.slice (some ⟨g3,0,none⟩) m c3):=⟨_,rfl⟩;have hkp:Kp [w.heap.size+1] w4 w6:=by rw[hw6];exact(Kp.of_below HB5.out _).set _ (by simp)
      have hgs:w.heap.size+1<w4.heap.size:=HR4.out.lt;have HR6:Hid (RowV (w.heap.size+1) 41 [vO,vL, .slice (some ⟨g3,0,none⟩) m c3, .slice (some ⟨g1,0,none⟩) m c1, .slice (some ⟨g2,0,none⟩) m c2] w6):=Lib.hid (by rw[hw6];exact(HR4.out.below HB5.out HR4.out.lt).set 2 _)
      have HOD6:Hid (w6.ownsRow w4.heap.size 81 3 (.slice (some ⟨g3,0,none⟩) m c3) m (flatN (dqC g ad) m)):=Lib.hid (by
        rw[hw6];refine rowN_far HOD5.out (fun q=> ?_)
        injection q with q;replace q:g3=w.heap.size+1:=q;have:=(rowN_blk HOD5.out).1;omega)
      have HOO6:Hid (OwnI w6 w1.heap.size vO g.O):=Lib.hid (hkp.own HOO4.out (fun b hb q=>by simp at q;subst q;have:=(HOO4.out.blk hb).1;have:=HGB3.out;omega))
      have HOL6:Hid (OwnI w6 w1.heap.size vL L):=Lib.hid (hkp.own HOL4.out (fun b hb q=>by simp at q;subst q;have:=(HOL4.out.blk hb).1;have:=HGB3.out;omega))
      have HOT6:=Lib.hid (hkp.own HOT.out (fun b hb q=>by simp at q;injection hb with hb;replace hb:g1=b:=hb;have:=(rowN_blk HOT.out).1;have:=HGB3.out;have:=HSZ3.out;omega))
      have HOF6:Hid (OwnI w6 w3.heap.size (.slice (some ⟨g2,0,none⟩) m c2) (frL m g)):=Lib.hid (hkp.own HOF.out (fun b hb q=>by simp at q;injection hb with hb;replace hb:g2=b:=hb;have:=HGF.out;have:=HGB3.out;have:=HSZ3.out;omega))
      have HB6:Hid (Below w.heap.size w w6):=Lib.hid ((HB3.out.trans HB4.out).trans (hkp.below (by simp) (by omega)))
      have HG6:=Lib.hid (HGW.out.below HB6.out);have HD6:=Lib.hid (hkp.row HD4.out (by simp))
      have HSZ6:=Lib.hid hkp.size;have HG3:Hid (w4.heap.size<=g3/\g3<w6.heap.size):=Lib.hid (rowN_blk HOD6.out);rw[<-hw6];clear hw6 hkp hgs y0 z0 HOD5 HB5 HOO4 HOL4 HOT HOF HG4 HD4 HR4 HB4;have r2:w6.cell? ⟨w.heap.size+1,2,none⟩=some (.slice (some ⟨g3,0,none⟩) m c3):=HR6.out.cell rfl
      go_wp2_with fail;clear r2
      go_loopw [34] (fun v wr=> ∃(k:Nat) (Rv:Nat->Value),k<=m/\v= .int .i64 k/\Hid (CpLoop w6 wr w4.heap.size m g ad g3 c3 k Rv)) (fun v _=>m - (intOf v).toNat)
      case atStart=>exact⟨0,ad.Rv,Nat.zero_le _,rfl,Lib.hid ⟨Kp.of_below (Below.refl _ _) _,HOD6.out,fun j hj=>absurd hj (Nat.not_lt_zero _),fun j _=>rfl⟩⟩
      case round=>
        obtain⟨k,Rv,hk,rfl,HL⟩:=hrel
        by_cases hlt:k<m
        · have HLT:=Lib.hid hlt;obtain⟨A,c,hv,_⟩:=(HG6.out.ring k hlt).slice;have hsame:=HL.out.rest k (Nat.le_refl _);have d0:=HL.out.cell hlt (i:=0) rfl;have d1:=HL.out.cell hlt (i:=1) rfl;have d2:=HL.out.cell hlt (i:=2) rfl;simp only[Nat.add_zero]at d0;rw[hsame,hv]at d0;have e3:k * 3=3 * k:=Nat.mul_comm _ _;have HV:=Lib.hid hv;have hn: ¬((m:Int)<=(k:Int)):=by omega
          clear hv hsame;go_upto_region 7 with fail;obtain⟨w7,hw7⟩: ∃w7,w7=wr.alloc (.cells #[.slice A (g.R k).length c, .int .i64 (g.T k), .int .i64 (g.B k)] 81):=⟨_,rfl⟩;have HX7:Hid (RowV wr.heap.size 81 [.slice A (g.R k).length c, .int .i64 (g.T k), .int .i64 (g.B k)] w7):=Lib.hid (by rw[hw7];exact RowV.new wr _ [.slice A (g.R k).length c, .int .i64 (g.T k), .int .i64 (g.B k)])
          have HL7:Hid (CpLoop w6 w7 w4.heap.size m g ad g3 c3 k Rv):=Lib.hid (by rw[hw7];exact HL.out.below (below_alloc _))
          rw[<-hw7];have hR7:RowV (w.heap.size+1) 41 [vO,vL, .slice (some ⟨g3,0,none⟩) m c3, .slice (some ⟨g1,0,none⟩) m c1, .slice (some ⟨g2,0,none⟩) m c2] w7:=HL7.out.kp.row HR6.out (by simp;have:=HG3.out;have:=HGB3.out;have:=HSZ3.out;have:=HSZ4.out;omega)
          have HR7:=Lib.hid hR7;have hG7:GngR w7 base m g L ad:=HGW.out.below (HB6.out.trans (HL7.out.kp.below (by simp;have:=HG3.out;have:=HB6.out.size;have:=HGB3.out;have:=HSZ3.out;have:=HSZ4.out;omega) HB6.out.size))
          have HOR:Hid (OwnI w7 base (.slice A (g.R k).length c) (g.R k)):=Lib.hid (by have:=hG7.ring k hlt;rw[HV.out]at this;exact this)
          have HW76:Hid (w6.heap.size<=w7.heap.size):=Lib.hid HL7.out.kp.size;obtain⟨x,hx⟩: ∃x,x=wr.heap.size:=⟨_,rfl⟩;rw[<-hx]at HX7⊢;obtain⟨nR,hnR⟩: ∃nR,nR=(g.R k).length:=⟨_,rfl⟩;rw[<-hnR]at HX7 HOR;have HNR:Hid (nR=(g.R k).length):=Lib.hid hnR;clear hw7 hx d0 d1 d2 hR7 hG7 hnR;obtain⟨gq,hgq⟩: ∃gq,gq=w.heap.size+1:=⟨_,rfl⟩;rw[<-hgq]at HR7;have HGQ:=Lib.hid hgq;clear hgq;refine wp_region_tail 8 [39,40,41,42,43,44,45,46,1000] [] (by kernel_rfl) (by kernel_rfl) (by intro d hd;simp at hd⊢;omega) (fun z=>Below w7.heap.size w7 z) (PhiC3 w7.heap.size (gq) m g3 c3 k x A nR c g) (fun _ _=>True) (ThtC3 w7.heap.size m g3 c3 k g ad w6 w7 w4.heap.size Rv)
            (fun z z' h hb=>h.trans (hb.mono h.size)) phiC3_below ((Below.refl _ _).drew) ?hstep ?hloose ?hmid ?htail ?hcon ?hend
          case hstep=>
            intro kq o hkm hkF ho a1 w hI hA hd K hK;obtain⟨ρ,hρ⟩: ∃ρ,a1.eval=ρ:=⟨_,rfl⟩;rw[hρ]at hA hd
            match kq,hkm,hkF,ho with
            | 0, _, _, ho =>
              have hoo:=Option.some.inj ho;subst hoo;have hp:ρ (.tmp 3)= .pointer (some ⟨gq,0,none⟩):=by rw[HGQ.out];exact hA.tmp 3 (by decide)
              exact fx_val hK hρ (.pointer (some ⟨gq,2,none⟩)) (by simp[execOp,hp,go_sem]) rfl
            | 1, _, _, ho =>
              have hoo:=Option.some.inj ho;subst hoo;have f0:ρ (.tmp 39)= .pointer (some ⟨gq,2,none⟩):=hd ⟨0, .data⟩ (by simp) (by rfl) (by decide)
              have h0:w.cell? ⟨gq,2,none⟩=some (.slice (some ⟨g3,0,none⟩) m c3):=(HR7.out.below hI HR7.out.lt).cell rfl
              exact fx_val hK hρ (.slice (some ⟨g3,0,none⟩) m c3) (by simp[execOp,f0,h0,go_sem]) rfl
            | 2, _, _, ho =>
              have hoo:=Option.some.inj ho;subst hoo;exact fx_val hK hρ (.int .i64 k) (by have h:=hA.tmp 5 (by decide);simp[execOp,h,go_sem]) rfl
            | 3, _, _, ho =>
              have hoo:=Option.some.inj ho;subst hoo;exact fx_val hK hρ (.pointer (some ⟨x,0,none⟩)) (by have h:=hA.tmp 6 (by decide);simp[execOp,h,go_sem]) rfl
            | 4, _, _, ho =>
              have hoo:=Option.some.inj ho;subst hoo;have f3:ρ (.tmp 42)= .pointer (some ⟨x,0,none⟩):=hd ⟨3, .data⟩ (by simp) (by rfl) (by decide)
              have h0:=(HX7.out.below hI HX7.out.lt).cell (j:=0) rfl;exact fx_val hK hρ (.slice A nR c) (by simp[execOp,f3,h0,go_sem]) rfl
            | 5, _, _, ho =>
              have hoo:=Option.some.inj ho;subst hoo;have f4:ρ (.tmp 43)= .slice A nR c:=hd ⟨4, .data⟩ (by simp) (by rfl) (by decide)
              exact fx_call hK hρ 34 _ _ #[.slice A nR c] rfl (by simp only[List.map_toArray,List.map_cons,List.map_nil,hA.const,f4]) (eg_of Tryz.func34 (by kernel_rfl) rfl) ((clone_own (OwnI.below HOR.out hI) HNR.out.symm (by rw[HNR.out];exact HRL.out k HLT.out)).mono fun e w' hh=>by
                obtain⟨v,he,_,ho,hb⟩:=hh;exact⟨_,he,OwnI.down ho hI.size,hb⟩)
            | 6, _, _, ho =>
              have hoo:=Option.some.inj ho;subst hoo;have f1:ρ (.tmp 40)= .slice (some ⟨g3,0,none⟩) m c3:=hd ⟨1, .data⟩ (by simp) (by rfl) (by decide)
              have f2:ρ (.tmp 41)= .int .i64 k:=hd ⟨2, .data⟩ (by simp) (by rfl) (by decide)
              have hkm:k<m:=HLT.out;exact fx_val hK hρ (.pointer (some ⟨g3,3 * k,none⟩)) (by simp[execOp,f1,f2,hn,hkm,e3,go_sem]) rfl
            | 7, _, _, ho =>
              have hoo:=Option.some.inj ho;subst hoo;have f6:ρ (.tmp 45)= .pointer (some ⟨g3,3 * k,none⟩):=hd ⟨6, .data⟩ (by simp) (by rfl) (by decide)
              exact fx_val hK hρ (.pointer (some ⟨g3,3 * k,none⟩)) (by simp[execOp,f6,go_sem]) rfl
            |kq+8,h,_,_=>exact absurd h (by omega)
          case hloose=>
            intro kq o hkF ho ρ w hA hd;exact absurd hkF (by simp)
          case hmid=>
            intro vals w hI hF;have f5:=hF 5 (by decide) (by decide)
            have f7:=hF 7 (by decide) (by decide)
            exact⟨Nat.le_refl _,by decide,fun _=>⟨f7,f5,hI⟩,fun h=>absurd h (by decide)⟩
          case htail=>
            intro t o htm ho a1 w hA hT hL K hK;have htl:t<9:=(Array.getElem?_eq_some_iff.1 ho).1
            obtain⟨ρ,hρ⟩: ∃ρ,a1.eval=ρ:=⟨_,rfl⟩;rw[hρ]at hA
            try rw[hρ]at hL
            obtain rfl:t=8:=by omega
            have hoo:=Option.some.inj ho;subst hoo;obtain⟨t1,t2,h8,_⟩:=hT;obtain⟨e46,o1,hbl⟩:=h8 (by first|rfl|trivial|decide)
            simp only[hρ]at e46 o1;have HLw:=HL7.out.below hbl;have y0:=HLw.cell HLT.out (i:=0) rfl;have z0:=rowN_frozen HLw.dqs (3 * k);simp only[Nat.add_zero]at y0;obtain⟨A2,c2',e44,_⟩:=o1.slice;unfold Oper.wp;rw[show(execOp a1.eval _).run Tryz.prog w= .ok .skip (w.setCell ⟨g3,3 * k,none⟩ (ρ (.tmp 44)))from by rw[hρ];simp[execOp,e46,y0,z0,e44,go_sem],Oper.upon_skip]
            refine hK undef _ ⟨by decide,by decide,fun h=>absurd h (by decide),fun _=> ?_⟩
            simp only[reduceCtorEq,if_false,hρ];exact HLw.put HLT.out HG3.out.2 o1 HW76.out
          case hcon=>
            intro t f g w h hT;obtain⟨t1,t2,h8,h9⟩:=hT;have q44:=h 5 (by omega) (by simp)
            have q46:=h 7 (by omega) (by simp)
            simp only[List.getD_cons_zero,List.getD_cons_succ]at q44 q46;exact⟨t1,t2,fun e=>⟨q46▸(h8 e).1,q44▸(h8 e).2.1,(h8 e).2.2⟩,fun e=>q44▸h9 e⟩
          case hend=>
            intro vals3 w9 hT;obtain⟨t1,t2,_,h9⟩:=hT;have HL9:=Lib.hid (h9 rfl);simp only[fillA,fillL,List.contains_cons,List.contains_nil,Nat.reduceBEq,Bool.or_false,Bool.false_or,Bool.or_true,Bool.true_or,cond_true,cond_false,Nat.zero_add,Nat.reduceAdd];clear h9 t1 t2;go_wp2_with fail;go_roundw
            case rel=>exact⟨k+1,_,by have:=HLT.out;omega,by go_num,HL9⟩
            case measure=>simp[intOf];have:=HLT.out;omega
        · obtain rfl:m=k:=by omega
          have hkp:=HL.out.kp;have hs34:w.heap.size+1<w1.heap.size/\w1.heap.size<=w3.heap.size/\w3.heap.size<=w4.heap.size/\w4.heap.size<=g3/\g3<w6.heap.size:=⟨HGB3.out,HSZ3.out,HSZ4.out,HG3.out.1,HG3.out.2⟩;have hR:=hkp.row HR6.out (by simp;omega)
          have hD:=hkp.row HD6.out (by simp;omega)
          have r0:=hR.cell (j:=0) rfl;have r1:=hR.cell (j:=1) rfl;have r2:=hR.cell (j:=2) rfl;have r3:=hR.cell (j:=3) rfl;have r4:=hR.cell (j:=4) rfl;have p0:=hD.cell (j:=0) rfl;have p1:=hD.cell (j:=1) rfl;have HHR:=Lib.hid hR;have HHS:=Lib.hid hs34;have HKP:=Lib.hid hkp;clear hR hD hs34 hkp;go_wp2_with fail;go_ret;have hkp:=HKP.out;have hs34:=HHS.out;obtain⟨gO,cO,e,hne⟩:=HAP.out;subst e;have hOn:gO<w3.heap.size:=HGO.out _ rfl;have hOO:OwnI wr w1.heap.size (.slice (some ⟨gO,0,none⟩) m cO) g.O:=hkp.own HOO6.out (fun b hb q=>by simp at q;injection hb with hb;replace hb:gO=b:=hb;omega)
          have hOL:OwnI wr w1.heap.size vL L:=hkp.own HOL6.out (fun b hb q=>by simp at q;have:=HGL.out b hb;omega)
          have hOT:=hkp.own HOT6.out (fun b hb q=>by simp at q;injection hb with hb;replace hb:g1=b:=hb;have:=HGT.out;omega)
          have hOF:OwnI wr w3.heap.size (.slice (some ⟨g2,0,none⟩) m c2) (frL m g):=hkp.own HOF6.out (fun b hb q=>by simp at q;injection hb with hb;replace hb:g2=b:=hb;have:=HGF.out;omega)
          have hng:IsGng wr w.heap.size m g L ⟨gO,cO,vL,g3,c3,g1,c1,g2,c2,Rv⟩:=
            ⟨HGW.out.ol,hOO.down (by omega),hOL.down (by omega),own_less HL.out.dqs (by omega),own_less hOT (by omega),hOF.down (by omega),fun j hj=>(HL.out.new_ j hj).down (by have:=HB6.out.size;omega),fun _=>hne,
              (by show g2≠gO;have:=HGF.out;omega),fun j hj q=>(by have:=(HL.out.new_ j hj).blk q |>.1;have q3:gO<w3.heap.size:=hOn;have:=HG3.out.2;simp at *;omega),fun q=>(by have:=HGL.out _ q;have:=HGF.out;simp at *;omega),fun j hj q=>(by have:=(HL.out.new_ j hj).blk q |>.1;have:=HGF.out;have:=HG3.out;simp at *;omega)⟩
          refine⟨wr.heap.size,⟨gO,cO,vL,g3,c3,g1,c1,g2,c2,Rv⟩,rfl,⟨RowV.new wr _ (gangC m ⟨gO,cO,vL,g3,c3,g1,c1,g2,c2,Rv⟩++ [vW,vE]),?_,hng.below (below_alloc _)⟩,?_⟩
          · have:=hkp.size;omega
          · have:=hkp.size;exact HB6.out.trans ((hkp.below (by simp;omega) (by omega)).trans ((below_alloc _).mono (by omega)))
end
end Go.Proofs.YtngdbbligebcbabGreatDoor
