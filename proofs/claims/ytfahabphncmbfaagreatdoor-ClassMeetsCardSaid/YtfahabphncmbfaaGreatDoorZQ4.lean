import Derived.Test.YtfahabphncmbfaaGreatDoorZQ3
import Derived.Test.YtfahabphncmbfaaGreatDoorChecked
set_option linter.all false
set_option maxHeartbeats 4000000
namespace Go.Proofs.YtfahabphncmbfaaGreatDoor
open Go Go.RowKit
open _root_.Array renaming getElem?_eq_some_iff→Zk,replicate→Yt,size_replicate→Yaa,size_setIfInBounds→ZQ
open Bool renaming and_eq_true→Z5
open List renaming all_eq_true→ZL,contains_iff_mem→Y7,getElem?_eq_getElem→Zh,mem_range→ZD,range→Zo
open Nat renaming le_refl→Zm,lt_of_lt_of_le→ZE,lt_or_ge→Zv,lt_trans→YI
open Go.Oper renaming upon_value→ZN,wp→Z0
open Option.some renaming inj→Zr,injEq→ZB
section
variable {P: Program}{ops: Array Oper}{Q: Exit -> Act -> World -> Prop}
def ZfR(ops:Array Oper)(p:Nat)(ds S:List Nat):Bool:=
 ops.size==ds.length&&decide (p<ds.length)&&(ops.toList.all fun o:Oper=>o.guard.isNone)&&ZkS ops&&decide ds.Nodup&& !(S.contains p)&&
 ((Zo ds.length).all fun k=>(match ops[k]? with|some o=>if k=p then o.dst==none&&decide (1000<=ds.getD k 0)else o.dst==some (ds.getD k 0)&&decide (ds.getD k 0<1000)|none=>false))&&
 ((Zo ds.length).all fun k=>k==p||S.contains k||Zd5 ops 12 p k)
structure Stored(ops:Array Oper)(p:Nat)(ds S:List Nat):Prop where
 size:ops.size=ds.length
 lt:p<ds.length
 guard:∀(k:Nat) (o:Oper),ops[k]?=some o->o.guard=none
 back:∀(i:Nat) (o:Oper),ops[i]?=some o->∀e∈o.after,Region.binds .any e=true->e.on<i
 nodup:ds.Nodup
 apart:p∉S
 dst:∀(k:Nat) (o:Oper),k≠p->ops[k]?=some o->o.dst=some (ds.getD k 0)/\ds.getD k 0<1000
 none_:∀(o:Oper),ops[p]?=some o->o.dst=none
 last:∀k,k<ds.length->k≠p->k∉S->Zd5 ops 12 p k=true
theorem ZfS{p:Nat}{ds S:List Nat}(h:ZfR ops p ds S=true):Stored ops p ds S:=by
 unfold ZfR at h;simp only[Z5,beq_iff_eq,decide_eq_true_iff,Bool.not_eq_true']at h;obtain⟨⟨⟨⟨⟨⟨⟨h1,h2⟩,h3⟩,h4⟩,h5⟩,h6⟩,h7⟩,h8⟩:=h;have hk:∀(k:Nat) (o:Oper),ops[k]?=some o->k<ds.length:=fun k o ho=>h1▸(Zk.1 ho).1;refine⟨h1,h2,fun k o ho=> ?_,Zht h4,h5,fun hm=> ?_,fun k o hkp ho=> ?_,fun o ho=> ?_,fun k hkl hkp hkS=> ?_⟩
 ·have:=ZL.1 h3 o (by rw [Array.mem_toList_iff]; exact Array.mem_of_getElem? ho)
  exact Option.isNone_iff_eq_none.1 this
 ·rw [Y7.mpr hm] at h6
  cases h6
 ·have:=ZL.1 h7 k (ZD.2 (hk k o ho))
  rw[ho]at this;simp only[Zb hkp,Z5,beq_iff_eq,decide_eq_true_iff]at this;exact this
 ·have:=ZL.1 h7 p (ZD.2 h2)
  rw[ho]at this;simp only[if_true,Z5,beq_iff_eq,decide_eq_true_iff]at this;exact this.1
 ·have:=ZL.1 h8 k (ZD.2 hkl)
  simp only[Bool.or_eq_true,beq_iff_eq,Y7]at this;rcases this with(h|h)|h
  ·exact absurd h hkp
  ·exact absurd h hkS
  ·exact h
theorem Zft(p:Nat)(ds S:List Nat){id:Nat}{a0:Act}{w0:World}(hm:P.follows .mixedOrders=true)(hG:ZfR ops p ds S=true)(hsz:∀d∈ds,d<a0.tmps.size\/1000<=d)
    (I:World->Prop)(Φ:Nat->Value->World->Prop)(Θ:(Nat->Value)->World->Prop)
    (hI:∀w w',I w->Below w.heap.size w w'->I w')(hΦ:∀k v w w',Φ k v w->Below w.heap.size w w'->Φ k v w')
    (h0:I {w0 with drawn:=w0.drawn+1})
    (hstep:∀(k:Nat) (o:Oper),k≠p->k∉S->ops[k]?=some o->∀(a:Act) (w:World),I w->AtDoor a0 ds a.eval->(∀e∈o.after,Region.binds .any e=true->Φ e.on (a.eval (.tmp (ds.getD e.on 0))) w)->
      ∀K:Act->World->Prop,(∀v w',Φ k v w'->Below w.heap.size w w'->K (a.put o.dst v) w')->o.wp P a w K Q)
    (hpure:∀(k:Nat) (o:Oper),k∈S->ops[k]?=some o->∀(ρ:Operand->Value) (w:World),AtDoor a0 ds ρ->(∀e∈o.after,Region.binds .any e=true->e.on≠p->∃w',Φ e.on (ρ (.tmp (ds.getD e.on 0))) w')->
      ∃v,(execOp ρ o).run P w=.ok (.value v) w/\∀w',Φ k v w')
    (hstore:∀(o:Oper),ops[p]?=some o->∀(a:Act) (w:World),I w->AtDoor a0 ds a.eval->(∀k,k<ds.length->k≠p->k∉S->Φ k (a.eval (.tmp (ds.getD k 0))) w)->
      ∀K:Act->World->Prop,(∀w',Θ (fun t=>a.eval (.tmp t)) w'->K a w')->o.wp P a w K Q)
    (hΘ:∀(f g:Nat->Value) w,(∀k,k<ds.length->k≠p->k∉S->f (ds.getD k 0)=g (ds.getD k 0))->Θ f w->Θ g w)
    (hend:∀(vals:Nat->Value) (w:World),Θ vals w->(∀k,k<ds.length->k≠p->∃w',Φ k (vals (ds.getD k 0)) w')->Q .normal ⟨(ZaW a0 ds vals).toArray,a0.defers⟩ w):
    (Code.region id ops true).wp P Q a0 w0:=by
  have G:=ZfS hG;refine Zbi (fun l a w=>l.size=ds.length/\AtDoor a0 ds a.eval/\a.tmps.size=a0.tmps.size/\a.defers=a0.defers/\
    (∀(i:Nat) (o:Oper),l.getD i false=true->ops[i]?=some o->∀e∈o.after,Region.binds .any e=true->l.getD e.on false=true)/\
    ((l.getD p false = false /\ I w /\∀ k, k < ds.length -> k ≠ p -> l.getD k false = true -> Φ k (a.eval (.tmp (ds.getD k 0))) w) \/
     (l.getD p false=true/\Θ (fun t=>a.eval (.tmp t)) w/\∀k,k<ds.length->k≠p->l.getD k false=true->∃w',Φ k (a.eval (.tmp (ds.getD k 0))) w'))) hm ?_ ?_ ?_
  · have hno:∀k,¬(Yt ops.size false).getD k false=true:=fun k h=>by
      by_cases h2:k<ops.size<;>simp[h2]at h
    refine⟨by rw[Yaa];exact G.size,Zbb a0 ds,rfl,rfl,fun k o h=>absurd h (hno k),.inl ⟨?_,h0,fun k hk hkp h=>absurd h (hno k)⟩⟩
    cases h:(Yt ops.size false).getD p false with
    |false=>rfl
    |true=>exact absurd h (hno p)
  · rintro l a w i ⟨hls,hAD,hasz,hadf,hcl,hV⟩ hi;obtain⟨hun,o,ho,hpre⟩:=mem_ready.1 hi;have hilt:i<ops.size:=(Zk.1 ho).1;have hin:i<ds.length:=by rw[<-G.size];exact hilt
    have hil:i<l.size:=by omega
    have hun2:l.getD i false=false:=by
      cases h:l.getD i false with
      |false=>rfl
      |true=>simp[hil]at h hun;rw[h]at hun;cases hun
    have hcl2:∀(k:Nat) (o':Oper),(l.setIfInBounds i true).getD k false=true->ops[k]?=some o'->∀e∈o'.after,Region.binds .any e=true->(l.setIfInBounds i true).getD e.on false=true:=fun k o' hk ho' e he hb=>by
      refine(Zam hil).mpr (.inr ?_);rcases Zag hk with h|h
      · subst h;rw[ho]at ho';obtain rfl:=Zr ho';exact hpre e he hb
      · exact hcl k o' h ho' e he hb
    have hls2:(l.setIfInBounds i true).size=ds.length:=by rw[ZQ];exact hls
    refine ZeG ho (G.guard i o ho) ?_;by_cases hip:i=p
    · subst hip;rcases hV with⟨hnl,hIw,hF⟩|⟨hnl,_⟩
      · have hall:∀k,k<ds.length->k≠i->k∉S->l.getD k false=true:=fun k hk hkp hkS=>Za8 hcl 12 i k (G.last k hk hkp hkS) (fun o' ho' e he hb=>by
          rw[ho]at ho';obtain rfl:=Zr ho';exact hpre e he hb)
        refine hstore o ho a w hIw hAD (fun k hk hkp hkS=>hF k hk hkp (hall k hk hkp hkS)) _ fun w' hT=> ?_;refine⟨hls2,hAD,hasz,hadf,hcl2,.inr ⟨(Zam hil).mpr (.inl rfl),hT,fun k hk hkp hkl=> ?_⟩⟩;exact⟨w,hF k hk hkp ((Zag hkl).resolve_left hkp)⟩
      · rw[hun2]at hnl;cases hnl
    · obtain⟨hd,hdl⟩:=G.dst i o hip ho;have hdm:=Zc8 hin;have hdz:ds.getD i 0<a.tmps.size:=by
        rcases hsz _ hdm with h|h
        · rw[hasz];exact h
        · omega
      have hpl:∀b,l.getD p false=b->(l.setIfInBounds i true).getD p false=b:=fun b hb=>by
        cases h:(l.setIfInBounds i true).getD p false with
        | true =>
          rcases Zag h with h2|h2
          · exact absurd h2.symm hip
          · rw[<-hb,h2]
        | false =>
          cases b with
          |false=>rfl
          | true =>have:=(Zam (k:=p) hil).mpr (.inr hb);rw[h]at this;cases this
      have hsz2:∀v,(a.put (some (ds.getD i 0)) v).tmps.size=a0.tmps.size:=fun v=>by show(a.tmps.setIfInBounds _ _).size=_;rw[ZQ];exact hasz
      rcases hV with⟨hnl,hIw,hF⟩|⟨hnl,hT,hF⟩
      · have hdep:∀e∈o.after,Region.binds .any e=true->Φ e.on (a.eval (.tmp (ds.getD e.on 0))) w:=fun e he hb=>hF e.on (YI (G.back i o ho e he hb) hin) (fun h=>by
          have:=hpre e he hb;rw[h,hnl]at this;cases this) (hpre e he hb)
        have hnext:∀v w',Φ i v w'->Below w.heap.size w w'->(l.setIfInBounds i true).size=ds.length/\AtDoor a0 ds (a.put (some (ds.getD i 0)) v).eval/\(a.put (some (ds.getD i 0)) v).tmps.size=a0.tmps.size/\(a.put (some (ds.getD i 0)) v).defers=a0.defers/\
            (∀(k:Nat) (o':Oper),(l.setIfInBounds i true).getD k false=true->ops[k]?=some o'->∀e∈o'.after,Region.binds .any e=true->(l.setIfInBounds i true).getD e.on false=true)/\
            (((l.setIfInBounds i true).getD p false = false /\ I w' /\∀ k, k < ds.length -> k ≠ p -> (l.setIfInBounds i true).getD k false = true -> Φ k ((a.put (some (ds.getD i 0)) v).eval (.tmp (ds.getD k 0))) w') \/
             ((l.setIfInBounds i true).getD p false=true/\Θ (fun t=>(a.put (some (ds.getD i 0)) v).eval (.tmp t)) w'/\∀k,k<ds.length->k≠p->(l.setIfInBounds i true).getD k false=true->∃w'',Φ k ((a.put (some (ds.getD i 0)) v).eval (.tmp (ds.getD k 0))) w'')):=fun v w' hphi hb=>by
          refine⟨hls2,hAD.put hdm v,hsz2 v,hadf,hcl2,.inl ⟨hpl _ hnl,hI w w' hIw hb,fun k hk hkp hkl=> ?_⟩⟩;by_cases hki:k=i
          · subst hki;rw[ZaB _ _ _ hdz];exact hphi
          · rw[Zak _ _ _ _ (fun e=>hki (Zbo G.nodup hk hin e))];exact hΦ k _ _ _ (hF k hk hkp ((Zag hkl).resolve_left hki)) hb
        by_cases hiS:i∈S
        · obtain⟨v,hr,hphi⟩:=hpure i o hiS ho a.eval w hAD (fun e he hb _=>⟨w,hdep e he hb⟩);unfold Z0;rw[hr,ZN,hd];exact hnext v w (hphi w) (Below.refl _ _)
        · refine hstep i o hip hiS ho a w hIw hAD hdep _ fun v w' hphi hb=> ?_;rw[hd];exact hnext v w' hphi hb
      · have hall:∀k,k<ds.length->k≠p->k∉S->l.getD k false=true:=fun k hk hkp hkS=>by
          obtain⟨op,hop⟩:∃op,ops[p]?=some op:=⟨_,Array.getElem?_eq_getElem (by rw[G.size];exact G.lt)⟩;exact Za8 hcl 12 p k (G.last k hk hkp hkS) (fun o' ho' e he hb=>hcl p o' hnl ho' e he hb)
        have hiS:i∈S:=Classical.byContradiction fun h=>by have:=hall i hin hip h;rw[hun2]at this;cases this
        obtain⟨v,hr,hphi⟩:=hpure i o hiS ho a.eval w hAD (fun e he hb hep=>by have he2:=hpre e he hb;have hlt:=YI (G.back i o ho e he hb) hin;exact hF e.on hlt hep he2)
        unfold Z0;rw[hr,ZN,hd];refine⟨hls2,hAD.put hdm v,hsz2 v,hadf,hcl2,.inr ⟨hpl _ hnl,?_,fun k hk hkp hkl=> ?_⟩⟩
        · refine hΘ _ _ w (fun k hk hkp hkS=> ?_) hT;exact(Zak _ _ _ _ (fun e=>hkS (by rw[Zbo G.nodup hk hin e];exact hiS))).symm
        · by_cases hki:k=i
          · subst hki;rw[ZaB _ _ _ hdz];exact⟨w,hphi w⟩
          · rw[Zak _ _ _ _ (fun e=>hki (Zbo G.nodup hk hin e))];exact hF k hk hkp ((Zag hkl).resolve_left hki)
  · rintro l a w ⟨hls,hAD,hasz,hadf,hcl,hV⟩ hr;have hall:=Zcf (by rw[hls,G.size]) G.back hr;have hp:=hall p (by rw[G.size];exact G.lt);rcases hV with⟨hnl,_⟩|⟨_,hT,hF⟩
    · rw[hp]at hnl;cases hnl
    · rw[ZdB hAD hasz hadf];exact hend (fun t=>a.eval (.tmp t)) w hT fun k hk hkp=>hF k hk hkp (hall k (by rw[G.size];exact hk))
end
section
variable {P: Program}{ops: Array Oper}{Q: Exit -> Act -> World -> Prop}
def Zpd(ops:Array Oper)(m:Nat)(ds F:List Nat):Bool:=
 ops.size==ds.length&&decide (m<=ds.length)&&(ops.toList.all fun o:Oper=>o.guard.isNone)&&ZkS ops&&decide ds.Nodup&&(F.all fun f=>decide (f<m))&&
 ((Zo ds.length).all fun k=>(match ops[k]? with|some o=>if ds.getD k 0<1000 then o.dst==some (ds.getD k 0)else o.dst==none&&decide (m<=k)|none=>false))&&
 ((Zo ds.length).all fun t=>decide (t<m)||(Zo t).all fun k=>F.contains k||Zd5 ops 12 t k)
structure Tail(ops:Array Oper)(m:Nat)(ds F:List Nat):Prop where
 size:ops.size=ds.length
 le:m<=ds.length
 guard:∀(k:Nat) (o:Oper),ops[k]?=some o->o.guard=none
 back:∀(i:Nat) (o:Oper),ops[i]?=some o->∀e∈o.after,Region.binds .any e=true->e.on<i
 nodup:ds.Nodup
 loose:∀f∈F,f<m
 dst:∀(k:Nat) (o:Oper),ops[k]?=some o->(ds.getD k 0<1000/\o.dst=some (ds.getD k 0))\/(1000<=ds.getD k 0/\o.dst=none/\m<=k)
 last:∀t k,t<ds.length->m<=t->k<t->k∉F->Zd5 ops 12 t k=true
theorem ZmX{m:Nat}{ds F:List Nat}(h:Zpd ops m ds F=true):Tail ops m ds F:=by
 unfold Zpd at h;simp only[Z5,beq_iff_eq,decide_eq_true_iff]at h;obtain⟨⟨⟨⟨⟨⟨⟨h1,h2⟩,h3⟩,h4⟩,h5⟩,h6⟩,h7⟩,h8⟩:=h;have hk:∀(k:Nat) (o:Oper),ops[k]?=some o->k<ds.length:=fun k o ho=>h1▸(Zk.1 ho).1;refine⟨h1,h2,fun k o ho=> ?_,Zht h4,h5,fun f hf=>by simpa using ZL.1 h6 f hf,fun k o ho=> ?_,fun t k ht hmt hkt hkF=> ?_⟩
 ·have:=ZL.1 h3 o (by rw [Array.mem_toList_iff]; exact Array.mem_of_getElem? ho)
  simpa using this
 ·have:=ZL.1 h7 k (ZD.2 (hk k o ho))
  rw[ho]at this;by_cases hd:ds.getD k 0<1000
  ·simp only [Zc hd,beq_iff_eq] at this
   exact .inl ⟨hd,this⟩
  ·simp only [Zb hd,Z5,beq_iff_eq,decide_eq_true_iff] at this
   exact .inr ⟨by omega,this.1,this.2⟩
 ·have:=ZL.1 h8 t (ZD.2 ht)
  rw[Zd (show¬t<m by omega),Bool.false_or]at this;have h9:=ZL.1 this k (ZD.2 hkt);rw[Bool.or_eq_true]at h9;rcases h9 with h9|h9
  ·exact absurd (by simpa using h9) hkF
  ·exact h9
theorem Zdc(m q:Nat)(ds F:List Nat){id:Nat}{a0:Act}{w0:World}(hm:P.follows .mixedOrders=true)(hG:Zpd ops m ds F=true)(hsz:∀d∈ds,d<a0.tmps.size\/1000<=d)
    (hq:q∉F)(I J:World->Prop)(Rl:World->World->Prop)(Φ:Nat->Value->World->Prop)(Ψ:Nat->Value->Prop)(Θ:Nat->(Nat->Value)->World->Prop)
    (hBR:∀w w',Below w.heap.size w w'->Rl w w')(hI:∀w w',I w->Rl w w'->I w')(hJ:∀w w',J w->Below w.heap.size w w'->J w')(hΦ:∀k v w w',k≠q->Φ k v w->Rl w w'->Φ k v w')(hΦq:∀v w w',Φ q v w->Below w.heap.size w w'->Φ q v w')
    (h0:I {w0 with drawn:=w0.drawn+1})(h1:J {w0 with drawn:=w0.drawn+1})
    (hstep:∀(k:Nat) (o:Oper),k<m->k∉F->ops[k]?=some o->∀(a:Act) (w:World),I w->AtDoor a0 (ds.take m) a.eval->(∀e∈o.after,Region.binds .any e=true->e.on∉F->Φ e.on (a.eval (.tmp (ds.getD e.on 0))) w)->(k=q->J w)->
      ∀K:Act->World->Prop,(∀v w',Φ k v w'->(if k=q then Rl w w' else Below w.heap.size w w')->K (a.put o.dst v) w')->o.wp P a w K Q)
    (hloose:∀(k:Nat) (o:Oper),k∈F->ops[k]?=some o->∀(ρ:Operand->Value) (w:World),AtDoor a0 ds ρ->(∀e∈o.after,Region.binds .any e=true->e.on∉F->∃w1,Φ e.on (ρ (.tmp (ds.getD e.on 0))) w1)->∃v,(execOp ρ o).run P w=.ok (.value v) w/\Ψ k v)
    (hmid:∀(vals:Nat->Value) (w:World),I w->(∀k,k<m->k∉F->Φ k (vals (ds.getD k 0)) w)->Θ m vals w)
    (htail:∀(t:Nat) (o:Oper),m<=t->ops[t]?=some o->∀(a:Act) (w:World),AtDoor a0 ds a.eval->Θ t (fun x=>a.eval (.tmp x)) w->(∀e∈o.after,Region.binds .any e=true->e.on∈F->Ψ e.on (a.eval (.tmp (ds.getD e.on 0))))->
      ∀K:Act->World->Prop,(∀v w',Θ (t+1) (fun x=>if o.dst=some x then v else a.eval (.tmp x)) w'->K (a.put o.dst v) w')->o.wp P a w K Q)
    (hΘ:∀(t:Nat) (f g:Nat->Value) (w:World),(∀k,k<t->k∉F->f (ds.getD k 0)=g (ds.getD k 0))->Θ t f w->Θ t g w)
    (hend:∀(vals:Nat->Value) (w:World),Θ ds.length vals w->Q .normal ⟨(ZaW a0 ds vals).toArray,a0.defers⟩ w):
    (Code.region id ops true).wp P Q a0 w0:=by
  have G:=ZmX hG;refine Zbi (fun l a w=>l.size=ds.length/\AtDoor a0 ds a.eval/\a.tmps.size=a0.tmps.size/\a.defers=a0.defers/\
    (∀(i:Nat) (o:Oper),l.getD i false=true->ops[i]?=some o->∀e∈o.after,Region.binds .any e=true->l.getD e.on false=true)/\
    (∀k,k∈F->l.getD k false=true->Ψ k (a.eval (.tmp (ds.getD k 0))))/\
    (∀k,k<m->k∉F->l.getD k false=true->∃w1,Φ k (a.eval (.tmp (ds.getD k 0))) w1)/\
    (((∀ t, m <= t -> l.getD t false = false) /\ AtDoor a0 (ds.take m) a.eval /\ I w /\ (l.getD q false = false -> J w) /\∀ k, k < m -> k ∉ F -> l.getD k false = true -> Φ k (a.eval (.tmp (ds.getD k 0))) w) \/
     (∃t,m<t/\t<=ds.length/\(∀j,t<=j->l.getD j false=false)/\(∀j,m<=j->j<t->l.getD j false=true)/\Θ t (fun x=>a.eval (.tmp x)) w))) hm ?_ ?_ ?_
  · have hno:∀k,(Yt ops.size false).getD k false=false:=fun k=>by
      by_cases h2:k<ops.size<;>simp[h2]
    exact⟨by rw[Yaa];exact G.size,Zbb a0 ds,rfl,rfl,fun k o h=>absurd h (by rw[hno];decide),fun k _ h=>absurd h (by rw[hno];decide),fun k _ _ h=>absurd h (by rw[hno];decide),.inl ⟨fun t _=>hno t,Zbb a0 _,h0,fun _=>h1,fun k _ _ h=>absurd h (by rw[hno];decide)⟩⟩
  · rintro l a w i ⟨hls,hAD,hasz,hadf,hcl,hFl,hPl,hV⟩ hi;obtain⟨hun,o,ho,hpre⟩:=mem_ready.1 hi;have hilt:i<ops.size:=(Zk.1 ho).1;have hin:i<ds.length:=by rw[<-G.size];exact hilt
    have hil:i<l.size:=by omega
    have hun2:l.getD i false=false:=by
      cases h:l.getD i false with
      |false=>rfl
      |true=>simp[hil]at h hun;rw[h]at hun;cases hun
    have hcl2:∀(k:Nat) (o':Oper),(l.setIfInBounds i true).getD k false=true->ops[k]?=some o'->∀e∈o'.after,Region.binds .any e=true->(l.setIfInBounds i true).getD e.on false=true:=fun k o' hk ho' e he hb=>by
      refine(Zam hil).mpr (.inr ?_);rcases Zag hk with h|h
      · subst h;rw[ho]at ho';obtain rfl:=Zr ho';exact hpre e he hb
      · exact hcl k o' h ho' e he hb
    have hls2:(l.setIfInBounds i true).size=ds.length:=by rw[ZQ];exact hls
    have hsame:∀v,(ds.getD i 0<1000/\o.dst=some (ds.getD i 0))->(a.put o.dst v).eval (.tmp (ds.getD i 0))=v:=fun v hd=>by rw[hd.2,ZaB _ _ _ (by rw[hasz];exact(hsz _ (Zc8 hin)).resolve_right (by omega))]
    have hother:∀v k,k<ds.length->k≠i->(a.put o.dst v).eval (.tmp (ds.getD k 0))=a.eval (.tmp (ds.getD k 0)):=fun v k hk hki=>by
      rcases G.dst i o ho with hd|hd
      · rw[hd.2,Zak _ _ _ _ (fun e=>hki (Zbo G.nodup hk hin e))]
      · rw[hd.2.1];rfl
    have hADp:∀v,AtDoor a0 ds (a.put o.dst v).eval:=fun v=>by
      rcases G.dst i o ho with hd|hd
      · rw[hd.2];exact hAD.put (Zc8 hin) v
      · rw[hd.2.1];exact hAD
    have hszp:∀v,(a.put o.dst v).tmps.size=a0.tmps.size:=fun v=>by
      rcases G.dst i o ho with hd|hd
      · rw[hd.2];show(a.tmps.setIfInBounds _ _).size=_;rw[ZQ];exact hasz
      · rw[hd.2.1];exact hasz
    have hdfp:∀v,(a.put o.dst v).defers=a0.defers:=fun v=>by
      rcases G.dst i o ho with hd|hd
      · rw[hd.2];exact hadf
      · rw[hd.2.1];exact hadf
    refine ZeG ho (G.guard i o ho) ?_;have hset:∀k,k≠i->(l.setIfInBounds i true).getD k false=l.getD k false:=fun k hk=>by
      cases h:l.getD k false with
      |true=>exact(Zam hil).mpr (.inr h)
      | false =>
        cases h2:(l.setIfInBounds i true).getD k false with
        |false=>rfl
        |true=>rw[(Zag h2).resolve_left hk]at h;cases h
    have hseti:(l.setIfInBounds i true).getD i false=true:=(Zam hil).mpr (.inl rfl);have hmt:i<m->ds.getD i 0∈ds.take m:=fun h=>by rw[List.getD_eq_getElem?_getD,Zh hin];exact List.mem_take_iff_getElem.mpr ⟨i,by omega,rfl⟩
    by_cases hiF:i∈F
    · have him:=G.loose i hiF;obtain⟨v,hr,hv⟩:=hloose i o hiF ho a.eval w hAD (fun e he hb heF=>hPl e.on (YI (G.back i o ho e he hb) him) heF (hpre e he hb));have hdi:=(G.dst i o ho).resolve_right (by omega);have hgo:∀(X:Prop),((l.setIfInBounds i true).size=ds.length/\AtDoor a0 ds (a.put o.dst v).eval/\(a.put o.dst v).tmps.size=a0.tmps.size/\(a.put o.dst v).defers=a0.defers/\
        (∀(i_1:Nat) (o:Oper),(l.setIfInBounds i true).getD i_1 false=true->ops[i_1]?=some o->∀e∈o.after,Region.binds .any e=true->(l.setIfInBounds i true).getD e.on false=true)/\
        (∀k,k∈F->(l.setIfInBounds i true).getD k false=true->Ψ k ((a.put o.dst v).eval (.tmp (ds.getD k 0))))/\(∀k,k<m->k∉F->(l.setIfInBounds i true).getD k false=true->∃w1,Φ k ((a.put o.dst v).eval (.tmp (ds.getD k 0))) w1)/\X)↔X:=fun X=>by
        refine⟨fun h=>h.2.2.2.2.2.2.2,fun h=>⟨hls2,hADp v,hszp v,hdfp v,hcl2,fun k hk hkl=> ?_,fun k hk hkF hkl=> ?_,h⟩⟩
        rotate_left
        · have hki:k≠i:=fun e=>hkF (e▸hiF);rw[hother v k (by have:=G.le;omega) hki];exact hPl k hk hkF ((Zag hkl).resolve_left hki)
        by_cases hki:k=i
        · subst hki;rw[hsame v hdi];exact hv
        · rw[hother v k (ZE (G.loose k hk) G.le) hki];exact hFl k hk ((Zag hkl).resolve_left hki)
      unfold Z0;rw[hr,ZN];refine(hgo _).mpr ?_;rcases hV with⟨hno,hAT,hIw,hJw,hF⟩|⟨t,ht1,ht2,hno,hyes,hT⟩
      · refine .inl ⟨fun t ht=>by rw[hset t (by omega)];exact hno t ht,by rw[hdi.2];exact hAT.put (hmt him) v,hIw,fun e=>hJw (by rw[<-hset q (fun e2=>hq (e2▸hiF))];exact e),fun k hk hkF hkl=> ?_⟩;have hki:k≠i:=fun e=>hkF (e▸hiF);rw[hother v k (by have:=G.le;omega) hki];exact hF k hk hkF ((Zag hkl).resolve_left hki)
      · refine .inr ⟨t,ht1,ht2,fun j hj=>by rw[hset j (by omega)];exact hno j hj,fun j h1 h2=>by rw[hset j (by omega)];exact hyes j h1 h2,hΘ t _ _ w (fun k hk hkF=> ?_) hT⟩;exact(hother v k (by omega) (fun e=>hkF (e▸hiF))).symm
    by_cases him:i<m
    · -- ahead of the tail
      rcases hV with⟨hno,hAT,hIw,hJw,hF⟩|⟨t,ht1,ht2,hno,hyes,hT⟩
      · refine hstep i o him hiF ho a w hIw hAT (fun e he hb heF=>hF e.on (YI (G.back i o ho e he hb) him) heF (hpre e he hb)) (fun e=>hJw (e▸hun2)) _ fun v w' hphi hb=> ?_;have hb':Rl w w':=by
          split at hb
          · exact hb
          · exact hBR _ _ hb
        have hdi:=(G.dst i o ho).resolve_right (by omega);refine⟨hls2,hADp v,hszp v,hdfp v,hcl2,fun k hk hkl=> ?_,fun k hk hkF hkl=> ?_,.inl ⟨fun t ht=>by rw[hset t (by omega)];exact hno t ht,by rw[hdi.2];exact hAT.put (hmt him) v,hI _ _ hIw hb',fun e=> ?_,fun k hk hkF hkl=> ?_⟩⟩
        · have hki:k≠i:=fun e=>hiF (e▸hk);rw[hother v k (ZE (G.loose k hk) G.le) hki];exact hFl k hk ((Zag hkl).resolve_left hki)
        · by_cases hki:k=i
          · subst hki;rw[hsame v hdi];exact⟨_,hphi⟩
          · rw[hother v k (by have:=G.le;omega) hki];exact hPl k hk hkF ((Zag hkl).resolve_left hki)
        · by_cases hiq:i=q
          · rw[<-hiq,hseti]at e;cases e
          · rw[Zb hiq]at hb;exact hJ _ _ (hJw (by rw[<-hset q (fun e2=>hiq e2.symm)];exact e)) hb
        · by_cases hki:k=i
          · subst hki;rw[hsame v hdi];exact hphi
          · rw[hother v k (by have:=G.le;omega) hki];have hold:=hF k hk hkF ((Zag hkl).resolve_left hki);by_cases hkq:k=q
            · rw[Zb (fun e2=>hki (hkq.trans e2.symm))]at hb;rw[hkq]at hold⊢;exact hΦq _ _ _ hold hb
            · exact hΦ k _ _ _ hkq hold hb'
      · exfalso;have h1:=hyes m (Zm _) ht1;have h2:=Za8 hcl 12 m i (G.last m i (by omega) (Zm _) him hiF) (fun o' ho' e he hb=>hcl m o' h1 ho' e he hb);rw[hun2]at h2;cases h2
    · -- in the tail
      have hall:∀k,k<i->k∉F->l.getD k false=true:=fun k hk hkF=>Za8 hcl 12 i k (G.last i k hin (by omega) hk hkF) (fun o' ho' e he hb=>by rw[ho]at ho';obtain rfl:=Zr ho';exact hpre e he hb)
      have hTi:Θ i (fun x=>a.eval (.tmp x)) w/\(∀j,i<=j->l.getD j false=false)/\(∀j,m<=j->j<i->l.getD j false=true):=by
        rcases hV with⟨hno,hAT,hIw,hJw,hF⟩|⟨t,ht1,ht2,hno,hyes,hT⟩
        · obtain rfl:i=m:=by
            rcases Zv m i with h|h
            · have h3:=hall m h (fun q=>by have:=G.loose m q;omega);rw[hno m (Zm _)]at h3;cases h3
            · omega
          exact⟨hmid _ w hIw fun k hk hkF=>hF k hk hkF (hall k hk hkF),fun j hj=>hno j hj,fun j h1 h2=>by omega⟩
        · obtain rfl:i=t:=by
            rcases Nat.lt_trichotomy i t with h|h|h
            · have:=hyes i (by omega) h;rw[hun2]at this;cases this
            · exact h
            · have h3:=hall t h (fun q=>by have:=G.loose t q;omega);rw[hno t (Zm _)]at h3;cases h3
          exact⟨hT,hno,hyes⟩
      obtain⟨hT,hno,hyes⟩:=hTi;refine htail i o (by omega) ho a w hAD hT (fun e he hb heF=>hFl e.on heF (hpre e he hb)) _ fun v w' hT'=> ?_;refine⟨hls2,hADp v,hszp v,hdfp v,hcl2,fun k hk hkl=> ?_,fun k hk hkF hkl=> ?_,.inr ⟨i+1,by omega,by omega,fun j hj=>by rw[hset j (by omega)];exact hno j (by omega),fun j h1 h2=> ?_,hΘ _ _ _ w' (fun k hk hkF=> ?_) hT'⟩⟩
      · have hki:k≠i:=fun e=>hiF (e▸hk);rw[hother v k (ZE (G.loose k hk) G.le) hki];exact hFl k hk ((Zag hkl).resolve_left hki)
      · have hki:k≠i:=by omega
        rw[hother v k (by have:=G.le;omega) hki];exact hPl k hk hkF ((Zag hkl).resolve_left hki)
      · by_cases hji:j=i
        · subst hji;exact hseti
        · rw[hset j hji];exact hyes j h1 (by omega)
      · by_cases hki:k=i
        · subst hki;rcases G.dst k o ho with hd|hd
          · rw[hd.2]at hsame⊢;simp only[if_true];exact(hsame v ⟨hd.1,rfl⟩).symm
          · rw[hd.2.1];rfl
        · rw[hother v k (by omega) hki];rcases G.dst i o ho with hd|hd
          · rw[hd.2];simp only[ZB];rw[Zb (fun e=>hki (Zbo G.nodup (by omega) hin e.symm))]
          · rw[hd.2.1];rfl
  · rintro l a w ⟨hls,hAD,hasz,hadf,hcl,hFl,hPl,hV⟩ hr;have hall:=Zcf (by rw[hls,G.size]) G.back hr;rw[ZdB hAD hasz hadf];rcases hV with⟨hno,hAT,hIw,hJw,hF⟩|⟨t,ht1,ht2,hno,hyes,hT⟩
    · have hml:m=ds.length:=by
        rcases Zv m ds.length with h|h
        · have h3:=hall m (by rw[G.size];exact h);rw[hno m (Zm _)]at h3;cases h3
        · have:=G.le;omega
      have h4:=hmid (fun t=>a.eval (.tmp t)) w hIw fun k hk hkF=>hF k hk hkF (hall k (by rw[G.size];omega));rw[hml]at h4;exact hend _ w h4
    · obtain rfl:t=ds.length:=by
        rcases Zv t ds.length with h|h
        · have h3:=hall t (by rw[G.size];exact h);rw[hno t (Zm _)]at h3;cases h3
        · omega
      exact hend _ w hT
theorem Zas(m:Nat)(ds F:List Nat){id:Nat}{a0:Act}{w0:World}(hm:P.follows .mixedOrders=true)(hG:Zpd ops m ds F=true)(hsz:∀d∈ds,d<a0.tmps.size\/1000<=d)
    (I:World->Prop)(Φ:Nat->Value->World->Prop)(Ψ:Nat->Value->Prop)(Θ:Nat->(Nat->Value)->World->Prop)
    (hI:∀w w',I w->Below w.heap.size w w'->I w')(hΦ:∀k v w w',Φ k v w->Below w.heap.size w w'->Φ k v w')
    (h0:I {w0 with drawn:=w0.drawn+1})
    (hstep:∀(k:Nat) (o:Oper),k<m->k∉F->ops[k]?=some o->∀(a:Act) (w:World),I w->AtDoor a0 (ds.take m) a.eval->(∀e∈o.after,Region.binds .any e=true->e.on∉F->Φ e.on (a.eval (.tmp (ds.getD e.on 0))) w)->
      ∀K:Act->World->Prop,(∀v w',Φ k v w'->Below w.heap.size w w'->K (a.put o.dst v) w')->o.wp P a w K Q)
    (hloose:∀(k:Nat) (o:Oper),k∈F->ops[k]?=some o->∀(ρ:Operand->Value) (w:World),AtDoor a0 ds ρ->(∀e∈o.after,Region.binds .any e=true->e.on∉F->∃w1,Φ e.on (ρ (.tmp (ds.getD e.on 0))) w1)->∃v,(execOp ρ o).run P w=.ok (.value v) w/\Ψ k v)
    (hmid:∀(vals:Nat->Value) (w:World),I w->(∀k,k<m->k∉F->Φ k (vals (ds.getD k 0)) w)->Θ m vals w)
    (htail:∀(t:Nat) (o:Oper),m<=t->ops[t]?=some o->∀(a:Act) (w:World),AtDoor a0 ds a.eval->Θ t (fun x=>a.eval (.tmp x)) w->(∀e∈o.after,Region.binds .any e=true->e.on∈F->Ψ e.on (a.eval (.tmp (ds.getD e.on 0))))->
      ∀K:Act->World->Prop,(∀v w',Θ (t+1) (fun x=>if o.dst=some x then v else a.eval (.tmp x)) w'->K (a.put o.dst v) w')->o.wp P a w K Q)
    (hΘ:∀(t:Nat) (f g:Nat->Value) (w:World),(∀k,k<t->k∉F->f (ds.getD k 0)=g (ds.getD k 0))->Θ t f w->Θ t g w)
    (hend:∀(vals:Nat->Value) (w:World),Θ ds.length vals w->Q .normal ⟨(ZaW a0 ds vals).toArray,a0.defers⟩ w):
    (Code.region id ops true).wp P Q a0 w0:=
 Zdc m m ds F hm hG hsz (fun h=>Nat.lt_irrefl m ((ZmX hG).loose m h)) I (fun _=>True) (fun w w'=>Below w.heap.size w w') Φ Ψ Θ (fun _ _ h=>h) hI (fun _ _ h _=>h) (fun k v w w' _=>hΦ k v w w') (hΦ m) h0 trivial
  (fun k o hk hkF ho a w hI hA hd _ K hK=>hstep k o hk hkF ho a w hI hA hd K fun v w' h hb=>hK v w' h (by rw[Zb (Nat.ne_of_lt hk)];exact hb)) hloose hmid htail hΘ hend
end
def Trips(w:World)(B:Nat)(A:Option Addr)(es:List (Int×Int×Int)):Prop:=
 0<es.length->∃b off,A=some ⟨b,off,none⟩/\b<B/\∀k e,es[k]?=some e->w.cell? ⟨b,off+k * 3,none⟩=some (.int .i64 e.1)/\w.cell? ⟨b,off+k * 3+1,none⟩=some (.int .i64 e.2.1)/\w.cell? ⟨b,off+k * 3+2,none⟩=some (.int .i64 e.2.2)
theorem Trips.at_{w:World}{B:Nat}{A:Option Addr}{es:List (Int×Int×Int)}{k:Nat}(h:Trips w B A es)(hk:k<es.length):
  ∃b off x y z,A=some ⟨b,off,none⟩/\b<B/\es[k]?=some (x,y,z)/\w.cell? ⟨b,off+k * 3,none⟩=some (.int .i64 x)/\w.cell? ⟨b,off+k * 3+1,none⟩=some (.int .i64 y)/\w.cell? ⟨b,off+k * 3+2,none⟩=some (.int .i64 z):=by
 obtain⟨b,off,e,hb,hc⟩:=h (by omega);have he:es[k]?=some es[k]:=Zh hk;exact⟨b,off,es[k].1,es[k].2.1,es[k].2.2,e,hb,he,hc k _ he⟩
theorem Trips.keep{w w':World}{B:Nat}{A:Option Addr}{es:List (Int×Int×Int)}(h:Trips w B A es)(hk:∀p:Addr,p.block<B->w'.cell? p=w.cell? p):Trips w' B A es:=fun hn=>by obtain⟨b,off,e,hb,hc⟩:=h hn;exact⟨b,off,e,hb,fun k x hx=>⟨(hk _ hb).trans (hc k x hx).1,(hk _ hb).trans (hc k x hx).2.1,(hk _ hb).trans (hc k x hx).2.2⟩⟩
theorem Trips.more{w:World}{B B':Nat}{A:Option Addr}{es:List (Int×Int×Int)}(h:Trips w B A es)(hB:B<=B'):Trips w B' A es:=fun hn=>by obtain⟨b,off,e,hb,hc⟩:=h hn;exact⟨b,off,e,by omega,hc⟩
theorem Trips.below{w w':World}{B:Nat}{A:Option Addr}{es:List (Int×Int×Int)}(h:Trips w B A es)(hb:Below B w w'):Trips w' B A es:=h.keep fun _ hp=>hb.cell hp
def Bars(w:World)(B:Nat)(A:Option Addr)(bs:List (List Int×List Int)):Prop:=
 0<bs.length->∃b off,A=some ⟨b,off,none⟩/\b<B/\∀k e,bs[k]?=some e->∃A1 c1 A2 c2,w.cell? ⟨b,off+k * 2,none⟩=some (.slice A1 e.1.length c1)/\w.cell? ⟨b,off+k * 2+1,none⟩=some (.slice A2 e.2.length c2)/\
  Ints w B A1 e.1/\Ints w B A2 e.2/\(A1=none->e.1.length=0/\c1=0)/\(A2=none->e.2.length=0/\c2=0)
theorem Bars.at_{w:World}{B:Nat}{A:Option Addr}{bs:List (List Int×List Int)}{k:Nat}(h:Bars w B A bs)(hk:k<bs.length):
  ∃b off xs ys A1 n1 c1 A2 n2 c2,A=some ⟨b,off,none⟩/\b<B/\bs[k]?=some (xs,ys)/\xs.length=n1/\ys.length=n2/\w.cell? ⟨b,off+k * 2,none⟩=some (.slice A1 n1 c1)/\w.cell? ⟨b,off+k * 2+1,none⟩=some (.slice A2 n2 c2)/\
   Ints w B A1 xs/\Ints w B A2 ys/\(A1=none->n1=0/\c1=0)/\(A2=none->n2=0/\c2=0):=by
 obtain⟨b,off,e,hb,hc⟩:=h (by omega);have he:bs[k]?=some bs[k]:=Zh hk;obtain⟨A1,c1,A2,c2,h1,h2,h3,h4,h5,h6⟩:=hc k _ he;exact⟨b,off,bs[k].1,bs[k].2,A1,_,c1,A2,_,c2,e,hb,he,rfl,rfl,h1,h2,h3,h4,h5,h6⟩
theorem Bars.keep{w w':World}{B:Nat}{A:Option Addr}{bs:List (List Int×List Int)}(h:Bars w B A bs)(hk:∀p:Addr,p.block<B->w'.cell? p=w.cell? p):Bars w' B A bs:=fun hn=>by obtain⟨b,off,e,hb,hc⟩:=h hn;refine⟨b,off,e,hb,fun k x hx=> ?_⟩;obtain⟨A1,c1,A2,c2,h1,h2,h3,h4,h5⟩:=hc k x hx;exact⟨A1,c1,A2,c2,(hk _ hb).trans h1,(hk _ hb).trans h2,h3.keep hk,h4.keep hk,h5⟩
theorem Bars.more{w:World}{B B':Nat}{A:Option Addr}{bs:List (List Int×List Int)}(h:Bars w B A bs)(hB:B<=B'):Bars w B' A bs:=fun hn=>by obtain⟨b,off,e,hb,hc⟩:=h hn;refine⟨b,off,e,by omega,fun k x hx=> ?_⟩;obtain⟨A1,c1,A2,c2,h1,h2,h3,h4,h5⟩:=hc k x hx;exact⟨A1,c1,A2,c2,h1,h2,h3.more hB,h4.more hB,h5⟩
theorem Bars.below{w w':World}{B:Nat}{A:Option Addr}{bs:List (List Int×List Int)}(h:Bars w B A bs)(hb:Below B w w'):Bars w' B A bs:=h.keep fun _ hp=>hb.cell hp
structure Task where
 period:Int
 deadline:Int
 parts:List (Int×Int×Int)
 edges:List (Int×Int)
 futures:List (Int×Int×Int)
 bars:List (List Int×List Int)
deriving DecidableEq
structure Sh where
 P:Option Addr
 np:Nat
 pc:Nat
 E:Option Addr
 ne:Nat
 ec:Nat
 F:Option Addr
 nf:Nat
 fc:Nat
 R:Option Addr
 nr:Nat
 rc:Nat
structure IsT(w:World)(B:Nat)(s:Sh)(T:Task):Prop where
 hp:T.parts.length=s.np
 he:T.edges.length=s.ne
 hf:T.futures.length=s.nf
 hr:T.bars.length=s.nr
 parts:Trips w B s.P T.parts
 edges:Pairs w B s.E T.edges
 futures:Trips w B s.F T.futures
 bars:Bars w B s.R T.bars
 nP:s.P=none->s.np=0/\s.pc=0
 nE:s.E=none->s.ne=0/\s.ec=0
 nF:s.F=none->s.nf=0/\s.fc=0
 nR:s.R=none->s.nr=0/\s.rc=0
theorem IsT.below{w w':World}{B:Nat}{s:Sh}{T:Task}(h:IsT w B s T)(hb:Below B w w'):IsT w' B s T:=
 ⟨h.hp,h.he,h.hf,h.hr,h.parts.below hb,h.edges.below hb,h.futures.below hb,h.bars.below hb,h.nP,h.nE,h.nF,h.nR⟩
theorem IsT.more{w:World}{B B':Nat}{s:Sh}{T:Task}(h:IsT w B s T)(hB:B<=B'):IsT w B' s T:=
 ⟨h.hp,h.he,h.hf,h.hr,h.parts.more hB,h.edges.more hB,h.futures.more hB,h.bars.more hB,h.nP,h.nE,h.nF,h.nR⟩
section
variable {P: Option Addr}{np pc: Nat}{E: Option Addr}{ne ec: Nat}{F: Option Addr}{nf fc: Nat}{R: Option Addr}{nr rc: Nat}{p q: Int}
end
def ZlJ(p:Int):Bool:=(Zo 40).any fun k=>p==((2^k:Nat):Int)
theorem isTwo_iff{p:Int}:ZlJ p=true↔ ∃k:Nat,k<40/\p=((2^k:Nat):Int):=by
 unfold ZlJ;rw[List.any_eq_true];constructor
 ·rintro ⟨k,hk,h⟩
  exact⟨k,ZD.mp hk,by simpa using h⟩
 ·rintro ⟨k,hk,h⟩
  exact⟨k,ZD.mpr hk,by simpa using h⟩
def Zjq(p q:Int):Bool:=ZlJ p&&decide (p<=4096)&&decide (1<=q)&&decide (q<=p)
section
variable {P: Option Addr}{np pc: Nat}{E: Option Addr}{ne ec: Nat}{F: Option Addr}{nf fc: Nat}{R: Option Addr}{nr rc: Nat}{p q: Int}
end
def ZcG(e:Int×Int×Int):Prop:=0<=e.1/\e.1<=5/\0<=e.2.1/\e.2.1<=2147483647/\1<=e.2.2/\e.2.2<=100
instance (e:Int×Int×Int):Decidable (ZcG e):=by unfold ZcG;infer_instance
def ZaM(es:List (Int×Int×Int)):Prop:=∀ e∈es,ZcG e
instance (es:List (Int×Int×Int)):Decidable (ZaM es):=by unfold ZaM;infer_instance
section
variable {P: Option Addr}{np pc: Nat}{E: Option Addr}{ne ec: Nat}{F: Option Addr}{nf fc: Nat}{R: Option Addr}{nr rc: Nat}{p q: Int}
structure BxD(w:World)(p q:Int)(P:Option Addr)(np pc:Nat)(E:Option Addr)(ne ec:Nat)(F:Option Addr)(nf fc:Nat)(R:Option Addr)(nr rc:Nat)(w':World):Prop where
 bel:Below w.heap.size w w'
 c0:w'.cell? ⟨w.heap.size,0,none⟩=some (.int .i64 p)
 c1:w'.cell? ⟨w.heap.size,1,none⟩=some (.int .i64 q)
 c2:w'.cell? ⟨w.heap.size,2,none⟩=some (.slice P np pc)
 c3:w'.cell? ⟨w.heap.size,3,none⟩=some (.slice E ne ec)
 c4:w'.cell? ⟨w.heap.size,4,none⟩=some (.slice F nf fc)
 c5:w'.cell? ⟨w.heap.size,5,none⟩=some (.slice R nr rc)
theorem BxD.next{w w1 w2:World}(h:BxD w p q P np pc E ne ec F nf fc R nr rc w1)(hb:Below w1.heap.size w1 w2):BxD w p q P np pc E ne ec F nf fc R nr rc w2:=by have hlt:w.heap.size<w1.heap.size:=World.block_lt_of_cell? _ _ h.c0;exact⟨h.bel.trans (hb.mono h.bel.size),(hb.cell hlt).trans h.c0,(hb.cell hlt).trans h.c1,(hb.cell hlt).trans h.c2,(hb.cell hlt).trans h.c3,(hb.cell hlt).trans h.c4,(hb.cell hlt).trans h.c5⟩
theorem BxD.start(w:World)(p q:Int)(P:Option Addr)(np pc:Nat)(E:Option Addr)(ne ec:Nat)(F:Option Addr)(nf fc:Nat)(R:Option Addr)(nr rc:Nat):
  BxD w p q P np pc E ne ec F nf fc R nr rc (w.alloc (.cells #[.int .i64 p,.int .i64 q,.slice P np pc,.slice E ne ec,.slice F nf fc,.slice R nr rc] 64)):=by
 refine⟨Zaa _,?_,?_,?_,?_,?_,?_⟩<;>(rw[World.cell?_alloc_at _ _ _ _ rfl];rfl)
theorem BxD.cells{w w':World}(h:BxD w p q P np pc E ne ec F nf fc R nr rc w'):w'.cell? ⟨w.heap.size,0,none⟩=some (.int .i64 p)/\w'.cell? ⟨w.heap.size,1,none⟩=some (.int .i64 q)/\w'.cell? ⟨w.heap.size,2,none⟩=some (.slice P np pc)/\
  w'.cell? ⟨w.heap.size,3,none⟩=some (.slice E ne ec)/\w'.cell? ⟨w.heap.size,4,none⟩=some (.slice F nf fc)/\w'.cell? ⟨w.heap.size,5,none⟩=some (.slice R nr rc):=⟨h.c0,h.c1,h.c2,h.c3,h.c4,h.c5⟩
end
structure Near(B:Nat)(w:World) where
 W:World
 h:Below B w W
instance (B:Nat) (w:World):Nonempty (Near B w):=⟨⟨w,Below.refl _ _⟩⟩
theorem ZbS{P:Program}(B:Nat){id:Nat}{Q:Exit->Act->World->Prop}{a:Act}{w:World}{l:List Oper}(hm:P.follows .mixedOrders=true)(hB:Region.lexB .any l.toArray=true)
  (_:B<=w.heap.size)
  (h:wpQuiet P l.toArray (fun W=>∃x:Near B w,W=x.W) (fun a'=>∀W,Below B w W->Q .normal a' W) l a):(Code.region id l.toArray true).wp P Q a w:=by
 refine wp_region_quiet (C:=fun W=>∃x:Near B w,W=x.W) hm hB ⟨⟨_,?_⟩,rfl⟩ ?_
 ·exact below_drewN (Below.refl B w) 1
 ·have e: (fun a' =>∀ W,Below B w W -> Q Exit.normal a' W) = (fun a' =>∀ W,(∃ x: Near B w,W = x.W) -> Q Exit.normal a' W):=by
   funext a'
   apply propext;constructor
   ·rintro k W ⟨x,rfl⟩
    exact k _ x.h
   ·intro k W hW
    exact k W ⟨⟨W,hW⟩,rfl⟩
  rw[e]at h;simpa using h
theorem ZmY{P:Program}{f:FuncId}{args:Array Value}{B:Nat}{w:World}{x:Near B w}{v:Value}
  (h:Calls P f args x.W fun e w'=>e=.returned v/\Below x.W.heap.size x.W w')(hb:B<=w.heap.size):Calls P f args x.W fun e w''=>e=.returned v/\∃y:Near B w,w''=y.W:=
 h.mono fun _ w' ⟨he,hm⟩=>⟨he,⟨w',x.h.trans (hm.mono (Nat.le_trans hb x.h.size))⟩,rfl⟩
theorem Zcg{P:Program}{f:FuncId}{args:Array Value}{B:Nat}{w:World}{x:Near B w}{v:Value}
  (h:Calls P f args x.W fun e w'=>e=.returned v/\x.W=w'):Calls P f args x.W fun e w''=>e=.returned v/\∃y:Near B w,w''=y.W:=
 h.mono fun _ _ ⟨he,hm⟩=>⟨he,x,hm.symm⟩
end Go.Proofs.YtfahabphncmbfaaGreatDoor
