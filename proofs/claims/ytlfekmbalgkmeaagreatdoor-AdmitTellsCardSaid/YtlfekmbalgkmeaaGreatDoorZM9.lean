import Derived.Test.YtlfekmbalgkmeaaGreatDoorZM8
set_option linter.unusedSimpArgs false
set_option linter.unnecessarySimpa false
set_option linter.unusedVariables false
set_option maxHeartbeats 4000000
namespace Go.Proofs.YtlfekmbalgkmeaaGreatDoor
open Go Go.RowKit
section
variable {P: Program} {ops: Array Oper} {Q: Exit -> Act -> World -> Prop}
def backB'(ops:Array Oper):Bool:=(List.range ops.size).all fun i=>match ops[i]? with
 |some o=>o.after.all fun e=> !(Region.binds .any e)||decide (e.on<i)
 |none=>true
theorem back_of'(h:backB' ops=true): ∀(i:Nat) (o:Oper),ops[i]? =some o-> ∀e∈o.after,Region.binds .any e=true->e.on<i:=by
 intro i o ho e he hb;have hi:i<ops.size:=(Array.getElem?_eq_some_iff.1 ho).1
 have h1:=List.all_eq_true.1 h i (List.mem_range.2 hi);rw[ho]at h1;have h2:=Array.all_eq_true'.1 h1 e he;rw[hb]at h2;exact of_decide_eq_true (by simpa using h2)
theorem all_listed'{listed:Array Bool}(hs:listed.size=ops.size)(hb: ∀(i:Nat) (o:Oper),ops[i]? =some o-> ∀e∈o.after,Region.binds .any e=true->e.on<i)(hr:Region.ready .any ops listed= []): ∀i,i<ops.size->listed.getD i false=true:=by
  intro i
  induction i using Nat.strongRecOn with
  | _ i ih =>
    intro hi;cases hl:listed.getD i false with
    |true=>rfl
    | false =>
      have hi2:i<listed.size:=by omega
      have h1:listed.getD i true=false:=by
        simp[hi2]at hl⊢;exact hl
      have h2:i∈Region.ready .any ops listed:=mem_ready.2 ⟨h1,ops[i],Array.getElem?_eq_getElem hi,fun e he hbd=>by
        have h3:=hb i _ (Array.getElem?_eq_getElem hi) e he hbd
        exact ih e.on h3 (by omega)⟩
      rw[hr]at h2;simp at h2
def storedB(ops:Array Oper)(p:Nat)(ds S:List Nat):Bool:=
 ops.size==ds.length&&decide (p<ds.length)&&(ops.toList.all fun o:Oper=>o.guard.isNone)&&backB' ops&&decide ds.Nodup&& !(S.contains p)&&
 ((List.range ds.length).all fun k=>(match ops[k]? with|some o=>if k=p then o.dst==none&&decide (1000<=ds.getD k 0)else o.dst==some (ds.getD k 0)&&decide (ds.getD k 0<1000)|none=>false))&&
 ((List.range ds.length).all fun k=>k==p||S.contains k||waitsB ops 12 p k)
structure Stored(ops:Array Oper)(p:Nat)(ds S:List Nat):Prop where
 size:ops.size=ds.length
 lt:p<ds.length
 guard: ∀(k:Nat) (o:Oper),ops[k]? =some o->o.guard=none
 back: ∀(i:Nat) (o:Oper),ops[i]? =some o-> ∀e∈o.after,Region.binds .any e=true->e.on<i
 nodup:ds.Nodup
 apart:p∉S
 dst: ∀(k:Nat) (o:Oper),k≠p->ops[k]? =some o->o.dst=some (ds.getD k 0)/\ds.getD k 0<1000
 none_: ∀(o:Oper),ops[p]? =some o->o.dst=none
 last: ∀k,k<ds.length->k≠p->k∉S->waitsB ops 12 p k=true
theorem stored_of{p:Nat}{ds S:List Nat}(h:storedB ops p ds S=true):Stored ops p ds S:=by
 unfold storedB at h;simp only[Bool.and_eq_true,beq_iff_eq,decide_eq_true_iff,Bool.not_eq_true']at h;obtain⟨⟨⟨⟨⟨⟨⟨h1,h2⟩,h3⟩,h4⟩,h5⟩,h6⟩,h7⟩,h8⟩:=h;have hk: ∀(k:Nat) (o:Oper),ops[k]? =some o->k<ds.length:=fun k o ho=>h1▸(Array.getElem?_eq_some_iff.1 ho).1
 refine⟨h1,h2,fun k o ho=> ?_,back_of' h4,h5,fun hm=> ?_,fun k o hkp ho=> ?_,fun o ho=> ?_,fun k hkl hkp hkS=> ?_⟩
 ·have:=List.all_eq_true.1 h3 o (by rw [Array.mem_toList_iff]; exact Array.mem_of_getElem? ho)
  exact Option.isNone_iff_eq_none.1 this
 ·rw [List.contains_iff_mem.mpr hm] at h6
  cases h6
 ·have:=List.all_eq_true.1 h7 k (List.mem_range.2 (hk k o ho))
  rw[ho]at this;simp only[if_neg hkp,Bool.and_eq_true,beq_iff_eq,decide_eq_true_iff]at this;exact this
 ·have:=List.all_eq_true.1 h7 p (List.mem_range.2 h2)
  rw[ho]at this;simp only[if_true,Bool.and_eq_true,beq_iff_eq,decide_eq_true_iff]at this;exact this.1
 ·have:=List.all_eq_true.1 h8 k (List.mem_range.2 hkl)
  simp only[Bool.or_eq_true,beq_iff_eq,List.contains_iff_mem]at this;rcases this with(h|h)|h
  ·exact absurd h hkp
  ·exact absurd h hkS
  ·exact h
theorem wp_region_stored(p:Nat)(ds S:List Nat){id:Nat}{a0:Act}{w0:World}(hm:P.follows .mixedOrders=true)(hG:storedB ops p ds S=true)(hsz: ∀d∈ds,d<a0.tmps.size\/1000<=d)
    (I:World->Prop) (Φ:Nat->Value->World->Prop) (Θ:(Nat->Value)->World->Prop)
    (hI: ∀w w',I w->Below w.heap.size w w'->I w') (hΦ: ∀k v w w',Φ k v w->Below w.heap.size w w'->Φ k v w')
    (h0:I {w0 with drawn:=w0.drawn+1})
    (hstep: ∀(k:Nat) (o:Oper),k≠p->k∉S->ops[k]? =some o-> ∀(a:Act) (w:World),I w->AtDoor a0 ds a.eval->(∀e∈o.after,Region.binds .any e=true->Φ e.on (a.eval (.tmp (ds.getD e.on 0))) w)->
      ∀K:Act->World->Prop,(∀v w',Φ k v w'->Below w.heap.size w w'->K (a.put o.dst v) w')->o.wp P a w K Q)
    (hpure: ∀(k:Nat) (o:Oper),k∈S->ops[k]? =some o-> ∀(ρ:Operand->Value) (w:World),AtDoor a0 ds ρ->(∀e∈o.after,Region.binds .any e=true->e.on≠p-> ∃w',Φ e.on (ρ (.tmp (ds.getD e.on 0))) w')->
      ∃v,(execOp ρ o).run P w= .ok (.value v) w/\ ∀w',Φ k v w')
    (hstore: ∀(o:Oper),ops[p]? =some o-> ∀(a:Act) (w:World),I w->AtDoor a0 ds a.eval->(∀k,k<ds.length->k≠p->k∉S->Φ k (a.eval (.tmp (ds.getD k 0))) w)->
      ∀K:Act->World->Prop,(∀w',Θ (fun t=>a.eval (.tmp t)) w'->K a w')->o.wp P a w K Q)
    (hΘ: ∀(f g:Nat->Value) w,(∀k,k<ds.length->k≠p->k∉S->f (ds.getD k 0)=g (ds.getD k 0))->Θ f w->Θ g w)
    (hend: ∀(vals:Nat->Value) (w:World),Θ vals w->(∀k,k<ds.length->k≠p-> ∃w',Φ k (vals (ds.getD k 0)) w')->Q .normal ⟨(fillA a0 ds vals).toArray,a0.defers⟩ w):
    (Code.region id ops true).wp P Q a0 w0:=by
  have G:=stored_of hG;refine wp_region_inv (fun l a w=>l.size=ds.length/\AtDoor a0 ds a.eval/\a.tmps.size=a0.tmps.size/\a.defers=a0.defers/\
    (∀(i:Nat) (o:Oper),l.getD i false=true->ops[i]? =some o-> ∀e∈o.after,Region.binds .any e=true->l.getD e.on false=true)/\
    ((l.getD p false = false /\ I w /\ ∀ k, k < ds.length -> k ≠ p -> l.getD k false = true -> Φ k (a.eval (.tmp (ds.getD k 0))) w) \/
     (l.getD p false=true/\Θ (fun t=>a.eval (.tmp t)) w/\ ∀k,k<ds.length->k≠p->l.getD k false=true-> ∃w',Φ k (a.eval (.tmp (ds.getD k 0))) w'))) hm ?_ ?_ ?_
  · have hno: ∀k,¬(Array.replicate ops.size false).getD k false=true:=fun k h=>by
      by_cases h2:k<ops.size<;>simp[h2]at h
    refine⟨by rw[Array.size_replicate];exact G.size,atDoor_start a0 ds,rfl,rfl,fun k o h=>absurd h (hno k), .inl ⟨?_,h0,fun k hk hkp h=>absurd h (hno k)⟩⟩
    cases h:(Array.replicate ops.size false).getD p false with
    |false=>rfl
    |true=>exact absurd h (hno p)
  · rintro l a w i ⟨hls,hAD,hasz,hadf,hcl,hV⟩ hi;obtain⟨hun,o,ho,hpre⟩:=mem_ready.1 hi;have hilt:i<ops.size:=(Array.getElem?_eq_some_iff.1 ho).1
    have hin:i<ds.length:=by rw[<-G.size];exact hilt
    have hil:i<l.size:=by omega
    have hun2:l.getD i false=false:=by
      cases h:l.getD i false with
      |false=>rfl
      |true=>simp[hil]at h hun;rw[h]at hun;cases hun
    have hcl2: ∀(k:Nat) (o':Oper),(l.setIfInBounds i true).getD k false=true->ops[k]? =some o'-> ∀e∈o'.after,Region.binds .any e=true->(l.setIfInBounds i true).getD e.on false=true:=fun k o' hk ho' e he hb=>by
      refine(getD_set_iff hil).mpr (.inr ?_)
      rcases listed_set hk with h|h
      · subst h;rw[ho]at ho';obtain rfl:=Option.some.inj ho';exact hpre e he hb
      · exact hcl k o' h ho' e he hb
    have hls2:(l.setIfInBounds i true).size=ds.length:=by rw[Array.size_setIfInBounds];exact hls
    refine wpOp_at ho (G.guard i o ho) ?_
    by_cases hip:i=p
    · subst hip;rcases hV with⟨hnl,hIw,hF⟩|⟨hnl,_⟩
      · have hall: ∀k,k<ds.length->k≠i->k∉S->l.getD k false=true:=fun k hk hkp hkS=>waits_done hcl 12 i k (G.last k hk hkp hkS) (fun o' ho' e he hb=>by
          rw[ho]at ho';obtain rfl:=Option.some.inj ho';exact hpre e he hb)
        refine hstore o ho a w hIw hAD (fun k hk hkp hkS=>hF k hk hkp (hall k hk hkp hkS)) _ fun w' hT=> ?_
        refine⟨hls2,hAD,hasz,hadf,hcl2, .inr ⟨(getD_set_iff hil).mpr (.inl rfl),hT,fun k hk hkp hkl=> ?_⟩⟩
        exact⟨w,hF k hk hkp ((listed_set hkl).resolve_left hkp)⟩
      · rw[hun2]at hnl;cases hnl
    · obtain⟨hd,hdl⟩:=G.dst i o hip ho;have hdm:=fds_mem hin;have hdz:ds.getD i 0<a.tmps.size:=by
        rcases hsz _ hdm with h|h
        · rw[hasz];exact h
        · omega
      have hpl: ∀b,l.getD p false=b->(l.setIfInBounds i true).getD p false=b:=fun b hb=>by
        cases h:(l.setIfInBounds i true).getD p false with
        | true =>
          rcases listed_set h with h2|h2
          · exact absurd h2.symm hip
          · rw[<-hb,h2]
        | false =>
          cases b with
          |false=>rfl
          | true =>
            have:=(getD_set_iff (k:=p) hil).mpr (.inr hb);rw[h]at this;cases this
      have hsz2: ∀v,(a.put (some (ds.getD i 0)) v).tmps.size=a0.tmps.size:=fun v=>by
        show(a.tmps.setIfInBounds _ _).size=_
        rw[Array.size_setIfInBounds];exact hasz
      rcases hV with⟨hnl,hIw,hF⟩|⟨hnl,hT,hF⟩
      · have hdep: ∀e∈o.after,Region.binds .any e=true->Φ e.on (a.eval (.tmp (ds.getD e.on 0))) w:=fun e he hb=>hF e.on (Nat.lt_trans (G.back i o ho e he hb) hin) (fun h=>by
          have:=hpre e he hb;rw[h,hnl]at this;cases this) (hpre e he hb)
        have hnext: ∀v w',Φ i v w'->Below w.heap.size w w'->(l.setIfInBounds i true).size=ds.length/\AtDoor a0 ds (a.put (some (ds.getD i 0)) v).eval/\(a.put (some (ds.getD i 0)) v).tmps.size=a0.tmps.size/\(a.put (some (ds.getD i 0)) v).defers=a0.defers/\
            (∀(k:Nat) (o':Oper),(l.setIfInBounds i true).getD k false=true->ops[k]? =some o'-> ∀e∈o'.after,Region.binds .any e=true->(l.setIfInBounds i true).getD e.on false=true)/\
            (((l.setIfInBounds i true).getD p false = false /\ I w' /\ ∀ k, k < ds.length -> k ≠ p -> (l.setIfInBounds i true).getD k false = true -> Φ k ((a.put (some (ds.getD i 0)) v).eval (.tmp (ds.getD k 0))) w') \/
             ((l.setIfInBounds i true).getD p false=true/\Θ (fun t=>(a.put (some (ds.getD i 0)) v).eval (.tmp t)) w'/\ ∀k,k<ds.length->k≠p->(l.setIfInBounds i true).getD k false=true-> ∃w'',Φ k ((a.put (some (ds.getD i 0)) v).eval (.tmp (ds.getD k 0))) w'')):=fun v w' hphi hb=>by
          refine⟨hls2,hAD.put hdm v,hsz2 v,hadf,hcl2, .inl ⟨hpl _ hnl,hI w w' hIw hb,fun k hk hkp hkl=> ?_⟩⟩
          by_cases hki:k=i
          · subst hki;rw[eval_put_same _ _ _ hdz];exact hphi
          · rw[eval_put_other _ _ _ _ (fun e=>hki (fds_inj G.nodup hk hin e))]
            exact hΦ k _ _ _ (hF k hk hkp ((listed_set hkl).resolve_left hki)) hb
        by_cases hiS:i∈S
        · obtain⟨v,hr,hphi⟩:=hpure i o hiS ho a.eval w hAD (fun e he hb _=>⟨w,hdep e he hb⟩)
          unfold Oper.wp;rw[hr,Oper.upon_value,hd];exact hnext v w (hphi w) (Below.refl _ _)
        · refine hstep i o hip hiS ho a w hIw hAD hdep _ fun v w' hphi hb=> ?_
          rw[hd];exact hnext v w' hphi hb
      · have hall: ∀k,k<ds.length->k≠p->k∉S->l.getD k false=true:=fun k hk hkp hkS=>by
          obtain⟨op,hop⟩: ∃op,ops[p]? =some op:=⟨_,Array.getElem?_eq_getElem (by rw[G.size];exact G.lt)⟩
          exact waits_done hcl 12 p k (G.last k hk hkp hkS) (fun o' ho' e he hb=>hcl p o' hnl ho' e he hb)
        have hiS:i∈S:=Classical.byContradiction fun h=>by
          have:=hall i hin hip h;rw[hun2]at this;cases this
        obtain⟨v,hr,hphi⟩:=hpure i o hiS ho a.eval w hAD (fun e he hb hep=>by
          have he2:=hpre e he hb;have hlt:=Nat.lt_trans (G.back i o ho e he hb) hin;exact hF e.on hlt hep he2)
        unfold Oper.wp;rw[hr,Oper.upon_value,hd];refine⟨hls2,hAD.put hdm v,hsz2 v,hadf,hcl2, .inr ⟨hpl _ hnl,?_,fun k hk hkp hkl=> ?_⟩⟩
        · refine hΘ _ _ w (fun k hk hkp hkS=> ?_) hT
          exact(eval_put_other _ _ _ _ (fun e=>hkS (by rw[fds_inj G.nodup hk hin e];exact hiS))).symm
        · by_cases hki:k=i
          · subst hki;rw[eval_put_same _ _ _ hdz];exact⟨w,hphi w⟩
          · rw[eval_put_other _ _ _ _ (fun e=>hki (fds_inj G.nodup hk hin e))]
            exact hF k hk hkp ((listed_set hkl).resolve_left hki)
  · rintro l a w ⟨hls,hAD,hasz,hadf,hcl,hV⟩ hr;have hall:=all_listed' (by rw[hls,G.size]) G.back hr
    have hp:=hall p (by rw[G.size];exact G.lt)
    rcases hV with⟨hnl,_⟩|⟨_,hT,hF⟩
    · rw[hp]at hnl;cases hnl
    · rw[act_fill hAD hasz hadf];exact hend (fun t=>a.eval (.tmp t)) w hT fun k hk hkp=>hF k hk hkp (hall k (by rw[G.size];exact hk))
end
section
variable {P: Program} {ops: Array Oper} {Q: Exit -> Act -> World -> Prop}
def tailB(ops:Array Oper)(m:Nat)(ds F:List Nat):Bool:=
 ops.size==ds.length&&decide (m<=ds.length)&&(ops.toList.all fun o:Oper=>o.guard.isNone)&&backB' ops&&decide ds.Nodup&&(F.all fun f=>decide (f<m))&&
 ((List.range ds.length).all fun k=>(match ops[k]? with|some o=>if ds.getD k 0<1000 then o.dst==some (ds.getD k 0)else o.dst==none&&decide (m<=k)|none=>false))&&
 ((List.range ds.length).all fun t=>decide (t<m)||(List.range t).all fun k=>F.contains k||waitsB ops 12 t k)
structure Tail(ops:Array Oper)(m:Nat)(ds F:List Nat):Prop where
 size:ops.size=ds.length
 le:m<=ds.length
 guard: ∀(k:Nat) (o:Oper),ops[k]? =some o->o.guard=none
 back: ∀(i:Nat) (o:Oper),ops[i]? =some o-> ∀e∈o.after,Region.binds .any e=true->e.on<i
 nodup:ds.Nodup
 loose: ∀f∈F,f<m
 dst: ∀(k:Nat) (o:Oper),ops[k]? =some o->(ds.getD k 0<1000/\o.dst=some (ds.getD k 0))\/(1000<=ds.getD k 0/\o.dst=none/\m<=k)
 last: ∀t k,t<ds.length->m<=t->k<t->k∉F->waitsB ops 12 t k=true
theorem tail_of{m:Nat}{ds F:List Nat}(h:tailB ops m ds F=true):Tail ops m ds F:=by
 unfold tailB at h;simp only[Bool.and_eq_true,beq_iff_eq,decide_eq_true_iff]at h;obtain⟨⟨⟨⟨⟨⟨⟨h1,h2⟩,h3⟩,h4⟩,h5⟩,h6⟩,h7⟩,h8⟩:=h;have hk: ∀(k:Nat) (o:Oper),ops[k]? =some o->k<ds.length:=fun k o ho=>h1▸(Array.getElem?_eq_some_iff.1 ho).1
 refine⟨h1,h2,fun k o ho=> ?_,back_of' h4,h5,fun f hf=>by simpa using List.all_eq_true.1 h6 f hf,fun k o ho=> ?_,fun t k ht hmt hkt hkF=> ?_⟩
 ·have:=List.all_eq_true.1 h3 o (by rw [Array.mem_toList_iff]; exact Array.mem_of_getElem? ho)
  simpa using this
 ·have:=List.all_eq_true.1 h7 k (List.mem_range.2 (hk k o ho))
  rw[ho]at this
  by_cases hd:ds.getD k 0<1000
  ·simp only [if_pos hd,beq_iff_eq] at this
   exact .inl ⟨hd,this⟩
  ·simp only [if_neg hd,Bool.and_eq_true,beq_iff_eq,decide_eq_true_iff] at this
   exact .inr ⟨by omega,this.1,this.2⟩
 ·have:=List.all_eq_true.1 h8 t (List.mem_range.2 ht)
  rw[decide_eq_false (show¬t<m by omega),Bool.false_or]at this
  have h9:=List.all_eq_true.1 this k (List.mem_range.2 hkt);rw[Bool.or_eq_true]at h9;rcases h9 with h9|h9
  ·exact absurd (by simpa using h9) hkF
  ·exact h9
theorem wp_region_tail(m:Nat)(ds F:List Nat){id:Nat}{a0:Act}{w0:World}(hm:P.follows .mixedOrders=true)(hG:tailB ops m ds F=true)(hsz: ∀d∈ds,d<a0.tmps.size\/1000<=d)
    (I:World->Prop) (Φ:Nat->Value->World->Prop) (Ψ:Nat->Value->Prop) (Θ:Nat->(Nat->Value)->World->Prop)
    (hI: ∀w w',I w->Below w.heap.size w w'->I w') (hΦ: ∀k v w w',Φ k v w->Below w.heap.size w w'->Φ k v w')
    (h0:I {w0 with drawn:=w0.drawn+1})
    (hstep: ∀(k:Nat) (o:Oper),k<m->k∉F->ops[k]? =some o-> ∀(a:Act) (w:World),I w->AtDoor a0 (ds.take m) a.eval->(∀e∈o.after,Region.binds .any e=true->e.on∉F->Φ e.on (a.eval (.tmp (ds.getD e.on 0))) w)->
      ∀K:Act->World->Prop,(∀v w',Φ k v w'->Below w.heap.size w w'->K (a.put o.dst v) w')->o.wp P a w K Q)
    (hloose: ∀(k:Nat) (o:Oper),k∈F->ops[k]? =some o-> ∀(ρ:Operand->Value) (w:World),AtDoor a0 ds ρ->(∀e∈o.after,Region.binds .any e=true->e.on∉F-> ∃w1,Φ e.on (ρ (.tmp (ds.getD e.on 0))) w1)-> ∃v,(execOp ρ o).run P w= .ok (.value v) w/\Ψ k v)
    (hmid: ∀(vals:Nat->Value) (w:World),I w->(∀k,k<m->k∉F->Φ k (vals (ds.getD k 0)) w)->Θ m vals w)
    (htail: ∀(t:Nat) (o:Oper),m<=t->ops[t]? =some o-> ∀(a:Act) (w:World),AtDoor a0 ds a.eval->Θ t (fun x=>a.eval (.tmp x)) w->(∀e∈o.after,Region.binds .any e=true->e.on∈F->Ψ e.on (a.eval (.tmp (ds.getD e.on 0))))->
      ∀K:Act->World->Prop,(∀v w',Θ (t+1) (fun x=>if o.dst=some x then v else a.eval (.tmp x)) w'->K (a.put o.dst v) w')->o.wp P a w K Q)
    (hΘ: ∀(t:Nat) (f g:Nat->Value) (w:World),(∀k,k<t->k∉F->f (ds.getD k 0)=g (ds.getD k 0))->Θ t f w->Θ t g w)
    (hend: ∀(vals:Nat->Value) (w:World),Θ ds.length vals w->Q .normal ⟨(fillA a0 ds vals).toArray,a0.defers⟩ w):
    (Code.region id ops true).wp P Q a0 w0:=by
  have G:=tail_of hG;refine wp_region_inv (fun l a w=>l.size=ds.length/\AtDoor a0 ds a.eval/\a.tmps.size=a0.tmps.size/\a.defers=a0.defers/\
    (∀(i:Nat) (o:Oper),l.getD i false=true->ops[i]? =some o-> ∀e∈o.after,Region.binds .any e=true->l.getD e.on false=true)/\
    (∀k,k∈F->l.getD k false=true->Ψ k (a.eval (.tmp (ds.getD k 0))))/\
    (∀k,k<m->k∉F->l.getD k false=true-> ∃w1,Φ k (a.eval (.tmp (ds.getD k 0))) w1)/\
    (((∀ t, m <= t -> l.getD t false = false) /\ AtDoor a0 (ds.take m) a.eval /\ I w /\ ∀ k, k < m -> k ∉ F -> l.getD k false = true -> Φ k (a.eval (.tmp (ds.getD k 0))) w) \/
     (∃t,m<t/\t<=ds.length/\(∀j,t<=j->l.getD j false=false)/\(∀j,m<=j->j<t->l.getD j false=true)/\Θ t (fun x=>a.eval (.tmp x)) w))) hm ?_ ?_ ?_
  · have hno: ∀k,(Array.replicate ops.size false).getD k false=false:=fun k=>by
      by_cases h2:k<ops.size<;>simp[h2]
    exact⟨by rw[Array.size_replicate];exact G.size,atDoor_start a0 ds,rfl,rfl,fun k o h=>absurd h (by rw[hno];decide),fun k _ h=>absurd h (by rw[hno];decide),fun k _ _ h=>absurd h (by rw[hno];decide), .inl ⟨fun t _=>hno t,atDoor_start a0 _,h0,fun k _ _ h=>absurd h (by rw[hno];decide)⟩⟩
  · rintro l a w i ⟨hls,hAD,hasz,hadf,hcl,hFl,hPl,hV⟩ hi;obtain⟨hun,o,ho,hpre⟩:=mem_ready.1 hi;have hilt:i<ops.size:=(Array.getElem?_eq_some_iff.1 ho).1
    have hin:i<ds.length:=by rw[<-G.size];exact hilt
    have hil:i<l.size:=by omega
    have hun2:l.getD i false=false:=by
      cases h:l.getD i false with
      |false=>rfl
      |true=>simp[hil]at h hun;rw[h]at hun;cases hun
    have hcl2: ∀(k:Nat) (o':Oper),(l.setIfInBounds i true).getD k false=true->ops[k]? =some o'-> ∀e∈o'.after,Region.binds .any e=true->(l.setIfInBounds i true).getD e.on false=true:=fun k o' hk ho' e he hb=>by
      refine(getD_set_iff hil).mpr (.inr ?_)
      rcases listed_set hk with h|h
      · subst h;rw[ho]at ho';obtain rfl:=Option.some.inj ho';exact hpre e he hb
      · exact hcl k o' h ho' e he hb
    have hls2:(l.setIfInBounds i true).size=ds.length:=by rw[Array.size_setIfInBounds];exact hls
    have hsame: ∀v,(ds.getD i 0<1000/\o.dst=some (ds.getD i 0))->(a.put o.dst v).eval (.tmp (ds.getD i 0))=v:=fun v hd=>by
      rw[hd.2,eval_put_same _ _ _ (by rw[hasz];exact(hsz _ (fds_mem hin)).resolve_right (by omega))]
    have hother: ∀v k,k<ds.length->k≠i->(a.put o.dst v).eval (.tmp (ds.getD k 0))=a.eval (.tmp (ds.getD k 0)):=fun v k hk hki=>by
      rcases G.dst i o ho with hd|hd
      · rw[hd.2,eval_put_other _ _ _ _ (fun e=>hki (fds_inj G.nodup hk hin e))]
      · rw[hd.2.1];rfl
    have hADp: ∀v,AtDoor a0 ds (a.put o.dst v).eval:=fun v=>by
      rcases G.dst i o ho with hd|hd
      · rw[hd.2];exact hAD.put (fds_mem hin) v
      · rw[hd.2.1];exact hAD
    have hszp: ∀v,(a.put o.dst v).tmps.size=a0.tmps.size:=fun v=>by
      rcases G.dst i o ho with hd|hd
      · rw[hd.2];show(a.tmps.setIfInBounds _ _).size=_
        rw[Array.size_setIfInBounds];exact hasz
      · rw[hd.2.1];exact hasz
    have hdfp: ∀v,(a.put o.dst v).defers=a0.defers:=fun v=>by
      rcases G.dst i o ho with hd|hd
      · rw[hd.2];exact hadf
      · rw[hd.2.1];exact hadf
    refine wpOp_at ho (G.guard i o ho) ?_
    have hset: ∀k,k≠i->(l.setIfInBounds i true).getD k false=l.getD k false:=fun k hk=>by
      cases h:l.getD k false with
      |true=>exact(getD_set_iff hil).mpr (.inr h)
      | false =>
        cases h2:(l.setIfInBounds i true).getD k false with
        |false=>rfl
        |true=>rw[(listed_set h2).resolve_left hk]at h;cases h
    have hseti:(l.setIfInBounds i true).getD i false=true:=(getD_set_iff hil).mpr (.inl rfl);have hmt:i<m->ds.getD i 0∈ds.take m:=fun h=>by
      rw[List.getD_eq_getElem?_getD,List.getElem?_eq_getElem hin]
      exact List.mem_take_iff_getElem.mpr ⟨i,by omega,rfl⟩
    by_cases hiF:i∈F
    · have him:=G.loose i hiF;obtain⟨v,hr,hv⟩:=hloose i o hiF ho a.eval w hAD (fun e he hb heF=>hPl e.on (Nat.lt_trans (G.back i o ho e he hb) him) heF (hpre e he hb))
      have hdi:=(G.dst i o ho).resolve_right (by omega)
      have hgo: ∀(X:Prop),((l.setIfInBounds i true).size=ds.length/\AtDoor a0 ds (a.put o.dst v).eval/\(a.put o.dst v).tmps.size=a0.tmps.size/\(a.put o.dst v).defers=a0.defers/\
        (∀(i_1:Nat) (o:Oper),(l.setIfInBounds i true).getD i_1 false=true->ops[i_1]? =some o-> ∀e∈o.after,Region.binds .any e=true->(l.setIfInBounds i true).getD e.on false=true)/\
        (∀k,k∈F->(l.setIfInBounds i true).getD k false=true->Ψ k ((a.put o.dst v).eval (.tmp (ds.getD k 0))))/\(∀k,k<m->k∉F->(l.setIfInBounds i true).getD k false=true-> ∃w1,Φ k ((a.put o.dst v).eval (.tmp (ds.getD k 0))) w1)/\X)↔X:=fun X=>by
        refine⟨fun h=>h.2.2.2.2.2.2.2,fun h=>⟨hls2,hADp v,hszp v,hdfp v,hcl2,fun k hk hkl=> ?_,fun k hk hkF hkl=> ?_,h⟩⟩
        rotate_left
        · have hki:k≠i:=fun e=>hkF (e▸hiF)
          rw[hother v k (by have:=G.le;omega) hki]
          exact hPl k hk hkF ((listed_set hkl).resolve_left hki)
        by_cases hki:k=i
        · subst hki;rw[hsame v hdi];exact hv
        · rw[hother v k (Nat.lt_of_lt_of_le (G.loose k hk) G.le) hki];exact hFl k hk ((listed_set hkl).resolve_left hki)
      unfold Oper.wp;rw[hr,Oper.upon_value];refine(hgo _).mpr ?_
      rcases hV with⟨hno,hAT,hIw,hF⟩|⟨t,ht1,ht2,hno,hyes,hT⟩
      · refine .inl ⟨fun t ht=>by rw[hset t (by omega)];exact hno t ht,by rw[hdi.2];exact hAT.put (hmt him) v,hIw,fun k hk hkF hkl=> ?_⟩
        have hki:k≠i:=fun e=>hkF (e▸hiF)
        rw[hother v k (by have:=G.le;omega) hki]
        exact hF k hk hkF ((listed_set hkl).resolve_left hki)
      · refine .inr ⟨t,ht1,ht2,fun j hj=>by rw[hset j (by omega)];exact hno j hj,fun j h1 h2=>by rw[hset j (by omega)];exact hyes j h1 h2,hΘ t _ _ w (fun k hk hkF=> ?_) hT⟩
        exact(hother v k (by omega) (fun e=>hkF (e▸hiF))).symm
    by_cases him:i<m
    · -- ahead of the tail
      rcases hV with⟨hno,hAT,hIw,hF⟩|⟨t,ht1,ht2,hno,hyes,hT⟩
      · refine hstep i o him hiF ho a w hIw hAT (fun e he hb heF=>hF e.on (Nat.lt_trans (G.back i o ho e he hb) him) heF (hpre e he hb)) _ fun v w' hphi hb=> ?_
        have hdi:=(G.dst i o ho).resolve_right (by omega)
        refine⟨hls2,hADp v,hszp v,hdfp v,hcl2,fun k hk hkl=> ?_,fun k hk hkF hkl=> ?_, .inl ⟨fun t ht=>by rw[hset t (by omega)];exact hno t ht,by rw[hdi.2];exact hAT.put (hmt him) v,hI _ _ hIw hb,fun k hk hkF hkl=> ?_⟩⟩
        · have hki:k≠i:=fun e=>hiF (e▸hk)
          rw[hother v k (Nat.lt_of_lt_of_le (G.loose k hk) G.le) hki];exact hFl k hk ((listed_set hkl).resolve_left hki)
        · by_cases hki:k=i
          · subst hki;rw[hsame v hdi];exact⟨_,hphi⟩
          · rw[hother v k (by have:=G.le;omega) hki]
            exact hPl k hk hkF ((listed_set hkl).resolve_left hki)
        · by_cases hki:k=i
          · subst hki;rw[hsame v hdi];exact hphi
          · rw[hother v k (by have:=G.le;omega) hki]
            exact hΦ k _ _ _ (hF k hk hkF ((listed_set hkl).resolve_left hki)) hb
      · exfalso
        have h1:=hyes m (Nat.le_refl _) ht1;have h2:=waits_done hcl 12 m i (G.last m i (by omega) (Nat.le_refl _) him hiF) (fun o' ho' e he hb=>hcl m o' h1 ho' e he hb)
        rw[hun2]at h2;cases h2
    · -- in the tail
      have hall: ∀k,k<i->k∉F->l.getD k false=true:=fun k hk hkF=>waits_done hcl 12 i k (G.last i k hin (by omega) hk hkF) (fun o' ho' e he hb=>by
        rw[ho]at ho';obtain rfl:=Option.some.inj ho';exact hpre e he hb)
      have hTi:Θ i (fun x=>a.eval (.tmp x)) w/\(∀j,i<=j->l.getD j false=false)/\(∀j,m<=j->j<i->l.getD j false=true):=by
        rcases hV with⟨hno,hAT,hIw,hF⟩|⟨t,ht1,ht2,hno,hyes,hT⟩
        · obtain rfl:i=m:=by
            rcases Nat.lt_or_ge m i with h|h
            · have h3:=hall m h (fun q=>by have:=G.loose m q;omega)
              rw[hno m (Nat.le_refl _)]at h3;cases h3
            · omega
          exact⟨hmid _ w hIw fun k hk hkF=>hF k hk hkF (hall k hk hkF),fun j hj=>hno j hj,fun j h1 h2=>by omega⟩
        · obtain rfl:i=t:=by
            rcases Nat.lt_trichotomy i t with h|h|h
            · have:=hyes i (by omega) h
              rw[hun2]at this;cases this
            · exact h
            · have h3:=hall t h (fun q=>by have:=G.loose t q;omega)
              rw[hno t (Nat.le_refl _)]at h3;cases h3
          exact⟨hT,hno,hyes⟩
      obtain⟨hT,hno,hyes⟩:=hTi;refine htail i o (by omega) ho a w hAD hT (fun e he hb heF=>hFl e.on heF (hpre e he hb)) _ fun v w' hT'=> ?_
      refine⟨hls2,hADp v,hszp v,hdfp v,hcl2,fun k hk hkl=> ?_,fun k hk hkF hkl=> ?_, .inr ⟨i+1,by omega,by omega,fun j hj=>by rw[hset j (by omega)];exact hno j (by omega),fun j h1 h2=> ?_,hΘ _ _ _ w' (fun k hk hkF=> ?_) hT'⟩⟩
      · have hki:k≠i:=fun e=>hiF (e▸hk)
        rw[hother v k (Nat.lt_of_lt_of_le (G.loose k hk) G.le) hki];exact hFl k hk ((listed_set hkl).resolve_left hki)
      · have hki:k≠i:=by omega
        rw[hother v k (by have:=G.le;omega) hki]
        exact hPl k hk hkF ((listed_set hkl).resolve_left hki)
      · by_cases hji:j=i
        · subst hji;exact hseti
        · rw[hset j hji];exact hyes j h1 (by omega)
      · by_cases hki:k=i
        · subst hki;rcases G.dst k o ho with hd|hd
          · rw[hd.2]at hsame⊢;simp only[if_true];exact(hsame v ⟨hd.1,rfl⟩).symm
          · rw[hd.2.1];rfl
        · rw[hother v k (by omega) hki]
          rcases G.dst i o ho with hd|hd
          · rw[hd.2];simp only[Option.some.injEq];rw[if_neg (fun e=>hki (fds_inj G.nodup (by omega) hin e.symm))]
          · rw[hd.2.1];rfl
  · rintro l a w ⟨hls,hAD,hasz,hadf,hcl,hFl,hPl,hV⟩ hr;have hall:=all_listed' (by rw[hls,G.size]) G.back hr
    rw[act_fill hAD hasz hadf];rcases hV with⟨hno,hAT,hIw,hF⟩|⟨t,ht1,ht2,hno,hyes,hT⟩
    · have hml:m=ds.length:=by
        rcases Nat.lt_or_ge m ds.length with h|h
        · have h3:=hall m (by rw[G.size];exact h)
          rw[hno m (Nat.le_refl _)]at h3;cases h3
        · have:=G.le;omega
      have h4:=hmid (fun t=>a.eval (.tmp t)) w hIw fun k hk hkF=>hF k hk hkF (hall k (by rw[G.size];omega))
      rw[hml]at h4;exact hend _ w h4
    · obtain rfl:t=ds.length:=by
        rcases Nat.lt_or_ge t ds.length with h|h
        · have h3:=hall t (by rw[G.size];exact h)
          rw[hno t (Nat.le_refl _)]at h3;cases h3
        · omega
      exact hend _ w hT
end
section
variable {P: Program} {Q: Exit -> Act -> World -> Prop}
theorem fx_make{o:Oper}{a:Act}{w:World}{k:Nat}{Φ:Nat->Value->World->Prop}{K:Act->World->Prop}(hK: ∀v w',Φ k v w'->Below w.heap.size w w'->K (a.put o.dst v) w'){ρ:Operand->Value}(hρ:a.eval=ρ)(v:Value)(w':World)(hr:(execOp ρ o).run P w= .ok (.value v) w')(hv:Φ k v w')(hb:Below w.heap.size w w'):o.wp P a w K Q:=by
 subst hρ;unfold Oper.wp;rw[hr,Oper.upon_value];exact hK v w' hv hb
end
end Go.Proofs.YtlfekmbalgkmeaaGreatDoor
