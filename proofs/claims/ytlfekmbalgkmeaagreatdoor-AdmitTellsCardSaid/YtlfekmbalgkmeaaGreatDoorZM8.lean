import Derived.Test.YtlfekmbalgkmeaaGreatDoorZM7
import Derived.Below
import Derived.Laws.AppendOwn
import Derived.Test.YtlfekmbalgkmeaaGreatDoorChecked
set_option linter.unusedSimpArgs false
set_option linter.unnecessarySimpa false
set_option linter.unusedVariables false
set_option maxHeartbeats 1000000
namespace Go.Proofs.YtlfekmbalgkmeaaGreatDoor
open Go Go.RowKit
section
variable {P: Program} {ops: Array Oper} {Q: Exit -> Act -> World -> Prop}
structure AtDoor(a0:Act)(ds:List Nat)(ρ:Operand->Value):Prop where
 const: ∀v,ρ (.const v)=v
 tmp: ∀t,t∉ds->ρ (.tmp t)=a0.eval (.tmp t)
theorem atDoor_start(a0:Act)(ds:List Nat):AtDoor a0 ds a0.eval:=⟨fun _=>rfl,fun _ _=>rfl⟩
theorem eval_put_same(a:Act)(d:Nat)(v:Value)(h:d<a.tmps.size):(a.put (some d) v).eval (.tmp d)=v:=by
 show(a.tmps.setIfInBounds d v).getD d undef=v
 simp[h]
theorem eval_put_other(a:Act)(d t:Nat)(v:Value)(h:t≠d):(a.put (some d) v).eval (.tmp t)=a.eval (.tmp t):=by
 show(a.tmps.setIfInBounds d v).getD t undef=a.tmps.getD t undef
 simp[Array.getElem?_setIfInBounds_ne (Ne.symm h)]
theorem AtDoor.put{a0 a:Act}{ds:List Nat}(h:AtDoor a0 ds a.eval){d:Nat}(hd:d∈ds)(v:Value):AtDoor a0 ds (a.put (some d) v).eval:=
 ⟨fun _=>rfl,fun t ht=>(eval_put_other a d t v (fun e=>ht (e▸hd))).trans (h.tmp t ht)⟩
def gatherB(ops:Array Oper)(n:Nat)(ds:List Nat):Bool:=
 ops.size==n+1&&ds.length==n&&(ops.toList.all fun o:Oper=>o.guard.isNone)&&backB ops&&decide ds.Nodup&&
 ((List.range n).all fun k=>(match ops[k]? with|some o=>o.dst==some (ds.getD k 0)|none=>false))&&
 (match ops[n]? with|some o=>(List.range n).all fun k=>o.after.any fun e=>e.on==k&&Region.binds .any e|none=>false)
structure Gather(ops:Array Oper)(n:Nat)(ds:List Nat):Prop where
 size:ops.size=n+1
 len:ds.length=n
 guard: ∀(k:Nat) (o:Oper),ops[k]? =some o->o.guard=none
 back: ∀(i:Nat) (o:Oper),ops[i]? =some o-> ∀e∈o.after,e.on<i
 nodup:ds.Nodup
 dst: ∀(k:Nat) (o:Oper),k<n->ops[k]? =some o->o.dst=some (ds.getD k 0)
 last: ∀(o:Oper),ops[n]? =some o-> ∀k,k<n-> ∃e∈o.after,e.on=k/\Region.binds .any e=true
theorem gather_of{n:Nat}{ds:List Nat}(h:gatherB ops n ds=true):Gather ops n ds:=by
 unfold gatherB at h;simp only[Bool.and_eq_true,beq_iff_eq,decide_eq_true_iff]at h;obtain⟨⟨⟨⟨⟨⟨h1,h2⟩,h3⟩,h4⟩,h5⟩,h6⟩,h7⟩:=h;refine⟨h1,h2,fun k o ho=> ?_,back_of h4,h5,fun k o hk ho=> ?_,fun o ho k hk=> ?_⟩
 ·have:=List.all_eq_true.1 h3 o (by rw [Array.mem_toList_iff]; exact Array.mem_of_getElem? ho)
  exact Option.isNone_iff_eq_none.1 this
 ·have:=List.all_eq_true.1 h6 k (List.mem_range.2 hk)
  rw[ho]at this
  simpa using this
 ·rw [ho] at h7
  have:=List.all_eq_true.1 h7 k (List.mem_range.2 hk);obtain⟨e,he,h8⟩:=Array.any_eq_true'.1 this;rw[Bool.and_eq_true,beq_iff_eq]at h8;exact⟨e,he,h8.1,h8.2⟩
theorem ds_mem{n:Nat}{ds:List Nat}(h:Gather ops n ds){k:Nat}(hk:k<n):ds.getD k 0∈ds:=by
 have hl:k<ds.length:=by rw[h.len];exact hk
 rw[List.getD_eq_getElem?_getD,List.getElem?_eq_getElem hl]
 exact List.getElem_mem hl
theorem ds_inj{n:Nat}{ds:List Nat}(h:Gather ops n ds){k j:Nat}(hk:k<n)(hj:j<n)(e:ds.getD k 0=ds.getD j 0):k=j:=by
 have hl:k<ds.length:=by rw[h.len];exact hk
 have hl2:j<ds.length:=by rw[h.len];exact hj
 rw[List.getD_eq_getElem?_getD,List.getElem?_eq_getElem hl,List.getD_eq_getElem?_getD,List.getElem?_eq_getElem hl2]at e
 exact(List.getElem_inj h.nodup).mp e
theorem getD_set_iff{l:Array Bool}{i k:Nat}(hi:i<l.size):(l.setIfInBounds i true).getD k false=true↔k=i\/l.getD k false=true:=by
 constructor
 ·exact listed_set
 ·rintro (rfl | h)
  ·simp[hi]
  ·by_cases hik: i = k
   ·subst hik;simp[hi]
   ·simpa[Array.getElem?_setIfInBounds_ne hik]using h
theorem wp_region_gather(n m:Nat)(ds:List Nat){id:Nat}{a0:Act}{w0:World}(hm:P.follows .mixedOrders=true)(hG:gatherB ops n ds=true)(hsz: ∀d∈ds,d<a0.tmps.size)
    (I J:World->Prop) (R:World->World->Prop) (Φ:Nat->Value->World->Prop)
    (hBR: ∀w w',Below w.heap.size w w'->R w w') (hI: ∀w w',I w->R w w'->I w') (hJ: ∀w w',J w->Below w.heap.size w w'->J w')
    (hΦ: ∀k v w w',k≠m->Φ k v w->R w w'->Φ k v w') (hΦm: ∀v w w',Φ m v w->Below w.heap.size w w'->Φ m v w')
    (h0:I {w0 with drawn:=w0.drawn+1}) (h1:J {w0 with drawn:=w0.drawn+1})
    (hstep: ∀(k:Nat) (o:Oper),k<n->ops[k]? =some o-> ∀(ρ:Operand->Value) (w:World),I w->AtDoor a0 ds ρ->(∀e∈o.after,Region.binds .any e=true->Φ e.on (ρ (.tmp (ds.getD e.on 0))) w)->(k=m->J w)->
      ∃v w',(execOp ρ o).run P w= .ok (.value v) w'/\Φ k v w'/\(if k=m then R w w' else Below w.heap.size w w'))
    (hlast: ∀(o:Oper),ops[n]? =some o-> ∀(a:Act) (w:World),I w->AtDoor a0 ds a.eval->a.tmps.size=a0.tmps.size->a.defers=a0.defers->(∀k,k<n->Φ k (a.eval (.tmp (ds.getD k 0))) w)->
      o.wp P a w (fun a' w'=>Q .normal a' w') Q):
    (Code.region id ops true).wp P Q a0 w0:=by
  have G:=gather_of hG;refine wp_region_inv (fun l a w=>l.size=n+1/\((l.getD n false=false/\I w/\AtDoor a0 ds a.eval/\a.tmps.size=a0.tmps.size/\a.defers=a0.defers/\(∀k,k<n->l.getD k false=true->Φ k (a.eval (.tmp (ds.getD k 0))) w)/\(l.getD m false=false->J w))\/((∀k,k<=n->l.getD k false=true)/\Q .normal a w))) hm ?_ ?_ ?_
  · refine⟨by rw[Array.size_replicate];exact G.size, .inl ⟨?_,h0,atDoor_start a0 ds,rfl,rfl,fun k hk h=> ?_,fun _=>h1⟩⟩
    · by_cases h:n<ops.size<;>simp[h]
    · exfalso
      by_cases h2:k<ops.size<;>simp[h2]at h
  · rintro l a w i ⟨hls,hV⟩ hi;obtain⟨hun,o,ho,hpre⟩:=mem_ready.1 hi;have hilt:i<ops.size:=(Array.getElem?_eq_some_iff.1 ho).1
    have hil:i<l.size:=by rw[hls,<-G.size];exact hilt
    rcases hV with⟨hnl,hIw,hAD,hasz,hadf,hF,hJw⟩|⟨hall,_⟩
    · rcases Nat.lt_or_ge i n with hin|hin
      · obtain⟨v,w',hrun,hphi,hrel⟩:=hstep i o hin ho a.eval w hIw hAD (fun e he hb=>hF e.on (Nat.lt_trans (G.back i o ho e he) hin) (hpre e he hb)) (fun e=>hJw (by
          rw[<-e];cases h:l.getD i false with
          |false=>rfl
          |true=>simp[hil]at h hun;rw[h]at hun;cases hun))
        have hR:R w w':=by
          split at hrel
          · exact hrel
          · exact hBR w w' hrel
        refine wpOp_at ho (G.guard i o ho) ?_
        unfold Oper.wp;rw[hrun,Oper.upon_value,G.dst i o hin ho];refine⟨by rw[Array.size_setIfInBounds];exact hls, .inl ⟨?_,hI w w' hIw hR,hAD.put (ds_mem G hin) v,?_,hadf,fun k hk hkl=> ?_,fun hml=> ?_⟩⟩
        · cases h:(l.setIfInBounds i true).getD n false with
          |false=>rfl
          | true =>
            rcases listed_set h with h2|h2
            · omega
            · rw[hnl]at h2;cases h2
        · show(a.tmps.setIfInBounds _ _).size=_
          rw[Array.size_setIfInBounds];exact hasz
        · by_cases hki:k=i
          · subst hki;rw[eval_put_same _ _ _ (by rw[hasz];exact hsz _ (ds_mem G hin))]
            exact hphi
          · rw[eval_put_other _ _ _ _ (fun e=>hki (ds_inj G hk hin e))]
            have hf:=hF k hk ((listed_set hkl).resolve_left hki)
            by_cases hkm:k=m
            · subst hkm;rw[if_neg (fun e=>hki e.symm)]at hrel
              exact hΦm _ _ _ hf hrel
            · exact hΦ k _ _ _ hkm hf hR
        · have hmi:i≠m:=fun e=>by
            subst e;have h2:=(getD_set_iff (k:=i) hil).mpr (.inl rfl);rw[hml]at h2;cases h2
          rw[if_neg hmi]at hrel;refine hJ w w' (hJw ?_) hrel
          cases h:l.getD m false with
          |false=>rfl
          | true =>
            have h2:=(getD_set_iff (k:=m) hil).mpr (.inr h);rw[hml]at h2;cases h2
      · obtain rfl:i=n:=by have:=G.size;omega
        have hall: ∀k,k<i->l.getD k false=true:=fun k hk=>by
          obtain⟨e,he,h1,h2⟩:=G.last o ho k hk;rw[<-h1];exact hpre e he h2
        refine wpOp_at ho (G.guard i o ho) (Oper.wp_mono (fun a' w' hq=> ?_) (hlast o ho a w hIw hAD hasz hadf (fun k hk=>hF k hk (hall k hk))))
        refine⟨by rw[Array.size_setIfInBounds];exact hls, .inr ⟨fun k hk=>(getD_set_iff hil).mpr ?_,hq⟩⟩
        rcases Nat.lt_or_ge k i with h|h
        · exact .inr (hall k h)
        · exact .inl (by omega)
    · exfalso
      have:=hall i (by have:=G.size;omega)
      simp[hil]at this hun;rw[this]at hun;cases hun
  · rintro l a w ⟨hls,hV⟩ hr;have hall:=all_listed (by rw[hls,G.size]) G.back hr
    rcases hV with⟨hnl,_⟩|⟨_,hq⟩
    · have:=hall n (by rw[G.size];omega)
      rw[hnl]at this;cases this
    · exact hq
def fillL(ds:List Nat)(vals:Nat->Value):Nat->List Value->List Value
 |_,[]=> []
 |t,x::l=>(bif ds.contains t then vals t else x)::fillL ds vals (t+1) l
theorem fillL_at(ds:List Nat)(vals:Nat->Value): ∀(l:List Value) (t i:Nat),(fillL ds vals t l)[i]? =l[i]?.map fun x=>bif ds.contains (t+i)then vals (t+i)else x
  | [],t,i=>by simp[fillL]
  |x::l,t,0=>by simp[fillL]
  | x :: l, t, i + 1 => by
    have:=fillL_at ds vals l (t+1) i;rw[show t+1+i=t+(i+1) by omega]at this
    simpa[fillL]using this
def fillA(a0:Act)(ds:List Nat)(vals:Nat->Value):List Value:=fillL ds vals 0 a0.tmps.toList
theorem act_fill{a0 a:Act}{ds:List Nat}(h:AtDoor a0 ds a.eval)(hs:a.tmps.size=a0.tmps.size)(hd:a.defers=a0.defers):a=⟨(fillA a0 ds fun t=>a.eval (.tmp t)).toArray,a0.defers⟩:=by
  obtain⟨tmps,defers⟩:=a;obtain rfl:defers=a0.defers:=hd;congr 1;apply Array.toList_inj.mp;apply List.ext_getElem?
  intro t;unfold fillA;rw[fillL_at,Nat.zero_add];rcases Nat.lt_or_ge t tmps.size with ht|ht
  · have ht0:t<a0.tmps.toList.length:=by simpa[<-hs]using ht
    have e1:(Act.mk tmps a0.defers).eval (.tmp t)=tmps[t]:=by
      show tmps.getD t undef=_
      simp[ht]
    rw[List.getElem?_eq_getElem ht0,List.getElem?_eq_getElem (by simpa using ht)]
    simp only[Option.map_some,Array.getElem_toList,Option.some.injEq];cases hc:ds.contains t with
    |true=>exact e1.symm
    | false =>
      have:=h.tmp t (fun q=>by rw[List.contains_iff_mem.mpr q]at hc;cases hc)
      rw[e1]at this;rw[this];show a0.tmps.getD t undef=_
      have ht1:t<a0.tmps.size:=by simpa using ht0
      simp[ht1]
  · rw[List.getElem?_eq_none (by simpa using ht),List.getElem?_eq_none (by simpa[<-hs]using ht)]
    rfl
theorem wp_region_gather'(n m:Nat)(ds:List Nat){id:Nat}{a0:Act}{w0:World}(hm:P.follows .mixedOrders=true)(hG:gatherB ops n ds=true)(hsz: ∀d∈ds,d<a0.tmps.size)
  (I J:World->Prop) (R:World->World->Prop) (Φ:Nat->Value->World->Prop)
  (hBR: ∀w w',Below w.heap.size w w'->R w w') (hI: ∀w w',I w->R w w'->I w') (hJ: ∀w w',J w->Below w.heap.size w w'->J w')
  (hΦ: ∀k v w w',k≠m->Φ k v w->R w w'->Φ k v w') (hΦm: ∀v w w',Φ m v w->Below w.heap.size w w'->Φ m v w')
  (h0:I {w0 with drawn:=w0.drawn+1}) (h1:J {w0 with drawn:=w0.drawn+1})
  (hstep: ∀ (k: Nat) (o: Oper),k < n -> ops[k]? = some o -> ∀ (ρ: Operand -> Value) (w: World),I w -> AtDoor a0 ds ρ -> (∀ e ∈ o.after,Region.binds .any e = true -> Φ e.on (ρ (.tmp (ds.getD e.on 0))) w) -> (k = m -> J w) ->
   ∃v w',(execOp ρ o).run P w= .ok (.value v) w'/\Φ k v w'/\(if k=m then R w w' else Below w.heap.size w w'))
  (hlast: ∀ (o: Oper),ops[n]? = some o -> ∀ (vals: Nat -> Value) (w: World),I w -> (∀ k,k < n -> Φ k (vals (ds.getD k 0)) w) ->
   o.wp P ⟨(fillA a0 ds vals).toArray,a0.defers⟩ w (fun a' w'=>Q .normal a' w') Q):
  (Code.region id ops true).wp P Q a0 w0:=
 wp_region_gather n m ds hm hG hsz I J R Φ hBR hI hJ hΦ hΦm h0 h1 hstep (fun o ho a w hIw hA hs hd hF=>by
  have:=hlast o ho (fun t=>a.eval (.tmp t)) w hIw hF
  rwa [<-act_fill hA hs hd]at this)
end
section
variable {P: Program} {ops: Array Oper} {Q: Exit -> Act -> World -> Prop}
theorem fds_mem{ds:List Nat}{k:Nat}(hk:k<ds.length):ds.getD k 0∈ds:=by
 rw[List.getD_eq_getElem?_getD,List.getElem?_eq_getElem hk]
 exact List.getElem_mem hk
theorem fds_inj{ds:List Nat}(h:ds.Nodup){k j:Nat}(hk:k<ds.length)(hj:j<ds.length)(e:ds.getD k 0=ds.getD j 0):k=j:=by
 rw[List.getD_eq_getElem?_getD,List.getElem?_eq_getElem hk,List.getD_eq_getElem?_getD,List.getElem?_eq_getElem hj]at e
 exact(List.getElem_inj h).mp e
theorem fx_val{o:Oper}{a:Act}{w:World}{k:Nat}{Φ:Nat->Value->World->Prop}{K:Act->World->Prop}(hK: ∀v w',Φ k v w'->Below w.heap.size w w'->K (a.put o.dst v) w'){ρ:Operand->Value}(hρ:a.eval=ρ)(v:Value)(hr:(execOp ρ o).run P w= .ok (.value v) w)(hv:Φ k v w):o.wp P a w K Q:=by
 subst hρ;unfold Oper.wp;rw[hr,Oper.upon_value];exact hK v w hv (Below.refl _ _)
theorem fx_call{o:Oper}{a:Act}{w:World}{k:Nat}{Φ:Nat->Value->World->Prop}{K:Act->World->Prop}(hK: ∀v w',Φ k v w'->Below w.heap.size w w'->K (a.put o.dst v) w'){ρ:Operand->Value}(hρ:a.eval=ρ)(f:FuncId)(xs:Array Operand)(tys:Array TypeId)(vs:Array Value)
  (ho:o.op= .call {callee:=.value (.func f),args:=xs,argTypes:=tys}) (hxs:xs.map ρ=vs) (eg: ∀args w,(callFunc f args).run P w= .ok (.enter f args) w)
  (h:Calls P f vs w fun e w'=> ∃v,e= .returned v/\Φ k v w'/\Below w.heap.size w w'):o.wp P a w K Q:=by
 subst hρ;have hr:(execOp a.eval o).run P w= .ok (.enter f vs) w:=by
  have:=eg vs w;simp[execOp,ho,resolve,hxs,invoke,Deferred.ofValue,Act.eval,this,go_sem]
 unfold Oper.wp;rw[hr,Oper.upon_enter];refine h.mono fun e w' ⟨v,he,hv,hb⟩=> ?_
 subst he;exact hK v w' hv hb
end
section
variable {P: Program} {ops: Array Oper} {Q: Exit -> Act -> World -> Prop}
def waitsB(ops:Array Oper):Nat->Nat->Nat->Bool
 |0,_,_=>false
 |f+1,i,k=>match ops[i]? with|some o=>o.after.any fun e=>Region.binds .any e&&(e.on==k||waitsB ops f e.on k)|none=>false
theorem waits_done{l:Array Bool}(hc: ∀(i:Nat) (o:Oper),l.getD i false=true->ops[i]? =some o-> ∀e∈o.after,Region.binds .any e=true->l.getD e.on false=true):
    ∀(f i k:Nat),waitsB ops f i k=true->(∀(o:Oper),ops[i]? =some o-> ∀e∈o.after,Region.binds .any e=true->l.getD e.on false=true)->l.getD k false=true
  |0,i,k,h,_=>by cases h
  | f + 1, i, k, h, hp => by
    unfold waitsB at h
    split at h
    · rename_i o ho
      obtain⟨e,he,h2⟩:=Array.any_eq_true'.1 h;rw[Bool.and_eq_true,Bool.or_eq_true,beq_iff_eq]at h2;have hd:=hp o ho e he h2.1;rcases h2.2 with h3|h3
      · rw[<-h3];exact hd
      · exact waits_done hc f e.on k h3 (fun o' ho' e' he' hb'=>hc e.on o' hd ho' e' he' hb')
    · cases h
def gatherB2(ops:Array Oper)(n:Nat)(ds:List Nat):Bool:=
 ops.size==n+1&&ds.length==n&&(ops.toList.all fun o:Oper=>o.guard.isNone)&&backB ops&&decide ds.Nodup&&
 ((List.range n).all fun k=>(match ops[k]? with|some o=>o.dst==some (ds.getD k 0)|none=>false))&&
 ((List.range n).all fun k=>waitsB ops 8 n k)
structure Gather2(ops:Array Oper)(n:Nat)(ds:List Nat):Prop where
 size:ops.size=n+1
 len:ds.length=n
 guard: ∀(k:Nat) (o:Oper),ops[k]? =some o->o.guard=none
 back: ∀(i:Nat) (o:Oper),ops[i]? =some o-> ∀e∈o.after,e.on<i
 nodup:ds.Nodup
 dst: ∀(k:Nat) (o:Oper),k<n->ops[k]? =some o->o.dst=some (ds.getD k 0)
 last: ∀k,k<n->waitsB ops 8 n k=true
theorem gather_of2{n:Nat}{ds:List Nat}(h:gatherB2 ops n ds=true):Gather2 ops n ds:=by
 unfold gatherB2 at h;simp only[Bool.and_eq_true,beq_iff_eq,decide_eq_true_iff]at h;obtain⟨⟨⟨⟨⟨⟨h1,h2⟩,h3⟩,h4⟩,h5⟩,h6⟩,h7⟩:=h;refine⟨h1,h2,fun k o ho=> ?_,back_of h4,h5,fun k o hk ho=> ?_,fun k hk=>List.all_eq_true.1 h7 k (List.mem_range.2 hk)⟩
 ·have:=List.all_eq_true.1 h3 o (by rw [Array.mem_toList_iff]; exact Array.mem_of_getElem? ho)
  exact Option.isNone_iff_eq_none.1 this
 ·have:=List.all_eq_true.1 h6 k (List.mem_range.2 hk)
  rw[ho]at this
  simpa using this
theorem ds_mem2{n:Nat}{ds:List Nat}(h:Gather2 ops n ds){k:Nat}(hk:k<n):ds.getD k 0∈ds:=by
 have hl:k<ds.length:=by rw[h.len];exact hk
 rw[List.getD_eq_getElem?_getD,List.getElem?_eq_getElem hl]
 exact List.getElem_mem hl
theorem ds_inj2{n:Nat}{ds:List Nat}(h:Gather2 ops n ds){k j:Nat}(hk:k<n)(hj:j<n)(e:ds.getD k 0=ds.getD j 0):k=j:=by
 have hl:k<ds.length:=by rw[h.len];exact hk
 have hl2:j<ds.length:=by rw[h.len];exact hj
 rw[List.getD_eq_getElem?_getD,List.getElem?_eq_getElem hl,List.getD_eq_getElem?_getD,List.getElem?_eq_getElem hl2]at e
 exact(List.getElem_inj h.nodup).mp e
theorem wp_region_gather2(n m:Nat)(ds:List Nat){id:Nat}{a0:Act}{w0:World}(hm:P.follows .mixedOrders=true)(hG:gatherB2 ops n ds=true)(hsz: ∀d∈ds,d<a0.tmps.size)
    (I J:World->Prop) (R:World->World->Prop) (Φ:Nat->Value->World->Prop)
    (hBR: ∀w w',Below w.heap.size w w'->R w w') (hI: ∀w w',I w->R w w'->I w') (hJ: ∀w w',J w->Below w.heap.size w w'->J w')
    (hΦ: ∀k v w w',k≠m->Φ k v w->R w w'->Φ k v w') (hΦm: ∀v w w',Φ m v w->Below w.heap.size w w'->Φ m v w')
    (h0:I {w0 with drawn:=w0.drawn+1}) (h1:J {w0 with drawn:=w0.drawn+1})
    (hstep: ∀(k:Nat) (o:Oper),k<n->ops[k]? =some o-> ∀(ρ:Operand->Value) (w:World),I w->AtDoor a0 ds ρ->(∀e∈o.after,Region.binds .any e=true->Φ e.on (ρ (.tmp (ds.getD e.on 0))) w)->(k=m->J w)->
      ∃v w',(execOp ρ o).run P w= .ok (.value v) w'/\Φ k v w'/\(if k=m then R w w' else Below w.heap.size w w'))
    (hlast: ∀(o:Oper),ops[n]? =some o-> ∀(a:Act) (w:World),I w->AtDoor a0 ds a.eval->a.tmps.size=a0.tmps.size->a.defers=a0.defers->(∀k,k<n->Φ k (a.eval (.tmp (ds.getD k 0))) w)->
      o.wp P a w (fun a' w'=>Q .normal a' w') Q):
    (Code.region id ops true).wp P Q a0 w0:=by
  have G:=gather_of2 hG;refine wp_region_inv (fun l a w=>l.size=n+1/\((l.getD n false=false/\I w/\AtDoor a0 ds a.eval/\a.tmps.size=a0.tmps.size/\a.defers=a0.defers/\(∀k,k<n->l.getD k false=true->Φ k (a.eval (.tmp (ds.getD k 0))) w)/\(l.getD m false=false->J w)/\(∀(i:Nat) (o:Oper),l.getD i false=true->ops[i]? =some o-> ∀e∈o.after,Region.binds .any e=true->l.getD e.on false=true))\/((∀k,k<=n->l.getD k false=true)/\Q .normal a w))) hm ?_ ?_ ?_
  · refine⟨by rw[Array.size_replicate];exact G.size, .inl ⟨?_,h0,atDoor_start a0 ds,rfl,rfl,fun k hk h=> ?_,fun _=>h1,fun k o h=> ?_⟩⟩
    · by_cases h:n<ops.size<;>simp[h]
    · exfalso
      by_cases h2:k<ops.size<;>simp[h2]at h
    · exfalso
      by_cases h2:k<ops.size<;>simp[h2]at h
  · rintro l a w i ⟨hls,hV⟩ hi;obtain⟨hun,o,ho,hpre⟩:=mem_ready.1 hi;have hilt:i<ops.size:=(Array.getElem?_eq_some_iff.1 ho).1
    have hil:i<l.size:=by rw[hls,<-G.size];exact hilt
    rcases hV with⟨hnl,hIw,hAD,hasz,hadf,hF,hJw,hcl⟩|⟨hall,_⟩
    · rcases Nat.lt_or_ge i n with hin|hin
      · obtain⟨v,w',hrun,hphi,hrel⟩:=hstep i o hin ho a.eval w hIw hAD (fun e he hb=>hF e.on (Nat.lt_trans (G.back i o ho e he) hin) (hpre e he hb)) (fun e=>hJw (by
          rw[<-e];cases h:l.getD i false with
          |false=>rfl
          |true=>simp[hil]at h hun;rw[h]at hun;cases hun))
        have hR:R w w':=by
          split at hrel
          · exact hrel
          · exact hBR w w' hrel
        refine wpOp_at ho (G.guard i o ho) ?_
        unfold Oper.wp;rw[hrun,Oper.upon_value,G.dst i o hin ho];refine⟨by rw[Array.size_setIfInBounds];exact hls, .inl ⟨?_,hI w w' hIw hR,hAD.put (ds_mem2 G hin) v,?_,hadf,fun k hk hkl=> ?_,fun hml=> ?_,fun k o' hk ho' e he hb=> ?_⟩⟩
        · cases h:(l.setIfInBounds i true).getD n false with
          |false=>rfl
          | true =>
            rcases listed_set h with h2|h2
            · omega
            · rw[hnl]at h2;cases h2
        · show(a.tmps.setIfInBounds _ _).size=_
          rw[Array.size_setIfInBounds];exact hasz
        · by_cases hki:k=i
          · subst hki;rw[eval_put_same _ _ _ (by rw[hasz];exact hsz _ (ds_mem2 G hin))]
            exact hphi
          · rw[eval_put_other _ _ _ _ (fun e=>hki (ds_inj2 G hk hin e))]
            have hf:=hF k hk ((listed_set hkl).resolve_left hki)
            by_cases hkm:k=m
            · subst hkm;rw[if_neg (fun e=>hki e.symm)]at hrel
              exact hΦm _ _ _ hf hrel
            · exact hΦ k _ _ _ hkm hf hR
        · have hmi:i≠m:=fun e=>by
            subst e;have h2:=(getD_set_iff (k:=i) hil).mpr (.inl rfl);rw[hml]at h2;cases h2
          rw[if_neg hmi]at hrel;refine hJ w w' (hJw ?_) hrel
          cases h:l.getD m false with
          |false=>rfl
          | true =>
            have h2:=(getD_set_iff (k:=m) hil).mpr (.inr h);rw[hml]at h2;cases h2
        · refine(getD_set_iff hil).mpr (.inr ?_)
          rcases listed_set hk with h|h
          · subst h;rw[ho]at ho';obtain rfl:=Option.some.inj ho';exact hpre e he hb
          · exact hcl k o' h ho' e he hb
      · obtain rfl:i=n:=by have:=G.size;omega
        have hall: ∀k,k<i->l.getD k false=true:=fun k hk=>waits_done hcl 8 i k (G.last k hk) (fun o' ho' e he hb=>by
          rw[ho]at ho';obtain rfl:=Option.some.inj ho';exact hpre e he hb)
        refine wpOp_at ho (G.guard i o ho) (Oper.wp_mono (fun a' w' hq=> ?_) (hlast o ho a w hIw hAD hasz hadf (fun k hk=>hF k hk (hall k hk))))
        refine⟨by rw[Array.size_setIfInBounds];exact hls, .inr ⟨fun k hk=>(getD_set_iff hil).mpr ?_,hq⟩⟩
        rcases Nat.lt_or_ge k i with h|h
        · exact .inr (hall k h)
        · exact .inl (by omega)
    · exfalso
      have:=hall i (by have:=G.size;omega)
      simp[hil]at this hun;rw[this]at hun;cases hun
  · rintro l a w ⟨hls,hV⟩ hr;have hall:=all_listed (by rw[hls,G.size]) G.back hr
    rcases hV with⟨hnl,_⟩|⟨_,hq⟩
    · have:=hall n (by rw[G.size];omega)
      rw[hnl]at this;cases this
    · exact hq
theorem wp_region_gather2'(n m:Nat)(ds:List Nat){id:Nat}{a0:Act}{w0:World}(hm:P.follows .mixedOrders=true)(hG:gatherB2 ops n ds=true)(hsz: ∀d∈ds,d<a0.tmps.size)
  (I J:World->Prop) (R:World->World->Prop) (Φ:Nat->Value->World->Prop)
  (hBR: ∀w w',Below w.heap.size w w'->R w w') (hI: ∀w w',I w->R w w'->I w') (hJ: ∀w w',J w->Below w.heap.size w w'->J w')
  (hΦ: ∀k v w w',k≠m->Φ k v w->R w w'->Φ k v w') (hΦm: ∀v w w',Φ m v w->Below w.heap.size w w'->Φ m v w')
  (h0:I {w0 with drawn:=w0.drawn+1}) (h1:J {w0 with drawn:=w0.drawn+1})
  (hstep: ∀ (k: Nat) (o: Oper),k < n -> ops[k]? = some o -> ∀ (ρ: Operand -> Value) (w: World),I w -> AtDoor a0 ds ρ -> (∀ e ∈ o.after,Region.binds .any e = true -> Φ e.on (ρ (.tmp (ds.getD e.on 0))) w) -> (k = m -> J w) ->
   ∃v w',(execOp ρ o).run P w= .ok (.value v) w'/\Φ k v w'/\(if k=m then R w w' else Below w.heap.size w w'))
  (hlast: ∀ (o: Oper),ops[n]? = some o -> ∀ (vals: Nat -> Value) (w: World),I w -> (∀ k,k < n -> Φ k (vals (ds.getD k 0)) w) ->
   o.wp P ⟨(fillA a0 ds vals).toArray,a0.defers⟩ w (fun a' w'=>Q .normal a' w') Q):
  (Code.region id ops true).wp P Q a0 w0:=
 wp_region_gather2 n m ds hm hG hsz I J R Φ hBR hI hJ hΦ hΦm h0 h1 hstep (fun o ho a w hIw hA hs hd hF=>by
  have:=hlast o ho (fun t=>a.eval (.tmp t)) w hIw hF
  rwa [<-act_fill hA hs hd]at this)
end
end Go.Proofs.YtlfekmbalgkmeaaGreatDoor
