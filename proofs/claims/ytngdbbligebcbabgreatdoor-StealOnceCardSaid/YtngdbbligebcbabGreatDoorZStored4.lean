import Derived.Test.YtngdbbligebcbabGreatDoorZM18
set_option linter.unusedVariables false
set_option maxHeartbeats 2000000
namespace Go.Proofs.YtngdbbligebcbabGreatDoor
open Go Go.RowKit
section
variable {P: Program} {ops: Array Oper} {Q: Exit -> Act -> World -> Prop}
theorem wp_region_stored4(p:Nat)(ds S R:List Nat)(base:Nat){id:Nat}{a0:Act}{w0:World}(hm:P.follows .mixedOrders=true)(hG:storedB ops p ds S=true)(hsz: ∀d∈ds,d<a0.tmps.size\/1000<=d)
    (I:World->Prop) (Φ:Nat->Value->World->Prop) (Θ:(Nat->Value)->World->Prop)
    (hI: ∀w w',I w->Below w.heap.size w w'->I w') (hΦ: ∀k v w w',Φ k v w->Below w.heap.size w w'->Φ k v w')
    (h0:I {w0 with drawn:=w0.drawn+1})
    (hstep: ∀(k:Nat) (o:Oper),k≠p->k∉S->ops[k]? =some o-> ∀(a:Act) (w:World),I w->AtDoor a0 ds a.eval->(∀e∈o.after,Region.binds .any e=true->Φ e.on (a.eval (.tmp (ds.getD e.on 0))) w)->
      ∀K:Act->World->Prop,(∀v w',Φ k v w'->Below w.heap.size w w'->K (a.put o.dst v) w')->o.wp P a w K Q)
    (hside: ∀(k:Nat) (o:Oper),k∈S->ops[k]? =some o-> ∀(ρ:Operand->Value) (w:World),base<=w.heap.size->AtDoor a0 ds ρ->(∀e∈o.after,Region.binds .any e=true->e.on≠p-> ∃w1,Φ e.on (ρ (.tmp (ds.getD e.on 0))) w1/\(e.on∈R->w1=w))->
      ∃v w',(execOp ρ o).run P w= .ok (.value v) w'/\Φ k v w'/\Below w.heap.size w w')
    (hstore: ∀(o:Oper),ops[p]? =some o-> ∀(a:Act) (w:World),I w->AtDoor a0 ds a.eval->(∀k,k<ds.length->k≠p->k∉S->Φ k (a.eval (.tmp (ds.getD k 0))) w)->
      ∀K:Act->World->Prop,(∀w',Θ (fun t=>a.eval (.tmp t)) w'->base<=w'.heap.size->(∀k,k∈R-> ∀v,Φ k v w->Φ k v w')->K a w')->o.wp P a w K Q)
    (hΘ: ∀(f g:Nat->Value) w,(∀k,k<ds.length->k≠p->k∉S->f (ds.getD k 0)=g (ds.getD k 0))->Θ f w->Θ g w)
    (hΘb: ∀(f:Nat->Value) w w',Θ f w->Below w.heap.size w w'->Θ f w') (hbase:base<=w0.heap.size)
    (hend: ∀(vals:Nat->Value) (w:World),Θ vals w->(∀k,k<ds.length->k≠p-> ∃w',Φ k (vals (ds.getD k 0)) w'/\(k∈R->w'=w))->Q .normal ⟨(fillA a0 ds vals).toArray,a0.defers⟩ w):
    (Code.region id ops true).wp P Q a0 w0:=by
  have G:=stored_of hG;refine wp_region_inv (fun l a w=>l.size=ds.length/\AtDoor a0 ds a.eval/\a.tmps.size=a0.tmps.size/\a.defers=a0.defers/\
    (∀(i:Nat) (o:Oper),l.getD i false=true->ops[i]? =some o-> ∀e∈o.after,Region.binds .any e=true->l.getD e.on false=true)/\
    base<=w.heap.size/\
    ((l.getD p false = false /\ I w /\ ∀ k, k < ds.length -> k ≠ p -> l.getD k false = true -> Φ k (a.eval (.tmp (ds.getD k 0))) w) \/
     (l.getD p false=true/\Θ (fun t=>a.eval (.tmp t)) w/\ ∀k,k<ds.length->k≠p->l.getD k false=true-> ∃w',Φ k (a.eval (.tmp (ds.getD k 0))) w'/\(k∈R->w'=w)))) hm ?_ ?_ ?_
  · have hno: ∀k,¬(Array.replicate ops.size false).getD k false=true:=fun k h=>by
      by_cases h2:k<ops.size<;>simp[h2]at h
    refine⟨by rw[Array.size_replicate];exact G.size,atDoor_start a0 ds,rfl,rfl,fun k o h=>absurd h (hno k),hbase, .inl ⟨?_,h0,fun k hk hkp h=>absurd h (hno k)⟩⟩
    cases h:(Array.replicate ops.size false).getD p false with
    |false=>rfl
    |true=>exact absurd h (hno p)
  · rintro l a w i ⟨hls,hAD,hasz,hadf,hcl,hbw,hV⟩ hi;obtain⟨hun,o,ho,hpre⟩:=mem_ready.1 hi;have hilt:i<ops.size:=(Array.getElem?_eq_some_iff.1 ho).1
    have hin:i<ds.length:=by rw[<-G.size];exact hilt
    have hil:i<l.size:=by omega
    have hun2:l.getD i false=false:=by
      cases h:l.getD i false with
      |false=>rfl
      |true=>simp[hil]at h hun;rw[h]at hun;cases hun
    have hcl2: ∀(k:Nat) (o':Oper),(l.setIfInBounds i true).getD k false=true->ops[k]? =some o'-> ∀e∈o'.after,Region.binds .any e=true->(l.setIfInBounds i true).getD e.on false=true:=fun k o' hk ho' e he hb=>by
      refine(getD_set_iff hil).mpr (.inr ?_)
      rcases listed_set hk with h|h
      · subst h;rw[ho]at ho';obtain rfl:=Option.some.inj ho';exact hpre e he hb
      · exact hcl k o' h ho' e he hb
    have hls2:(l.setIfInBounds i true).size=ds.length:=by rw[Array.size_setIfInBounds];exact hls
    refine wpOp_at ho (G.guard i o ho) ?_
    by_cases hip:i=p
    · subst hip;rcases hV with⟨hnl,hIw,hF⟩|⟨hnl,_⟩
      · have hall: ∀k,k<ds.length->k≠i->k∉S->l.getD k false=true:=fun k hk hkp hkS=>waits_done hcl 12 i k (G.last k hk hkp hkS) (fun o' ho' e he hb=>by
          rw[ho]at ho';obtain rfl:=Option.some.inj ho';exact hpre e he hb)
        refine hstore o ho a w hIw hAD (fun k hk hkp hkS=>hF k hk hkp (hall k hk hkp hkS)) _ fun w' hT hbw' hkeep=> ?_
        refine⟨hls2,hAD,hasz,hadf,hcl2,hbw', .inr ⟨(getD_set_iff hil).mpr (.inl rfl),hT,fun k hk hkp hkl=> ?_⟩⟩
        have hf:=hF k hk hkp ((listed_set hkl).resolve_left hkp)
        by_cases hkS:k∈R
        · exact⟨w',hkeep k hkS _ hf,fun _=>rfl⟩
        · exact⟨w,hf,fun h=>absurd h hkS⟩
      · rw[hun2]at hnl;cases hnl
    · obtain⟨hd,hdl⟩:=G.dst i o hip ho;have hdm:=fds_mem hin;have hdz:ds.getD i 0<a.tmps.size:=by
        rcases hsz _ hdm with h|h
        · rw[hasz];exact h
        · omega
      have hpl: ∀b,l.getD p false=b->(l.setIfInBounds i true).getD p false=b:=fun b hb=>by
        cases h:(l.setIfInBounds i true).getD p false with
        | true =>
          rcases listed_set h with h2|h2
          · exact absurd h2.symm hip
          · rw[<-hb,h2]
        | false =>
          cases b with
          |false=>rfl
          | true =>
            have:=(getD_set_iff (k:=p) hil).mpr (.inr hb);rw[h]at this;cases this
      have hsz2: ∀v,(a.put (some (ds.getD i 0)) v).tmps.size=a0.tmps.size:=fun v=>by
        show(a.tmps.setIfInBounds _ _).size=_
        rw[Array.size_setIfInBounds];exact hasz
      rcases hV with⟨hnl,hIw,hF⟩|⟨hnl,hT,hF⟩
      · have hdep: ∀e∈o.after,Region.binds .any e=true->Φ e.on (a.eval (.tmp (ds.getD e.on 0))) w:=fun e he hb=>hF e.on (Nat.lt_trans (G.back i o ho e he hb) hin) (fun h=>by
          have:=hpre e he hb;rw[h,hnl]at this;cases this) (hpre e he hb)
        have hnext: ∀v w',Φ i v w'->Below w.heap.size w w'->(l.setIfInBounds i true).size=ds.length/\AtDoor a0 ds (a.put (some (ds.getD i 0)) v).eval/\(a.put (some (ds.getD i 0)) v).tmps.size=a0.tmps.size/\(a.put (some (ds.getD i 0)) v).defers=a0.defers/\
            (∀(k:Nat) (o':Oper),(l.setIfInBounds i true).getD k false=true->ops[k]? =some o'-> ∀e∈o'.after,Region.binds .any e=true->(l.setIfInBounds i true).getD e.on false=true)/\base<=w'.heap.size/\
            (((l.setIfInBounds i true).getD p false = false /\ I w' /\ ∀ k, k < ds.length -> k ≠ p -> (l.setIfInBounds i true).getD k false = true -> Φ k ((a.put (some (ds.getD i 0)) v).eval (.tmp (ds.getD k 0))) w') \/
             ((l.setIfInBounds i true).getD p false=true/\Θ (fun t=>(a.put (some (ds.getD i 0)) v).eval (.tmp t)) w'/\ ∀k,k<ds.length->k≠p->(l.setIfInBounds i true).getD k false=true-> ∃w'',Φ k ((a.put (some (ds.getD i 0)) v).eval (.tmp (ds.getD k 0))) w''/\(k∈R->w''=w'))):=fun v w' hphi hb=>by
          refine⟨hls2,hAD.put hdm v,hsz2 v,hadf,hcl2,Nat.le_trans hbw hb.size, .inl ⟨hpl _ hnl,hI w w' hIw hb,fun k hk hkp hkl=> ?_⟩⟩
          by_cases hki:k=i
          · subst hki;rw[eval_put_same _ _ _ hdz];exact hphi
          · rw[eval_put_other _ _ _ _ (fun e=>hki (fds_inj G.nodup hk hin e))]
            exact hΦ k _ _ _ (hF k hk hkp ((listed_set hkl).resolve_left hki)) hb
        by_cases hiS:i∈S
        · obtain⟨v,w',hr,hphi,hbel⟩:=hside i o hiS ho a.eval w hbw hAD (fun e he hb _=>⟨w,hdep e he hb,fun _=>rfl⟩)
          unfold Oper.wp;rw[hr,Oper.upon_value,hd];exact hnext v w' hphi hbel
        · refine hstep i o hip hiS ho a w hIw hAD hdep _ fun v w' hphi hb=> ?_
          rw[hd];exact hnext v w' hphi hb
      · have hall: ∀k,k<ds.length->k≠p->k∉S->l.getD k false=true:=fun k hk hkp hkS=>by
          obtain⟨op,hop⟩: ∃op,ops[p]? =some op:=⟨_,Array.getElem?_eq_getElem (by rw[G.size];exact G.lt)⟩
          exact waits_done hcl 12 p k (G.last k hk hkp hkS) (fun o' ho' e he hb=>hcl p o' hnl ho' e he hb)
        have hiS:i∈S:=Classical.byContradiction fun h=>by
          have:=hall i hin hip h;rw[hun2]at this;cases this
        obtain⟨v,w',hr,hphi,hbel⟩:=hside i o hiS ho a.eval w hbw hAD (fun e he hb hep=>by
          have he2:=hpre e he hb;have hlt:=Nat.lt_trans (G.back i o ho e he hb) hin;exact hF e.on hlt hep he2)
        unfold Oper.wp;rw[hr,Oper.upon_value,hd];refine⟨hls2,hAD.put hdm v,hsz2 v,hadf,hcl2,Nat.le_trans hbw hbel.size, .inr ⟨hpl _ hnl,?_,fun k hk hkp hkl=> ?_⟩⟩
        · refine hΘb _ w w' (hΘ _ _ w (fun k hk hkp hkS=> ?_) hT) hbel
          exact(eval_put_other _ _ _ _ (fun e=>hkS (by rw[fds_inj G.nodup hk hin e];exact hiS))).symm
        · by_cases hki:k=i
          · subst hki;rw[eval_put_same _ _ _ hdz];exact⟨w',hphi,fun _=>rfl⟩
          · rw[eval_put_other _ _ _ _ (fun e=>hki (fds_inj G.nodup hk hin e))]
            obtain⟨w1,h1,h2⟩:=hF k hk hkp ((listed_set hkl).resolve_left hki)
            by_cases hkS:k∈R
            · obtain rfl:=h2 hkS;exact⟨w',hΦ k _ _ _ h1 hbel,fun _=>rfl⟩
            · exact⟨w1,h1,fun h=>absurd h hkS⟩
  · rintro l a w ⟨hls,hAD,hasz,hadf,hcl,hbw,hV⟩ hr;have hall:=all_listed' (by rw[hls,G.size]) G.back hr
    have hp:=hall p (by rw[G.size];exact G.lt)
    rcases hV with⟨hnl,_⟩|⟨_,hT,hF⟩
    · rw[hp]at hnl;cases hnl
    · rw[act_fill hAD hasz hadf];exact hend (fun t=>a.eval (.tmp t)) w hT fun k hk hkp=>hF k hk hkp (hall k (by rw[G.size];exact hk))
end
end Go.Proofs.YtngdbbligebcbabGreatDoor
