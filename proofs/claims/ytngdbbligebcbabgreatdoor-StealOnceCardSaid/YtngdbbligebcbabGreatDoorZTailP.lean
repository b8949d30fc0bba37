import Derived.Test.YtngdbbligebcbabGreatDoorZM18
set_option linter.unusedVariables false
set_option maxHeartbeats 4000000
namespace Go.Proofs.YtngdbbligebcbabGreatDoor
open Go Go.RowKit
section
variable {P: Program} {ops: Array Oper} {Q: Exit -> Act -> World -> Prop}
theorem wp_region_tailP(m q1 q2:Nat)(ds F:List Nat){id:Nat}{a0:Act}{w0:World}(hm:P.follows .mixedOrders=true)(hG:tailB ops m ds F=true)(hsz: ∀d∈ds,d<a0.tmps.size\/1000<=d)
    (hq:q1<m/\q2<m/\q1∉F/\q2∉F/\q1≠q2) (hqe: ∀o,ops[q2]? =some o-> ∃e∈o.after,e.on=q1/\Region.binds .any e=true) (Ψ2:Value->Value->Prop) (I:World->Prop) (Φ:Nat->Value->World->Prop) (Ψ:Nat->Value->Prop) (Θ:Nat->(Nat->Value)->World->Prop)
    (hI: ∀w w',I w->Below w.heap.size w w'->I w') (hΦ: ∀k v w w',Φ k v w->Below w.heap.size w w'->Φ k v w')
    (h0:I {w0 with drawn:=w0.drawn+1})
    (hstep: ∀(k:Nat) (o:Oper),k<m->k∉F->ops[k]? =some o-> ∀(a:Act) (w:World),I w->AtDoor a0 (ds.take m) a.eval->(∀e∈o.after,Region.binds .any e=true->e.on∉F->Φ e.on (a.eval (.tmp (ds.getD e.on 0))) w)->
      ∀K:Act->World->Prop,(∀v w',Φ k v w'->Below w.heap.size w w'->(k=q2->Ψ2 (a.eval (.tmp (ds.getD q1 0))) v)->K (a.put o.dst v) w')->o.wp P a w K Q)
    (hloose: ∀(k:Nat) (o:Oper),k∈F->ops[k]? =some o-> ∀(ρ:Operand->Value) (w:World),AtDoor a0 ds ρ->(∀e∈o.after,Region.binds .any e=true->e.on∉F-> ∃w1,Φ e.on (ρ (.tmp (ds.getD e.on 0))) w1)-> ∃v,(execOp ρ o).run P w= .ok (.value v) w/\Ψ k v)
    (hmid: ∀(vals:Nat->Value) (w:World),I w->Ψ2 (vals (ds.getD q1 0)) (vals (ds.getD q2 0))->(∀k,k<m->k∉F->Φ k (vals (ds.getD k 0)) w)->Θ m vals w)
    (htail: ∀(t:Nat) (o:Oper),m<=t->ops[t]? =some o-> ∀(a:Act) (w:World),AtDoor a0 ds a.eval->Θ t (fun x=>a.eval (.tmp x)) w->(∀e∈o.after,Region.binds .any e=true->e.on∈F->Ψ e.on (a.eval (.tmp (ds.getD e.on 0))))->
      ∀K:Act->World->Prop,(∀v w',Θ (t+1) (fun x=>if o.dst=some x then v else a.eval (.tmp x)) w'->K (a.put o.dst v) w')->o.wp P a w K Q)
    (hΘ: ∀(t:Nat) (f g:Nat->Value) (w:World),(∀k,k<t->k∉F->f (ds.getD k 0)=g (ds.getD k 0))->Θ t f w->Θ t g w)
    (hend: ∀(vals:Nat->Value) (w:World),Θ ds.length vals w->Q .normal ⟨(fillA a0 ds vals).toArray,a0.defers⟩ w):
    (Code.region id ops true).wp P Q a0 w0:=by
  have G:=tail_of hG;refine wp_region_inv (fun l a w=>l.size=ds.length/\AtDoor a0 ds a.eval/\a.tmps.size=a0.tmps.size/\a.defers=a0.defers/\
    (∀(i:Nat) (o:Oper),l.getD i false=true->ops[i]? =some o-> ∀e∈o.after,Region.binds .any e=true->l.getD e.on false=true)/\
    (∀k,k∈F->l.getD k false=true->Ψ k (a.eval (.tmp (ds.getD k 0))))/\
    (∀k,k<m->k∉F->l.getD k false=true-> ∃w1,Φ k (a.eval (.tmp (ds.getD k 0))) w1)/\
    (((∀ t, m <= t -> l.getD t false = false) /\ AtDoor a0 (ds.take m) a.eval /\ I w /\ (l.getD q2 false = true -> Ψ2 (a.eval (.tmp (ds.getD q1 0))) (a.eval (.tmp (ds.getD q2 0)))) /\ ∀ k, k < m -> k ∉ F -> l.getD k false = true -> Φ k (a.eval (.tmp (ds.getD k 0))) w) \/
     (∃t,m<t/\t<=ds.length/\(∀j,t<=j->l.getD j false=false)/\(∀j,m<=j->j<t->l.getD j false=true)/\Θ t (fun x=>a.eval (.tmp x)) w))) hm ?_ ?_ ?_
  · have hno: ∀k,(Array.replicate ops.size false).getD k false=false:=fun k=>by
      by_cases h2:k<ops.size<;>simp[h2]
    exact⟨by rw[Array.size_replicate];exact G.size,atDoor_start a0 ds,rfl,rfl,fun k o h=>absurd h (by rw[hno];decide),fun k _ h=>absurd h (by rw[hno];decide),fun k _ _ h=>absurd h (by rw[hno];decide), .inl ⟨fun t _=>hno t,atDoor_start a0 _,h0,fun h=>absurd h (by rw[hno];decide),fun k _ _ h=>absurd h (by rw[hno];decide)⟩⟩
  · rintro l a w i ⟨hls,hAD,hasz,hadf,hcl,hFl,hPl,hV⟩ hi;obtain⟨hun,o,ho,hpre⟩:=mem_ready.1 hi;have hilt:i<ops.size:=(Array.getElem?_eq_some_iff.1 ho).1
    have hin:i<ds.length:=by rw[<-G.size];exact hilt
    have hil:i<l.size:=by omega
    have hun2:l.getD i false=false:=by
      cases h:l.getD i false with
      |false=>rfl
      |true=>simp[hil]at h hun;rw[h]at hun;cases hun
    have hcl2: ∀(k:Nat) (o':Oper),(l.setIfInBounds i true).getD k false=true->ops[k]? =some o'-> ∀e∈o'.after,Region.binds .any e=true->(l.setIfInBounds i true).getD e.on false=true:=fun k o' hk ho' e he hb=>by
      refine(getD_set_iff hil).mpr (.inr ?_)
      rcases listed_set hk with h|h
      · subst h;rw[ho]at ho';obtain rfl:=Option.some.inj ho';exact hpre e he hb
      · exact hcl k o' h ho' e he hb
    have hls2:(l.setIfInBounds i true).size=ds.length:=by rw[Array.size_setIfInBounds];exact hls
    have hsame: ∀v,(ds.getD i 0<1000/\o.dst=some (ds.getD i 0))->(a.put o.dst v).eval (.tmp (ds.getD i 0))=v:=fun v hd=>by
      rw[hd.2,eval_put_same _ _ _ (by rw[hasz];exact(hsz _ (fds_mem hin)).resolve_right (by omega))]
    have hother: ∀v k,k<ds.length->k≠i->(a.put o.dst v).eval (.tmp (ds.getD k 0))=a.eval (.tmp (ds.getD k 0)):=fun v k hk hki=>by
      rcases G.dst i o ho with hd|hd
      · rw[hd.2,eval_put_other _ _ _ _ (fun e=>hki (fds_inj G.nodup hk hin e))]
      · rw[hd.2.1];rfl
    have hADp: ∀v,AtDoor a0 ds (a.put o.dst v).eval:=fun v=>by
      rcases G.dst i o ho with hd|hd
      · rw[hd.2];exact hAD.put (fds_mem hin) v
      · rw[hd.2.1];exact hAD
    have hszp: ∀v,(a.put o.dst v).tmps.size=a0.tmps.size:=fun v=>by
      rcases G.dst i o ho with hd|hd
      · rw[hd.2];show(a.tmps.setIfInBounds _ _).size=_
        rw[Array.size_setIfInBounds];exact hasz
      · rw[hd.2.1];exact hasz
    have hdfp: ∀v,(a.put o.dst v).defers=a0.defers:=fun v=>by
      rcases G.dst i o ho with hd|hd
      · rw[hd.2];exact hadf
      · rw[hd.2.1];exact hadf
    refine wpOp_at ho (G.guard i o ho) ?_
    have hset: ∀k,k≠i->(l.setIfInBounds i true).getD k false=l.getD k false:=fun k hk=>by
      cases h:l.getD k false with
      |true=>exact(getD_set_iff hil).mpr (.inr h)
      | false =>
        cases h2:(l.setIfInBounds i true).getD k false with
        |false=>rfl
        |true=>rw[(listed_set h2).resolve_left hk]at h;cases h
    have hseti:(l.setIfInBounds i true).getD i false=true:=(getD_set_iff hil).mpr (.inl rfl);have hmt:i<m->ds.getD i 0∈ds.take m:=fun h=>by
      rw[List.getD_eq_getElem?_getD,List.getElem?_eq_getElem hin]
      exact List.mem_take_iff_getElem.mpr ⟨i,by omega,rfl⟩
    by_cases hiF:i∈F
    · have him:=G.loose i hiF;obtain⟨v,hr,hv⟩:=hloose i o hiF ho a.eval w hAD (fun e he hb heF=>hPl e.on (Nat.lt_trans (G.back i o ho e he hb) him) heF (hpre e he hb))
      have hdi:=(G.dst i o ho).resolve_right (by omega)
      have hgo: ∀(X:Prop),((l.setIfInBounds i true).size=ds.length/\AtDoor a0 ds (a.put o.dst v).eval/\(a.put o.dst v).tmps.size=a0.tmps.size/\(a.put o.dst v).defers=a0.defers/\
        (∀(i_1:Nat) (o:Oper),(l.setIfInBounds i true).getD i_1 false=true->ops[i_1]? =some o-> ∀e∈o.after,Region.binds .any e=true->(l.setIfInBounds i true).getD e.on false=true)/\
        (∀k,k∈F->(l.setIfInBounds i true).getD k false=true->Ψ k ((a.put o.dst v).eval (.tmp (ds.getD k 0))))/\(∀k,k<m->k∉F->(l.setIfInBounds i true).getD k false=true-> ∃w1,Φ k ((a.put o.dst v).eval (.tmp (ds.getD k 0))) w1)/\X)↔X:=fun X=>by
        refine⟨fun h=>h.2.2.2.2.2.2.2,fun h=>⟨hls2,hADp v,hszp v,hdfp v,hcl2,fun k hk hkl=> ?_,fun k hk hkF hkl=> ?_,h⟩⟩
        rotate_left
        · have hki:k≠i:=fun e=>hkF (e▸hiF)
          rw[hother v k (by have:=G.le;omega) hki]
          exact hPl k hk hkF ((listed_set hkl).resolve_left hki)
        by_cases hki:k=i
        · subst hki;rw[hsame v hdi];exact hv
        · rw[hother v k (Nat.lt_of_lt_of_le (G.loose k hk) G.le) hki];exact hFl k hk ((listed_set hkl).resolve_left hki)
      unfold Oper.wp;rw[hr,Oper.upon_value];refine(hgo _).mpr ?_
      rcases hV with⟨hno,hAT,hIw,hJw,hF⟩|⟨t,ht1,ht2,hno,hyes,hT⟩
      · refine .inl ⟨fun t ht=>by rw[hset t (by omega)];exact hno t ht,by rw[hdi.2];exact hAT.put (hmt him) v,hIw,fun e=> ?_,fun k hk hkF hkl=> ?_⟩
        · have n1:q1≠i:=fun e2=>hq.2.2.1 (e2▸hiF)
          have n2:q2≠i:=fun e2=>hq.2.2.2.1 (e2▸hiF)
          rw[hother v q1 (by have:=G.le;omega) n1,hother v q2 (by have:=G.le;omega) n2]
          exact hJw ((listed_set e).resolve_left n2)
        have hki:k≠i:=fun e=>hkF (e▸hiF)
        rw[hother v k (by have:=G.le;omega) hki]
        exact hF k hk hkF ((listed_set hkl).resolve_left hki)
      · refine .inr ⟨t,ht1,ht2,fun j hj=>by rw[hset j (by omega)];exact hno j hj,fun j h1 h2=>by rw[hset j (by omega)];exact hyes j h1 h2,hΘ t _ _ w (fun k hk hkF=> ?_) hT⟩
        exact(hother v k (by omega) (fun e=>hkF (e▸hiF))).symm
    by_cases him:i<m
    · -- ahead of the tail
      rcases hV with⟨hno,hAT,hIw,hJw,hF⟩|⟨t,ht1,ht2,hno,hyes,hT⟩
      · refine hstep i o him hiF ho a w hIw hAT (fun e he hb heF=>hF e.on (Nat.lt_trans (G.back i o ho e he hb) him) heF (hpre e he hb)) _ fun v w' hphi hb hpsi=> ?_
        have hdi:=(G.dst i o ho).resolve_right (by omega)
        refine⟨hls2,hADp v,hszp v,hdfp v,hcl2,fun k hk hkl=> ?_,fun k hk hkF hkl=> ?_, .inl ⟨fun t ht=>by rw[hset t (by omega)];exact hno t ht,by rw[hdi.2];exact hAT.put (hmt him) v,hI _ _ hIw hb,fun e=> ?_,fun k hk hkF hkl=> ?_⟩⟩
        · have hki:k≠i:=fun e=>hiF (e▸hk)
          rw[hother v k (Nat.lt_of_lt_of_le (G.loose k hk) G.le) hki];exact hFl k hk ((listed_set hkl).resolve_left hki)
        · by_cases hki:k=i
          · subst hki;rw[hsame v hdi];exact⟨_,hphi⟩
          · rw[hother v k (by have:=G.le;omega) hki]
            exact hPl k hk hkF ((listed_set hkl).resolve_left hki)
        · by_cases hiq:i=q2
          · have n1:q1≠i:=fun e2=>hq.2.2.2.2 (e2.trans hiq)
            rw[hother v q1 (by have:=G.le;omega) n1,<-hiq,hsame v hdi]
            exact hpsi hiq
          · have l2:l.getD q2 false=true:=(listed_set e).resolve_left (fun e2=>hiq e2.symm)
            have n1:q1≠i:=by
              rintro rfl;have h2:q2<ops.size:=by rw[G.size];have:=G.le;omega
              obtain⟨e3,he3,he4,he5⟩:=hqe _ (Array.getElem?_eq_getElem h2)
              have:=hcl q2 _ l2 (Array.getElem?_eq_getElem h2) e3 he3 he5
              rw[he4,hun2]at this;cases this
            rw[hother v q1 (by have:=G.le;omega) n1,hother v q2 (by have:=G.le;omega) (fun e2=>hiq e2.symm)]
            exact hJw l2
        · by_cases hki:k=i
          · subst hki;rw[hsame v hdi];exact hphi
          · rw[hother v k (by have:=G.le;omega) hki]
            exact hΦ k _ _ _ (hF k hk hkF ((listed_set hkl).resolve_left hki)) hb
      · exfalso
        have h1:=hyes m (Nat.le_refl _) ht1;have h2:=waits_done hcl 12 m i (G.last m i (by omega) (Nat.le_refl _) him hiF) (fun o' ho' e he hb=>hcl m o' h1 ho' e he hb)
        rw[hun2]at h2;cases h2
    · -- in the tail
      have hall: ∀k,k<i->k∉F->l.getD k false=true:=fun k hk hkF=>waits_done hcl 12 i k (G.last i k hin (by omega) hk hkF) (fun o' ho' e he hb=>by
        rw[ho]at ho';obtain rfl:=Option.some.inj ho';exact hpre e he hb)
      have hTi:Θ i (fun x=>a.eval (.tmp x)) w/\(∀j,i<=j->l.getD j false=false)/\(∀j,m<=j->j<i->l.getD j false=true):=by
        rcases hV with⟨hno,hAT,hIw,hJw,hF⟩|⟨t,ht1,ht2,hno,hyes,hT⟩
        · obtain rfl:i=m:=by
            rcases Nat.lt_or_ge m i with h|h
            · have h3:=hall m h (fun q=>by have:=G.loose m q;omega)
              rw[hno m (Nat.le_refl _)]at h3;cases h3
            · omega
          exact⟨hmid _ w hIw (hJw (hall q2 hq.2.1 hq.2.2.2.1)) fun k hk hkF=>hF k hk hkF (hall k hk hkF),fun j hj=>hno j hj,fun j h1 h2=>by omega⟩
        · obtain rfl:i=t:=by
            rcases Nat.lt_trichotomy i t with h|h|h
            · have:=hyes i (by omega) h
              rw[hun2]at this;cases this
            · exact h
            · have h3:=hall t h (fun q=>by have:=G.loose t q;omega)
              rw[hno t (Nat.le_refl _)]at h3;cases h3
          exact⟨hT,hno,hyes⟩
      obtain⟨hT,hno,hyes⟩:=hTi;refine htail i o (by omega) ho a w hAD hT (fun e he hb heF=>hFl e.on heF (hpre e he hb)) _ fun v w' hT'=> ?_
      refine⟨hls2,hADp v,hszp v,hdfp v,hcl2,fun k hk hkl=> ?_,fun k hk hkF hkl=> ?_, .inr ⟨i+1,by omega,by omega,fun j hj=>by rw[hset j (by omega)];exact hno j (by omega),fun j h1 h2=> ?_,hΘ _ _ _ w' (fun k hk hkF=> ?_) hT'⟩⟩
      · have hki:k≠i:=fun e=>hiF (e▸hk)
        rw[hother v k (Nat.lt_of_lt_of_le (G.loose k hk) G.le) hki];exact hFl k hk ((listed_set hkl).resolve_left hki)
      · have hki:k≠i:=by omega
        rw[hother v k (by have:=G.le;omega) hki]
        exact hPl k hk hkF ((listed_set hkl).resolve_left hki)
      · by_cases hji:j=i
        · subst hji;exact hseti
        · rw[hset j hji];exact hyes j h1 (by omega)
      · by_cases hki:k=i
        · subst hki;rcases G.dst k o ho with hd|hd
          · rw[hd.2]at hsame⊢;simp only[if_true];exact(hsame v ⟨hd.1,rfl⟩).symm
          · rw[hd.2.1];rfl
        · rw[hother v k (by omega) hki]
          rcases G.dst i o ho with hd|hd
          · rw[hd.2];simp only[Option.some.injEq];rw[if_neg (fun e=>hki (fds_inj G.nodup (by omega) hin e.symm))]
          · rw[hd.2.1];rfl
  · rintro l a w ⟨hls,hAD,hasz,hadf,hcl,hFl,hPl,hV⟩ hr;have hall:=all_listed' (by rw[hls,G.size]) G.back hr
    rw[act_fill hAD hasz hadf];rcases hV with⟨hno,hAT,hIw,hJw,hF⟩|⟨t,ht1,ht2,hno,hyes,hT⟩
    · have hml:m=ds.length:=by
        rcases Nat.lt_or_ge m ds.length with h|h
        · have h3:=hall m (by rw[G.size];exact h)
          rw[hno m (Nat.le_refl _)]at h3;cases h3
        · have:=G.le;omega
      have h4:=hmid (fun t=>a.eval (.tmp t)) w hIw (hJw (hall q2 (by rw[G.size];have:=G.le;omega))) fun k hk hkF=>hF k hk hkF (hall k (by rw[G.size];omega))
      rw[hml]at h4;exact hend _ w h4
    · obtain rfl:t=ds.length:=by
        rcases Nat.lt_or_ge t ds.length with h|h
        · have h3:=hall t (by rw[G.size];exact h)
          rw[hno t (Nat.le_refl _)]at h3;cases h3
        · omega
      exact hend _ w hT
end
end Go.Proofs.YtngdbbligebcbabGreatDoor
