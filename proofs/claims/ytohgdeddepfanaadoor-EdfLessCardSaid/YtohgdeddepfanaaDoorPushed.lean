/- A region that draws its order, with one operation near its end that lets a row grow (append), whose value the last operation moves into a variable, in the seat YtohgdeddepfanaaDoor: whatever lies ahead of it by facts. No statement is proved here. -/
import Derived.Test.YtohgdeddepfanaaDoorStored
set_option linter.unusedVariables false
namespace Go.Proofs.YtohgdeddepfanaaDoor
open Go Go.RowKit

section
variable {P : Program} {ops : Array Oper} {Q : Exit → Act → World → Prop}
/-- What the region's text must be (all by the kernel): ds are the slots of the first n operations, dp that of the n-th (which waits for all of them), dl that of the last one, a move of dp. -/
def pushedB (ops : Array Oper) (ds : List Nat) (dp dl : Nat) : Bool :=
  ops.size == ds.length + 2 && (ops.toList.all fun o : Oper => o.guard.isNone) && backB' ops && decide (ds ++ [dp]).Nodup && !(ds.contains dl) && !(dl == dp) &&
  ((List.range ds.length).all fun k => (match ops[k]? with | some o => o.dst == some (ds.getD k 0) | none => false)) &&
  ((List.range ds.length).all fun k => waitsB ops 12 ds.length k) &&
  (match ops[ds.length]? with | some o => o.dst == some dp | none => false) &&
  (match ops[ds.length + 1]? with | some o => o.dst == some dl && (o.after.any fun e => e.on == ds.length && Region.binds .any e) | none => false)
structure Pushed (ops : Array Oper) (ds : List Nat) (dp dl : Nat) : Prop where
  size : ops.size = ds.length + 2
  guard : ∀ (k : Nat) (o : Oper), ops[k]? = some o → o.guard = none
  back : ∀ (i : Nat) (o : Oper), ops[i]? = some o → ∀ e ∈ o.after, Region.binds .any e = true → e.on < i
  nodup : (ds ++ [dp]).Nodup
  apart : dl ∉ ds ∧ dl ≠ dp
  dst : ∀ (k : Nat) (o : Oper), k < ds.length → ops[k]? = some o → o.dst = some (ds.getD k 0)
  last : ∀ k, k < ds.length → waitsB ops 12 ds.length k = true
  dstp : ∀ (o : Oper), ops[ds.length]? = some o → o.dst = some dp
  dstl : ∀ (o : Oper), ops[ds.length + 1]? = some o → o.dst = some dl ∧ ∃ e ∈ o.after, e.on = ds.length ∧ Region.binds .any e = true
theorem pushed_of {ds : List Nat} {dp dl : Nat} (h : pushedB ops ds dp dl = true) : Pushed ops ds dp dl := by
  unfold pushedB at h
  simp only [Bool.and_eq_true, beq_iff_eq, decide_eq_true_iff, Bool.not_eq_true'] at h
  obtain ⟨⟨⟨⟨⟨⟨⟨⟨⟨h1, h2⟩, h3⟩, h4⟩, h5⟩, h6⟩, h7⟩, h8⟩, h9⟩, h10⟩ := h
  refine ⟨h1, fun k o ho => ?_, back_of' h3, h4, ⟨fun hm => ?_, fun e => ?_⟩, fun k o hk ho => ?_, fun k hk => List.all_eq_true.1 h8 k (List.mem_range.2 hk), fun o ho => ?_, fun o ho => ?_⟩
  · have := List.all_eq_true.1 h2 o (by rw [Array.mem_toList_iff]; exact Array.mem_of_getElem? ho)
    exact Option.isNone_iff_eq_none.1 this
  · rw [List.contains_iff_mem.mpr hm] at h5
    cases h5
  · rw [e] at h6
    simp at h6
  · have := List.all_eq_true.1 h7 k (List.mem_range.2 hk)
    rw [ho] at this
    simpa using this
  · rw [ho] at h9
    simpa using h9
  · rw [ho] at h10
    simp only [Bool.and_eq_true, beq_iff_eq] at h10
    obtain ⟨e, he, h8⟩ := Array.any_eq_true'.1 h10.2
    rw [Bool.and_eq_true, beq_iff_eq] at h8
    exact ⟨h10.1, e, he, h8.1, h8.2⟩
set_option maxHeartbeats 2000000 in
theorem wp_region_pushed (ds : List Nat) (dp dl : Nat) {id : Nat} {a0 : Act} {w0 : World} (hm : P.follows .mixedOrders = true) (hG : pushedB ops ds dp dl = true) (hsz : ∀ d ∈ ds ++ [dp, dl], d < a0.tmps.size)
    (hmv : ∃ o, ops[ds.length + 1]? = some o ∧ ∀ (ρ : Operand → Value) (w : World), (execOp ρ o).run P w = .ok (.value (ρ (.tmp dp))) w)
    (I : World → Prop) (Φ : Nat → Value → World → Prop) (Θ : Value → World → Prop)
    (hI : ∀ w w', I w → Below w.heap.size w w' → I w') (hΦ : ∀ k v w w', Φ k v w → Below w.heap.size w w' → Φ k v w')
    (h0 : I { w0 with drawn := w0.drawn + 1 })
    (hstep : ∀ (k : Nat) (o : Oper), k < ds.length → ops[k]? = some o → ∀ (a : Act) (w : World), I w → AtDoor a0 (ds ++ [dp]) a.eval → (∀ e ∈ o.after, Region.binds .any e = true → Φ e.on (a.eval (.tmp (ds.getD e.on 0))) w) →
      ∀ K : Act → World → Prop, (∀ v w', Φ k v w' → Below w.heap.size w w' → K (a.put o.dst v) w') → o.wp P a w K Q)
    (hpush : ∀ (o : Oper), ops[ds.length]? = some o → ∀ (ρ : Operand → Value) (w : World), I w → AtDoor a0 (ds ++ [dp]) ρ → (∀ k, k < ds.length → Φ k (ρ (.tmp (ds.getD k 0))) w) →
      ∃ v w', (execOp ρ o).run P w = .ok (.value v) w' ∧ Θ v w')
    (hend : ∀ (vals : Nat → Value) (w : World), Θ (vals dp) w → vals dl = vals dp → Q .normal ⟨(fillA a0 (ds ++ [dp, dl]) vals).toArray, a0.defers⟩ w) :
    (Code.region id ops true).wp P Q a0 w0 := by
  have G := pushed_of hG
  have hdpm : dp ∉ ds := fun hm => by
    have := List.nodup_append.mp G.nodup
    exact this.2.2 dp hm dp (by simp) rfl
  have hnd : ds.Nodup := (List.nodup_append.mp G.nodup).1
  refine wp_region_inv (fun l a w => l.size = ds.length + 2 ∧ a.tmps.size = a0.tmps.size ∧ a.defers = a0.defers ∧
    (∀ (i : Nat) (o : Oper), l.getD i false = true → ops[i]? = some o → ∀ e ∈ o.after, Region.binds .any e = true → l.getD e.on false = true) ∧
    ((l.getD ds.length false = false ∧ l.getD (ds.length + 1) false = false ∧ AtDoor a0 (ds ++ [dp]) a.eval ∧ I w ∧ ∀ k, k < ds.length → l.getD k false = true → Φ k (a.eval (.tmp (ds.getD k 0))) w) ∨
     (l.getD ds.length false = true ∧ l.getD (ds.length + 1) false = false ∧ AtDoor a0 (ds ++ [dp]) a.eval ∧ Θ (a.eval (.tmp dp)) w) ∨
     (l.getD ds.length false = true ∧ l.getD (ds.length + 1) false = true ∧ AtDoor a0 (ds ++ [dp, dl]) a.eval ∧ Θ (a.eval (.tmp dp)) w ∧ a.eval (.tmp dl) = a.eval (.tmp dp)))) hm ?_ ?_ ?_
  · have hno : ∀ k, ¬ (Array.replicate ops.size false).getD k false = true := fun k h => by
      by_cases h2 : k < ops.size <;> simp [h2] at h
    have hno2 : ∀ k, (Array.replicate ops.size false).getD k false = false := fun k => by
      cases h : (Array.replicate ops.size false).getD k false with
      | false => rfl
      | true => exact absurd h (hno k)
    exact ⟨by rw [Array.size_replicate]; exact G.size, rfl, rfl, fun k o h => absurd h (hno k), .inl ⟨hno2 _, hno2 _, atDoor_start a0 _, h0, fun k hk h => absurd h (hno k)⟩⟩
  · rintro l a w i ⟨hls, hasz, hadf, hcl, hV⟩ hi
    obtain ⟨hun, o, ho, hpre⟩ := mem_ready.1 hi
    have hilt : i < ops.size := (Array.getElem?_eq_some_iff.1 ho).1
    have hil : i < l.size := by rw [hls, ← G.size]; exact hilt
    have hun2 : l.getD i false = false := by
      cases h : l.getD i false with
      | false => rfl
      | true => simp [hil] at h hun; rw [h] at hun; cases hun
    have hcl2 : ∀ (k : Nat) (o' : Oper), (l.setIfInBounds i true).getD k false = true → ops[k]? = some o' → ∀ e ∈ o'.after, Region.binds .any e = true → (l.setIfInBounds i true).getD e.on false = true := fun k o' hk ho' e he hb => by
      refine (getD_set_iff hil).mpr (.inr ?_)
      rcases listed_set hk with h | h
      · subst h
        rw [ho] at ho'
        obtain rfl := Option.some.inj ho'
        exact hpre e he hb
      · exact hcl k o' h ho' e he hb
    have hls2 : (l.setIfInBounds i true).size = ds.length + 2 := by rw [Array.size_setIfInBounds]; exact hls
    have hpl : ∀ j b, j ≠ i → l.getD j false = b → (l.setIfInBounds i true).getD j false = b := fun j b hji hb => by
      cases h : (l.setIfInBounds i true).getD j false with
      | true =>
        rcases listed_set h with h2 | h2
        · exact absurd h2 hji
        · rw [← hb, h2]
      | false =>
        cases b with
        | false => rfl
        | true =>
          have := (getD_set_iff (k := j) hil).mpr (.inr hb)
          rw [h] at this; cases this
    have hset : (l.setIfInBounds i true).getD i false = true := (getD_set_iff hil).mpr (.inl rfl)
    have hsz2 : ∀ d v, (a.put (some d) v).tmps.size = a0.tmps.size := fun d v => by
      show (a.tmps.setIfInBounds _ _).size = _
      rw [Array.size_setIfInBounds]; exact hasz
    refine wpOp_at ho (G.guard i o ho) ?_
    rcases Nat.lt_or_ge i ds.length with hin | hge
    · -- one ahead
      have hd := G.dst i o hin ho
      have hdm : ds.getD i 0 ∈ ds ++ [dp] := List.mem_append.mpr (.inl (fds_mem hin))
      have hdz : ds.getD i 0 < a.tmps.size := by rw [hasz]; exact hsz _ (List.mem_append.mpr (.inl (fds_mem hin)))
      rcases hV with ⟨hnl, hnl2, hAD, hIw, hF⟩ | ⟨hnl, _⟩ | ⟨hnl, _⟩
      · have hdep : ∀ e ∈ o.after, Region.binds .any e = true → Φ e.on (a.eval (.tmp (ds.getD e.on 0))) w := fun e he hb => hF e.on (Nat.lt_trans (G.back i o ho e he hb) hin) (hpre e he hb)
        refine hstep i o hin ho a w hIw hAD hdep _ fun v w' hphi hb => ?_
        rw [hd]
        refine ⟨hls2, hsz2 _ v, hadf, hcl2, .inl ⟨hpl _ _ (by omega) hnl, hpl _ _ (by omega) hnl2, hAD.put hdm v, hI w w' hIw hb, fun k hk hkl => ?_⟩⟩
        by_cases hki : k = i
        · subst hki
          rw [eval_put_same _ _ _ hdz]
          exact hphi
        · rw [eval_put_other _ _ _ _ (fun e => hki (fds_inj hnd hk hin e))]
          exact hΦ k _ _ _ (hF k hk ((listed_set hkl).resolve_left hki)) hb
      all_goals
        exfalso
        obtain ⟨op, hop⟩ : ∃ op, ops[ds.length]? = some op := ⟨_, Array.getElem?_eq_getElem (by rw [G.size]; omega)⟩
        have := waits_done hcl 12 ds.length i (G.last i hin) (fun o' ho' e he hb => hcl ds.length o' hnl ho' e he hb)
        rw [hun2] at this; cases this
    · have hi2 : i = ds.length ∨ i = ds.length + 1 := by have := G.size; omega
      rcases hi2 with rfl | rfl
      · -- the one that grows
        have hd := G.dstp o ho
        have hdz : dp < a.tmps.size := by rw [hasz]; exact hsz _ (by simp)
        rcases hV with ⟨hnl, hnl2, hAD, hIw, hF⟩ | ⟨hnl, _⟩ | ⟨hnl, _⟩
        · have hall : ∀ k, k < ds.length → l.getD k false = true := fun k hk => waits_done hcl 12 ds.length k (G.last k hk) (fun o' ho' e he hb => by
            rw [ho] at ho'
            obtain rfl := Option.some.inj ho'
            exact hpre e he hb)
          obtain ⟨v, w', hr, hT⟩ := hpush o ho a.eval w hIw hAD (fun k hk => hF k hk (hall k hk))
          unfold Oper.wp
          rw [hr, Oper.upon_value, hd]
          refine ⟨hls2, hsz2 _ v, hadf, hcl2, .inr (.inl ⟨hset, hpl _ _ (by omega) hnl2, hAD.put (by simp) v, ?_⟩)⟩
          rw [eval_put_same _ _ _ hdz]
          exact hT
        · rw [hun2] at hnl; cases hnl
        · rw [hun2] at hnl; cases hnl
      · -- the move
        obtain ⟨hd, e, he, e1, e2⟩ := G.dstl o ho
        have hp := hpre e he e2
        rw [e1] at hp
        have hdz : dl < a.tmps.size := by rw [hasz]; exact hsz _ (by simp)
        obtain ⟨o', ho', hrun⟩ := hmv
        rw [ho] at ho'
        obtain rfl := Option.some.inj ho'
        rcases hV with ⟨hnl, _⟩ | ⟨hnl, hnl2, hAD, hT⟩ | ⟨_, hnl2, _⟩
        · rw [hp] at hnl; cases hnl
        · unfold Oper.wp
          rw [hrun a.eval w, Oper.upon_value, hd]
          have hAD2 : AtDoor a0 (ds ++ [dp, dl]) a.eval := ⟨hAD.const, fun t ht => hAD.tmp t fun hm => ht (by
            rcases List.mem_append.mp hm with h | h
            · exact List.mem_append.mpr (.inl h)
            · simp at h; simp [h])⟩
          refine ⟨hls2, hsz2 _ _, hadf, hcl2, .inr (.inr ⟨hpl _ _ (by omega) hnl, hset, hAD2.put (by simp) _, ?_, ?_⟩)⟩
          · rw [eval_put_other _ _ _ _ (fun h => G.apart.2 h.symm)]
            exact hT
          · rw [eval_put_same _ _ _ hdz, eval_put_other _ _ _ _ (fun h => G.apart.2 h.symm)]
        · rw [hun2] at hnl2; cases hnl2
  · rintro l a w ⟨hls, hasz, hadf, hcl, hV⟩ hr
    have hall := all_listed' (by rw [hls, G.size]) G.back hr
    have hp := hall ds.length (by rw [G.size]; omega)
    have hp1 := hall (ds.length + 1) (by rw [G.size]; omega)
    rcases hV with ⟨hnl, _⟩ | ⟨_, hnl, _⟩ | ⟨_, _, hAD, hT, he⟩
    · rw [hp] at hnl; cases hnl
    · rw [hp1] at hnl; cases hnl
    · rw [act_fill hAD hasz hadf]
      exact hend (fun t => a.eval (.tmp t)) w hT he
end
end Go.Proofs.YtohgdeddepfanaaDoor
