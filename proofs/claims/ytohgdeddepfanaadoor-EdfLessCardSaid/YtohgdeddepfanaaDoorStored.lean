/- A region that draws its order, with one store into a block that it makes itself, in the seat YtohgdeddepfanaaDoor: whatever the store waits for, by facts; what doesn't lie ahead of it (moves, pure) may come up behind it. No statement is proved here. -/
import Derived.Test.YtohgdeddepfanaaDoorFacts
import Derived.Test.YtohgdeddepfanaaDoorGather2
set_option linter.unusedVariables false
namespace Go.Proofs.YtohgdeddepfanaaDoor
open Go Go.RowKit

section
variable {P : Program} {ops : Array Oper} {Q : Exit → Act → World → Prop}
/-- The edges that bind lead back. -/
def backB' (ops : Array Oper) : Bool := (List.range ops.size).all fun i => match ops[i]? with
  | some o => o.after.all fun e => !(Region.binds .any e) || decide (e.on < i)
  | none => true
theorem back_of' (h : backB' ops = true) : ∀ (i : Nat) (o : Oper), ops[i]? = some o → ∀ e ∈ o.after, Region.binds .any e = true → e.on < i := by
  intro i o ho e he hb
  have hi : i < ops.size := (Array.getElem?_eq_some_iff.1 ho).1
  have h1 := List.all_eq_true.1 h i (List.mem_range.2 hi)
  rw [ho] at h1
  have h2 := Array.all_eq_true'.1 h1 e he
  rw [hb] at h2
  exact of_decide_eq_true (by simpa using h2)
theorem all_listed' {listed : Array Bool} (hs : listed.size = ops.size) (hb : ∀ (i : Nat) (o : Oper), ops[i]? = some o → ∀ e ∈ o.after, Region.binds .any e = true → e.on < i) (hr : Region.ready .any ops listed = []) : ∀ i, i < ops.size → listed.getD i false = true := by
  intro i
  induction i using Nat.strongRecOn with
  | _ i ih =>
    intro hi
    cases hl : listed.getD i false with
    | true => rfl
    | false =>
      have hi2 : i < listed.size := by omega
      have h1 : listed.getD i true = false := by
        simp [hi2] at hl ⊢
        exact hl
      have h2 : i ∈ Region.ready .any ops listed := mem_ready.2 ⟨h1, ops[i], Array.getElem?_eq_getElem hi, fun e he hbd => by
        have h3 := hb i _ (Array.getElem?_eq_getElem hi) e he hbd
        exact ih e.on h3 (by omega)⟩
      rw [hr] at h2
      simp at h2
/-- What the region's text must be (all by the kernel): ds are the operations' slots (1000 or more at the store's place p), S the places that the store doesn't wait for. -/
def storedB (ops : Array Oper) (p : Nat) (ds S : List Nat) : Bool :=
  ops.size == ds.length && decide (p < ds.length) && (ops.toList.all fun o : Oper => o.guard.isNone) && backB' ops && decide ds.Nodup && !(S.contains p) &&
  ((List.range ds.length).all fun k => (match ops[k]? with | some o => if k = p then o.dst == none && decide (1000 ≤ ds.getD k 0) else o.dst == some (ds.getD k 0) && decide (ds.getD k 0 < 1000) | none => false)) &&
  ((List.range ds.length).all fun k => k == p || S.contains k || waitsB ops 12 p k)
structure Stored (ops : Array Oper) (p : Nat) (ds S : List Nat) : Prop where
  size : ops.size = ds.length
  lt : p < ds.length
  guard : ∀ (k : Nat) (o : Oper), ops[k]? = some o → o.guard = none
  back : ∀ (i : Nat) (o : Oper), ops[i]? = some o → ∀ e ∈ o.after, Region.binds .any e = true → e.on < i
  nodup : ds.Nodup
  apart : p ∉ S
  dst : ∀ (k : Nat) (o : Oper), k ≠ p → ops[k]? = some o → o.dst = some (ds.getD k 0) ∧ ds.getD k 0 < 1000
  none_ : ∀ (o : Oper), ops[p]? = some o → o.dst = none
  last : ∀ k, k < ds.length → k ≠ p → k ∉ S → waitsB ops 12 p k = true
theorem stored_of {p : Nat} {ds S : List Nat} (h : storedB ops p ds S = true) : Stored ops p ds S := by
  unfold storedB at h
  simp only [Bool.and_eq_true, beq_iff_eq, decide_eq_true_iff, Bool.not_eq_true'] at h
  obtain ⟨⟨⟨⟨⟨⟨⟨h1, h2⟩, h3⟩, h4⟩, h5⟩, h6⟩, h7⟩, h8⟩ := h
  have hk : ∀ (k : Nat) (o : Oper), ops[k]? = some o → k < ds.length := fun k o ho => h1 ▸ (Array.getElem?_eq_some_iff.1 ho).1
  refine ⟨h1, h2, fun k o ho => ?_, back_of' h4, h5, fun hm => ?_, fun k o hkp ho => ?_, fun o ho => ?_, fun k hkl hkp hkS => ?_⟩
  · have := List.all_eq_true.1 h3 o (by rw [Array.mem_toList_iff]; exact Array.mem_of_getElem? ho)
    exact Option.isNone_iff_eq_none.1 this
  · rw [List.contains_iff_mem.mpr hm] at h6
    cases h6
  · have := List.all_eq_true.1 h7 k (List.mem_range.2 (hk k o ho))
    rw [ho] at this
    simp only [if_neg hkp, Bool.and_eq_true, beq_iff_eq, decide_eq_true_iff] at this
    exact this
  · have := List.all_eq_true.1 h7 p (List.mem_range.2 h2)
    rw [ho] at this
    simp only [if_true, Bool.and_eq_true, beq_iff_eq, decide_eq_true_iff] at this
    exact this.1
  · have := List.all_eq_true.1 h8 k (List.mem_range.2 hkl)
    simp only [Bool.or_eq_true, beq_iff_eq, List.contains_iff_mem] at this
    rcases this with (h | h) | h
    · exact absurd h hkp
    · exact absurd h hkS
    · exact h
set_option maxHeartbeats 2000000 in
theorem wp_region_stored (p : Nat) (ds S : List Nat) {id : Nat} {a0 : Act} {w0 : World} (hm : P.follows .mixedOrders = true) (hG : storedB ops p ds S = true) (hsz : ∀ d ∈ ds, d < a0.tmps.size ∨ 1000 ≤ d)
    (I : World → Prop) (Φ : Nat → Value → World → Prop) (Θ : (Nat → Value) → World → Prop)
    (hI : ∀ w w', I w → Below w.heap.size w w' → I w') (hΦ : ∀ k v w w', Φ k v w → Below w.heap.size w w' → Φ k v w')
    (h0 : I { w0 with drawn := w0.drawn + 1 })
    (hstep : ∀ (k : Nat) (o : Oper), k ≠ p → k ∉ S → ops[k]? = some o → ∀ (a : Act) (w : World), I w → AtDoor a0 ds a.eval → (∀ e ∈ o.after, Region.binds .any e = true → Φ e.on (a.eval (.tmp (ds.getD e.on 0))) w) →
      ∀ K : Act → World → Prop, (∀ v w', Φ k v w' → Below w.heap.size w w' → K (a.put o.dst v) w') → o.wp P a w K Q)
    (hpure : ∀ (k : Nat) (o : Oper), k ∈ S → ops[k]? = some o → ∀ (ρ : Operand → Value) (w : World), AtDoor a0 ds ρ → (∀ e ∈ o.after, Region.binds .any e = true → e.on ≠ p → ∃ w', Φ e.on (ρ (.tmp (ds.getD e.on 0))) w') →
      ∃ v, (execOp ρ o).run P w = .ok (.value v) w ∧ ∀ w', Φ k v w')
    (hstore : ∀ (o : Oper), ops[p]? = some o → ∀ (a : Act) (w : World), I w → AtDoor a0 ds a.eval → (∀ k, k < ds.length → k ≠ p → k ∉ S → Φ k (a.eval (.tmp (ds.getD k 0))) w) →
      ∀ K : Act → World → Prop, (∀ w', Θ (fun t => a.eval (.tmp t)) w' → K a w') → o.wp P a w K Q)
    (hΘ : ∀ (f g : Nat → Value) w, (∀ k, k < ds.length → k ≠ p → k ∉ S → f (ds.getD k 0) = g (ds.getD k 0)) → Θ f w → Θ g w)
    (hend : ∀ (vals : Nat → Value) (w : World), Θ vals w → (∀ k, k < ds.length → k ≠ p → ∃ w', Φ k (vals (ds.getD k 0)) w') → Q .normal ⟨(fillA a0 ds vals).toArray, a0.defers⟩ w) :
    (Code.region id ops true).wp P Q a0 w0 := by
  have G := stored_of hG
  refine wp_region_inv (fun l a w => l.size = ds.length ∧ AtDoor a0 ds a.eval ∧ a.tmps.size = a0.tmps.size ∧ a.defers = a0.defers ∧
    (∀ (i : Nat) (o : Oper), l.getD i false = true → ops[i]? = some o → ∀ e ∈ o.after, Region.binds .any e = true → l.getD e.on false = true) ∧
    ((l.getD p false = false ∧ I w ∧ ∀ k, k < ds.length → k ≠ p → l.getD k false = true → Φ k (a.eval (.tmp (ds.getD k 0))) w) ∨
     (l.getD p false = true ∧ Θ (fun t => a.eval (.tmp t)) w ∧ ∀ k, k < ds.length → k ≠ p → l.getD k false = true → ∃ w', Φ k (a.eval (.tmp (ds.getD k 0))) w'))) hm ?_ ?_ ?_
  · have hno : ∀ k, ¬ (Array.replicate ops.size false).getD k false = true := fun k h => by
      by_cases h2 : k < ops.size <;> simp [h2] at h
    refine ⟨by rw [Array.size_replicate]; exact G.size, atDoor_start a0 ds, rfl, rfl, fun k o h => absurd h (hno k), .inl ⟨?_, h0, fun k hk hkp h => absurd h (hno k)⟩⟩
    cases h : (Array.replicate ops.size false).getD p false with
    | false => rfl
    | true => exact absurd h (hno p)
  · rintro l a w i ⟨hls, hAD, hasz, hadf, hcl, hV⟩ hi
    obtain ⟨hun, o, ho, hpre⟩ := mem_ready.1 hi
    have hilt : i < ops.size := (Array.getElem?_eq_some_iff.1 ho).1
    have hin : i < ds.length := by rw [← G.size]; exact hilt
    have hil : i < l.size := by omega
    have hun2 : l.getD i false = false := by
      cases h : l.getD i false with
      | false => rfl
      | true => simp [hil] at h hun; rw [h] at hun; cases hun
    have hcl2 : ∀ (k : Nat) (o' : Oper), (l.setIfInBounds i true).getD k false = true → ops[k]? = some o' → ∀ e ∈ o'.after, Region.binds .any e = true → (l.setIfInBounds i true).getD e.on false = true := fun k o' hk ho' e he hb => by
      refine (getD_set_iff hil).mpr (.inr ?_)
      rcases listed_set hk with h | h
      · subst h
        rw [ho] at ho'
        obtain rfl := Option.some.inj ho'
        exact hpre e he hb
      · exact hcl k o' h ho' e he hb
    have hls2 : (l.setIfInBounds i true).size = ds.length := by rw [Array.size_setIfInBounds]; exact hls
    refine wpOp_at ho (G.guard i o ho) ?_
    by_cases hip : i = p
    · subst hip
      rcases hV with ⟨hnl, hIw, hF⟩ | ⟨hnl, _⟩
      · have hall : ∀ k, k < ds.length → k ≠ i → k ∉ S → l.getD k false = true := fun k hk hkp hkS => waits_done hcl 12 i k (G.last k hk hkp hkS) (fun o' ho' e he hb => by
          rw [ho] at ho'
          obtain rfl := Option.some.inj ho'
          exact hpre e he hb)
        refine hstore o ho a w hIw hAD (fun k hk hkp hkS => hF k hk hkp (hall k hk hkp hkS)) _ fun w' hT => ?_
        refine ⟨hls2, hAD, hasz, hadf, hcl2, .inr ⟨(getD_set_iff hil).mpr (.inl rfl), hT, fun k hk hkp hkl => ?_⟩⟩
        exact ⟨w, hF k hk hkp ((listed_set hkl).resolve_left hkp)⟩
      · rw [hun2] at hnl; cases hnl
    · obtain ⟨hd, hdl⟩ := G.dst i o hip ho
      have hdm := fds_mem hin
      have hdz : ds.getD i 0 < a.tmps.size := by
        rcases hsz _ hdm with h | h
        · rw [hasz]; exact h
        · omega
      have hpl : ∀ b, l.getD p false = b → (l.setIfInBounds i true).getD p false = b := fun b hb => by
        cases h : (l.setIfInBounds i true).getD p false with
        | true =>
          rcases listed_set h with h2 | h2
          · exact absurd h2.symm hip
          · rw [← hb, h2]
        | false =>
          cases b with
          | false => rfl
          | true =>
            have := (getD_set_iff (k := p) hil).mpr (.inr hb)
            rw [h] at this; cases this
      have hsz2 : ∀ v, (a.put (some (ds.getD i 0)) v).tmps.size = a0.tmps.size := fun v => by
        show (a.tmps.setIfInBounds _ _).size = _
        rw [Array.size_setIfInBounds]; exact hasz
      rcases hV with ⟨hnl, hIw, hF⟩ | ⟨hnl, hT, hF⟩
      · have hdep : ∀ e ∈ o.after, Region.binds .any e = true → Φ e.on (a.eval (.tmp (ds.getD e.on 0))) w := fun e he hb => hF e.on (Nat.lt_trans (G.back i o ho e he hb) hin) (fun h => by
          have := hpre e he hb
          rw [h, hnl] at this; cases this) (hpre e he hb)
        have hnext : ∀ v w', Φ i v w' → Below w.heap.size w w' → (l.setIfInBounds i true).size = ds.length ∧ AtDoor a0 ds (a.put (some (ds.getD i 0)) v).eval ∧ (a.put (some (ds.getD i 0)) v).tmps.size = a0.tmps.size ∧ (a.put (some (ds.getD i 0)) v).defers = a0.defers ∧
            (∀ (k : Nat) (o' : Oper), (l.setIfInBounds i true).getD k false = true → ops[k]? = some o' → ∀ e ∈ o'.after, Region.binds .any e = true → (l.setIfInBounds i true).getD e.on false = true) ∧
            (((l.setIfInBounds i true).getD p false = false ∧ I w' ∧ ∀ k, k < ds.length → k ≠ p → (l.setIfInBounds i true).getD k false = true → Φ k ((a.put (some (ds.getD i 0)) v).eval (.tmp (ds.getD k 0))) w') ∨
             ((l.setIfInBounds i true).getD p false = true ∧ Θ (fun t => (a.put (some (ds.getD i 0)) v).eval (.tmp t)) w' ∧ ∀ k, k < ds.length → k ≠ p → (l.setIfInBounds i true).getD k false = true → ∃ w'', Φ k ((a.put (some (ds.getD i 0)) v).eval (.tmp (ds.getD k 0))) w'')) := fun v w' hphi hb => by
          refine ⟨hls2, hAD.put hdm v, hsz2 v, hadf, hcl2, .inl ⟨hpl _ hnl, hI w w' hIw hb, fun k hk hkp hkl => ?_⟩⟩
          by_cases hki : k = i
          · subst hki
            rw [eval_put_same _ _ _ hdz]
            exact hphi
          · rw [eval_put_other _ _ _ _ (fun e => hki (fds_inj G.nodup hk hin e))]
            exact hΦ k _ _ _ (hF k hk hkp ((listed_set hkl).resolve_left hki)) hb
        by_cases hiS : i ∈ S
        · obtain ⟨v, hr, hphi⟩ := hpure i o hiS ho a.eval w hAD (fun e he hb _ => ⟨w, hdep e he hb⟩)
          unfold Oper.wp
          rw [hr, Oper.upon_value, hd]
          exact hnext v w (hphi w) (Below.refl _ _)
        · refine hstep i o hip hiS ho a w hIw hAD hdep _ fun v w' hphi hb => ?_
          rw [hd]
          exact hnext v w' hphi hb
      · have hall : ∀ k, k < ds.length → k ≠ p → k ∉ S → l.getD k false = true := fun k hk hkp hkS => by
          obtain ⟨op, hop⟩ : ∃ op, ops[p]? = some op := ⟨_, Array.getElem?_eq_getElem (by rw [G.size]; exact G.lt)⟩
          exact waits_done hcl 12 p k (G.last k hk hkp hkS) (fun o' ho' e he hb => hcl p o' hnl ho' e he hb)
        have hiS : i ∈ S := Classical.byContradiction fun h => by
          have := hall i hin hip h
          rw [hun2] at this; cases this
        obtain ⟨v, hr, hphi⟩ := hpure i o hiS ho a.eval w hAD (fun e he hb hep => by
          have he2 := hpre e he hb
          have hlt := Nat.lt_trans (G.back i o ho e he hb) hin
          exact hF e.on hlt hep he2)
        unfold Oper.wp
        rw [hr, Oper.upon_value, hd]
        refine ⟨hls2, hAD.put hdm v, hsz2 v, hadf, hcl2, .inr ⟨hpl _ hnl, ?_, fun k hk hkp hkl => ?_⟩⟩
        · refine hΘ _ _ w (fun k hk hkp hkS => ?_) hT
          exact (eval_put_other _ _ _ _ (fun e => hkS (by rw [fds_inj G.nodup hk hin e]; exact hiS))).symm
        · by_cases hki : k = i
          · subst hki
            rw [eval_put_same _ _ _ hdz]
            exact ⟨w, hphi w⟩
          · rw [eval_put_other _ _ _ _ (fun e => hki (fds_inj G.nodup hk hin e))]
            exact hF k hk hkp ((listed_set hkl).resolve_left hki)
  · rintro l a w ⟨hls, hAD, hasz, hadf, hcl, hV⟩ hr
    have hall := all_listed' (by rw [hls, G.size]) G.back hr
    have hp := hall p (by rw [G.size]; exact G.lt)
    rcases hV with ⟨hnl, _⟩ | ⟨_, hT, hF⟩
    · rw [hp] at hnl; cases hnl
    · rw [act_fill hAD hasz hadf]
      exact hend (fun t => a.eval (.tmp t)) w hT fun k hk hkp => hF k hk hkp (hall k (by rw [G.size]; exact hk))
end
end Go.Proofs.YtohgdeddepfanaaDoor
