/- As Facts, where an operation whose guard was itself skipped is skipped too, in the seat YtjmledfmiljoiaaGreatDoor. No statement is proved here. -/
import Derived.Test.YtjmledfmiljoiaaGreatDoorZM4
set_option linter.unusedSimpArgs false
set_option linter.unusedVariables false
namespace Go.Proofs.YtjmledfmiljoiaaGreatDoor
open Go Go.RowKit
section
variable {P : Program} {ops : Array Oper} {Q : Exit → Act → World → Prop}
set_option maxHeartbeats 1000000 in
theorem wp_region_skips (ds : List Nat) (wt : List Bool) {id : Nat} {a0 : Act} {w0 : World} (hm : P.follows .mixedOrders = true) (hG : factsB ops ds wt = true) (hsz : ∀ d ∈ ds, d < a0.tmps.size)
    (I : World → Prop) (Φ : Nat → Value → World → Prop)
    (hI : ∀ w w', I w → Below w.heap.size w w' → I w') (hΦ : ∀ k v w w', Φ k v w → Below w.heap.size w w' → Φ k v w')
    (h0 : I { w0 with drawn := w0.drawn + 1 })
    (hW : ∀ (k : Nat) (o : Oper) (g : Nat) (b : Bool), ops[k]? = some o → o.guard = some (g, b) → ∀ v w, Φ g v w → v = .bool (if wt.getD k true = true then b else !b) ∨ (wt.getD k true = false ∧ v = undef))
    (hskip : ∀ k, wt.getD k true = false → ∀ w, Φ k undef w)
    (hstep : ∀ (k : Nat) (o : Oper), ops[k]? = some o → wt.getD k true = true → ∀ (a : Act) (w : World), I w → AtDoor a0 ds a.eval → (∀ e ∈ o.after, Region.binds .any e = true → Φ e.on (a.eval (.tmp (ds.getD e.on 0))) w) →
      ∀ K : Act → World → Prop, (∀ v w', Φ k v w' → Below w.heap.size w w' → K (a.put o.dst v) w') → o.wp P a w K Q)
    (hend : ∀ (vals : Nat → Value) (w : World), I w → (∀ k, k < ds.length → Φ k (vals (ds.getD k 0)) w) → Q .normal ⟨(fillA a0 ds vals).toArray, a0.defers⟩ w) :
    (Code.region id ops true).wp P Q a0 w0 := by
  have G := facts_of hG
  refine wp_region_inv (fun l a w => l.size = ds.length ∧ I w ∧ AtDoor a0 ds a.eval ∧ a.tmps.size = a0.tmps.size ∧ a.defers = a0.defers ∧ (∀ k, k < ds.length → l.getD k false = true → Φ k (a.eval (.tmp (ds.getD k 0))) w)) hm ?_ ?_ ?_
  · refine ⟨by rw [Array.size_replicate]; exact G.size, h0, atDoor_start a0 ds, rfl, rfl, fun k hk h => ?_⟩
    exfalso
    by_cases h2 : k < ops.size <;> simp [h2] at h
  · rintro l a w i ⟨hls, hIw, hAD, hasz, hadf, hF⟩ hi
    obtain ⟨hun, o, ho, hpre⟩ := mem_ready.1 hi
    have hilt : i < ops.size := (Array.getElem?_eq_some_iff.1 ho).1
    have hin : i < ds.length := by rw [← G.size]; exact hilt
    have hil : i < l.size := by omega
    have hdep : ∀ e ∈ o.after, Region.binds .any e = true → Φ e.on (a.eval (.tmp (ds.getD e.on 0))) w := fun e he hb => hF e.on (Nat.lt_trans (G.back i o ho e he) hin) (hpre e he hb)
    have hnext : ∀ v w', Φ i v w' → Below w.heap.size w w' → (l.setIfInBounds i true).size = ds.length ∧ I w' ∧ AtDoor a0 ds (a.put o.dst v).eval ∧ (a.put o.dst v).tmps.size = a0.tmps.size ∧ (a.put o.dst v).defers = a0.defers ∧ (∀ k, k < ds.length → (l.setIfInBounds i true).getD k false = true → Φ k ((a.put o.dst v).eval (.tmp (ds.getD k 0))) w') := fun v w' hphi hb => by
      rw [G.dst i o ho]
      refine ⟨by rw [Array.size_setIfInBounds]; exact hls, hI w w' hIw hb, hAD.put (fds_mem hin) v, ?_, hadf, fun k hk hkl => ?_⟩
      · show (a.tmps.setIfInBounds _ _).size = _
        rw [Array.size_setIfInBounds]; exact hasz
      · by_cases hki : k = i
        · subst hki
          rw [eval_put_same _ _ _ (by rw [hasz]; exact hsz _ (fds_mem hin))]
          exact hphi
        · rw [eval_put_other _ _ _ _ (fun e => hki (fds_inj G.nodup hk hin e))]
          exact hΦ k _ _ _ (hF k hk ((listed_set hkl).resolve_left hki)) hb
    unfold wpOp
    rw [ho]
    have hyield : ∀ g b, o.guard = some (g, b) → yielded ops a.tmps g = some (if wt.getD i true = true then b else !b) ∨ (wt.getD i true = false ∧ yielded ops a.tmps g = none) := fun g b hg => by
      obtain ⟨hgi, e, he, h1, h2⟩ := G.guard i o g b ho hg
      have hv := hW i o g b ho hg _ _ (by have := hdep e he h2; rwa [h1] at this)
      obtain ⟨og, hog⟩ : ∃ og, ops[g]? = some og := ⟨_, Array.getElem?_eq_getElem (by omega)⟩
      unfold yielded
      rw [hog, Option.bind_some, G.dst g og hog, Option.bind_some]
      have hlt : ds.getD g 0 < a.tmps.size := by rw [hasz]; exact hsz _ (fds_mem (by omega))
      rw [Array.getElem?_eq_getElem hlt]
      have hat : a.tmps[ds.getD g 0] = a.eval (.tmp (ds.getD g 0)) := by
        show _ = a.tmps.getD (ds.getD g 0) undef
        rw [Array.getD_eq_getD_getElem?, Array.getElem?_eq_getElem hlt]
        rfl
      rcases hv with hv | ⟨hf, hv⟩
      · left
        rw [hat, hv]
      · right
        rw [hat, hv]
        exact ⟨hf, rfl⟩
    cases hw : wt.getD i true with
    | true =>
      have hwant : Region.wanted o (yielded ops a.tmps) = true := by
        unfold Region.wanted
        cases hg : o.guard with
        | none => rfl
        | some gb =>
          obtain ⟨g, b⟩ := gb
          show (yielded ops a.tmps g == some b) = true
          rcases hyield g b hg with h | ⟨h, _⟩
          · rw [h, hw]; simp
          · rw [hw] at h; cases h
      simp only [hwant, if_true]
      exact .inl (hstep i o ho hw a w hIw hAD hdep _ hnext)
    | false =>
      have hwant : Region.wanted o (yielded ops a.tmps) = false := by
        unfold Region.wanted
        cases hg : o.guard with
        | none =>
          have := G.free i o ho hg
          rw [hw] at this
          cases this
        | some gb =>
          obtain ⟨g, b⟩ := gb
          show (yielded ops a.tmps g == some b) = false
          rcases hyield g b hg with h | ⟨_, h⟩
          · rw [h, hw]; cases b <;> rfl
          · rw [h]; cases b <;> rfl
      simp only [hwant]
      exact hnext undef w (hskip i hw w) (Below.refl _ _)
  · rintro l a w ⟨hls, hIw, hAD, hasz, hadf, hF⟩ hr
    have hall := all_listed (by rw [hls, G.size]) G.back hr
    rw [act_fill hAD hasz hadf]
    exact hend (fun t => a.eval (.tmp t)) w hIw fun k hk => hF k hk (hall k (by rw [G.size]; exact hk))
/-- What the guards read (what is skipped itself has them skipped), by the kernel: gv lists which operation yields which truth. -/
def guardsS (ops : Array Oper) (wt : List Bool) (gv : List (Nat × Bool)) : Bool :=
  (List.range ops.size).all fun k => (match ops[k]? with
    | some o => (match o.guard with | some (g, b) => (!wt.getD g true && !wt.getD k true) || gv.any (fun p => p.1 == g && p.2 == (if wt.getD k true = true then b else !b)) | none => true)
    | none => true)
theorem wp_region_skips' (ds : List Nat) (wt : List Bool) (gv : List (Nat × Bool)) {id : Nat} {a0 : Act} {w0 : World} (hm : P.follows .mixedOrders = true) (hG : factsB ops ds wt = true) (hgB : guardsS ops wt gv = true) (hsz : ∀ d ∈ ds, d < a0.tmps.size)
    (I : World → Prop) (Φ : Nat → Value → World → Prop)
    (hI : ∀ w w', I w → Below w.heap.size w w' → I w') (hΦ : ∀ k v w w', Φ k v w → Below w.heap.size w w' → Φ k v w')
    (h0 : I { w0 with drawn := w0.drawn + 1 })
    (hgv : ∀ p ∈ gv, ∀ v w, Φ p.1 v w → v = .bool p.2)
    (hund : ∀ k, wt.getD k true = false → ∀ v w, Φ k v w → v = undef)
    (hskip : ∀ k, wt.getD k true = false → ∀ w, Φ k undef w)
    (hstep : ∀ (k : Nat) (o : Oper), ops[k]? = some o → wt.getD k true = true → ∀ (a : Act) (w : World), I w → AtDoor a0 ds a.eval → (∀ e ∈ o.after, Region.binds .any e = true → Φ e.on (a.eval (.tmp (ds.getD e.on 0))) w) →
      ∀ K : Act → World → Prop, (∀ v w', Φ k v w' → Below w.heap.size w w' → K (a.put o.dst v) w') → o.wp P a w K Q)
    (hend : ∀ (vals : Nat → Value) (w : World), I w → (∀ k, k < ds.length → Φ k (vals (ds.getD k 0)) w) → Q .normal ⟨(fillA a0 ds vals).toArray, a0.defers⟩ w) :
    (Code.region id ops true).wp P Q a0 w0 :=
  wp_region_skips ds wt hm hG hsz I Φ hI hΦ h0 (fun k o g b ho hg v w hv => by
    have hk : k < ops.size := (Array.getElem?_eq_some_iff.1 ho).1
    have := List.all_eq_true.1 hgB k (List.mem_range.2 hk)
    rw [ho] at this
    simp only [hg] at this
    rw [Bool.or_eq_true] at this
    rcases this with h | h
    · rw [Bool.and_eq_true, Bool.not_eq_true', Bool.not_eq_true'] at h
      exact .inr ⟨h.2, hund g h.1 v w hv⟩
    · obtain ⟨p, hp, h2⟩ := List.any_eq_true.1 h
      rw [Bool.and_eq_true, beq_iff_eq, beq_iff_eq] at h2
      rw [← h2.2]
      exact .inl (hgv p hp v w (by rw [h2.1]; exact hv))) hskip hstep hend
end
end Go.Proofs.YtjmledfmiljoiaaGreatDoor
