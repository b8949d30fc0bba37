/- Where a part's steps stand, and what waits for what, in plain words, in the seat YtkmajhbfmdoamaaGreatDoor. No statement is proved here. -/
import Derived.Test.YtkmajhbfmdoamaaGreatDoorZM24
import Derived.Test.YtkmajhbfmdoamaaGreatDoorZM20
set_option linter.unusedSimpArgs false
set_option linter.unusedVariables false
namespace Go.Proofs.YtkmajhbfmdoamaaGreatDoor

theorem pPs_split (fs : List (Int × Int × Int)) (x : Nat) : ∀ d, ∃ t, pPs fs (x + d) = pPs fs x ++ t ∧ ∀ p ∈ t, (x : Int) ≤ p.1
  | 0 => ⟨[], by simp, by simp⟩
  | d + 1 => by
    obtain ⟨t, h1, h2⟩ := pPs_split fs x d
    refine ⟨t ++ stepP (x + d) (nst fs (x + d)), by rw [← Nat.add_assoc, pPs, h1, List.append_assoc], fun p hp => ?_⟩
    rcases List.mem_append.mp hp with hp | hp
    · exact h2 p hp
    · unfold stepP at hp
      obtain ⟨i, _, rfl⟩ := List.mem_map.mp hp
      show (x : Int) ≤ ((x + d : Nat) : Int)
      omega
/-- A part's steps stand behind each other, and nowhere else. -/
theorem lowP_split {T : Task} {x : Nat} (hx : x < T.parts.length) : ∃ t, lowP T = pPs T.futures x ++ (stepP x (nst T.futures x) ++ t) ∧ ∀ p ∈ t, p.1 ≠ (x : Int) := by
  obtain ⟨t, h1, h2⟩ := pPs_split T.futures (x + 1) (T.parts.length - (x + 1))
  rw [show x + 1 + (T.parts.length - (x + 1)) = T.parts.length by omega, pPs] at h1
  refine ⟨t ++ (List.range T.bars.length).map fun j => (((-1 : Int)), ((j : Nat) : Int)), ?_, fun p hp => ?_⟩
  · unfold lowP
    rw [h1]
    simp only [List.append_assoc]
  · rcases List.mem_append.mp hp with hp | hp
    · have := h2 p hp
      omega
    · obtain ⟨j, _, rfl⟩ := List.mem_map.mp hp
      show (-1 : Int) ≠ (x : Int)
      omega
theorem lastK_eq {P : List (Int × Int)} {x : Int} {j : Nat} {p : Int × Int} (hj : P[j]? = some p) (hp : p.1 = x) (h : ∀ i q, j < i → P[i]? = some q → q.1 ≠ x) : ∀ n, j < n → n ≤ P.length → lastK P x n = j
  | 0, h0, _ => by omega
  | n + 1, h0, hn => by
    rw [lastK]
    by_cases e : j = n
    · subst e
      rw [List.getD_eq_getElem?_getD, hj, if_pos]
      exact hp
    · have hq : P[n]? = some P[n] := List.getElem?_eq_getElem (by omega)
      have := h n P[n] (by omega) hq
      rw [List.getD_eq_getElem?_getD, hq, if_neg]
      · exact lastK_eq hj hp h n (by omega) (by omega)
      · exact this
theorem last_last {T : Task} {x : Nat} (hx : x < T.parts.length) : lastV (lowP T) (x : Int) = (lasN T.futures x : Int) := by
  obtain ⟨t, h, ht⟩ := lowP_split hx
  have hl := pPs_len T.futures x
  have hn := nst_pos T.futures x
  have hs := stepP_len x (nst T.futures x)
  unfold lastV
  rw [if_neg (by omega)]
  have hlen : (lowP T).length = firN T.futures x + (nst T.futures x + t.length) := by rw [h, List.length_append, List.length_append, hl, hs]
  have hN : lasN T.futures x = firN T.futures x + (nst T.futures x - 1) := by unfold lasN; omega
  refine lastK_eq (p := ((x : Int), ((nst T.futures x - 1 : Nat) : Int))) ?_ rfl (fun i q hi hq => ?_) _ (by omega) (Nat.le_refl _)
  · rw [h, hN, List.getElem?_append_right (by omega), hl, Nat.add_sub_cancel_left, List.getElem?_append_left (by omega)]
    unfold stepP
    rw [List.getElem?_map, List.getElem?_range (by omega)]
    rfl
  · rw [h, List.getElem?_append_right (by omega), hl, List.getElem?_append_right (by omega), hs] at hq
    exact ht q (List.mem_of_getElem? hq)
theorem edge_way {T : Task} {e : Int × Int} (he : e ∈ T.edges) : Way (lowE T) (lasN T.futures e.1.toNat) (firN T.futures e.2.toNat) := by
  refine .one ?_
  unfold ed lowE
  exact List.mem_append.mpr (.inl (List.mem_append.mpr (.inl (List.mem_append.mpr (.inr (List.mem_map.mpr ⟨e, he, rfl⟩))))))
end Go.Proofs.YtkmajhbfmdoamaaGreatDoor
