/- The contract of awake of trefoillaw07 in the seat YtkmajhbfmdoamaaGreatDoor. No statement is proved here. -/
import Derived.Test.YtkmajhbfmdoamaaGreatDoorZM23
set_option linter.unusedSimpArgs false
set_option linter.unusedVariables false
namespace Go.Proofs.YtkmajhbfmdoamaaGreatDoor
open Go.RowKit

theorem Trips.one7 (w : World) (t : TypeId) (a b c : Int) : Trips (w.alloc (.cells #[.int .i64 a, .int .i64 b, .int .i64 c] t)) (w.heap.size + 1) (some ⟨w.heap.size, 0, none⟩) [(a, b, c)] := fun _ => by
  refine ⟨_, _, rfl, by simp, fun k x he => ?_⟩
  rw [World.cell?_alloc_at _ _ _ _ rfl, World.cell?_alloc_at _ _ _ _ rfl, World.cell?_alloc_at _ _ _ _ rfl]
  match k, he with
  | 0, he =>
    obtain rfl : (a, b, c) = x := by simpa using he
    exact ⟨rfl, rfl, rfl⟩
section
variable {w w1 w2 : World} {A : Option Addr} {c : Nat} {F : Option Addr} {d : Nat} {R : Option Addr} {e : Nat} {g : Nat}
end
theorem GotLow.boxes {T : Task} {w w' : World} {e : Ending} (h : GotLow T w e w') (hT : Tab64 w) (hX : lowX T = 0 → (lowWv T).length ≤ 400 ∧ (lowEv T).length ≤ 400 ∧ (lowPv T).length ≤ 400) :
    ∃ A c F d R k, e = .returned (.tuple #[.agg #[.slice A (lowWv T).length c, .slice F (lowEv T).length d, .slice R (lowPv T).length k], .int .i64 (lowX T)]) ∧ IsL w' A (lowWv T).length c F (lowEv T).length d R (lowPv T).length k (lowWv T) (lowEv T) (lowPv T) ∧ Below w.heap.size w w' := by
  obtain ⟨vW, vE, vP, rfl, h1, h2, h3, b⟩ := h
  have hl : (lowWv T).length ≤ 400 ∧ (lowEv T).length ≤ 400 ∧ (lowPv T).length ≤ 400 := by
    by_cases h0 : lowX T = 0
    · exact hX h0
    · have hN : ¬ LowOk T := fun h => h0 (lowX_zero.mpr h)
      unfold lowWv lowEv lowPv
      rw [if_neg hN, if_neg hN, if_neg hN]
      decide
  obtain ⟨A, c, F, d, R, k, rfl, rfl, rfl, hL⟩ := own_isL (hT.via b) h1 h2 h3 hl.1 hl.2.1 hl.2.2
  exact ⟨A, c, F, d, R, k, rfl, hL, b⟩
theorem lows_few {T : Task} (h : lowX T = 0) : (lowWv T).length ≤ 400 ∧ (lowEv T).length ≤ 400 ∧ (lowPv T).length ≤ 400 := by
  have hOK := lowX_zero.mp h
  have := low_few hOK.1
  unfold lowWv lowEv lowPv
  rw [if_pos hOK, if_pos hOK, if_pos hOK]
  omega
/-- Lower, as its callers read it. -/
theorem lower_got (s : Sh) (T : Task) (w : World) (hD : IsD w s T) : Calls Tryz.prog 34 #[s.arg T.period T.deadline] w fun e w' =>
    ∃ A c F d R k, e = .returned (.tuple #[.agg #[.slice A (lowWv T).length c, .slice F (lowEv T).length d, .slice R (lowPv T).length k], .int .i64 (lowX T)]) ∧ IsL w' A (lowWv T).length c F (lowEv T).length d R (lowPv T).length k (lowWv T) (lowEv T) (lowPv T) ∧ Below w.heap.size w w' :=
  (lower_any s T w hD).mono fun _ _ h => h.boxes hD.tab lows_few
end Go.Proofs.YtkmajhbfmdoamaaGreatDoor
