/- The contracts of trefoilref14.Check, Cores and Bound, in the seat YtohgdeddepfanaaDoor (printed by class/mk_ref.py). No statement is proved here. -/
import Derived.Test.YtohgdeddepfanaaDoorClassTold
import Derived.Test.YtohgdeddepfanaaDoorRefTwo
set_option linter.unusedVariables false
set_option linter.unusedSimpArgs false
namespace Go.Proofs.YtohgdeddepfanaaDoor
open Go Go.RowKit

set_option maxRecDepth 100000 in
set_option maxHeartbeats 16000000 in
theorem rchk_any (s : Shp) (w : World) : Calls Tryd.prog 24 #[s.val] w
    fun e w' => e = .returned (.bool (decide s.Ok)) ∧ Below w.heap.size w w' := by
  obtain ⟨t, l, m, d, p⟩ := s
  by_cases hn : ∃ k : Nat, k < 40 ∧ p = ((2 ^ k : Nat) : Int)
  · have HP : Hid (isP p = decide (p ≤ 4096)) := by
      obtain ⟨k, hk, rfl⟩ := hn
      exact Lib.hid isP_pow
    have C : ∃ k : Nat, ∀ W, Calls Tryd.prog 34 #[.int .i64 p] W fun e w' => e = .returned (.tuple #[.int .i64 k, .bool true]) ∧ W = w' := by
      obtain ⟨k, hk, rfl⟩ := hn
      exact ⟨k, fun W => rtwo_yes k hk W⟩
    obtain ⟨k, C⟩ := C
    have C := Lib.hid C
    clear hn
    by_cases h0 : p ≤ 4096
    · by_cases h1 : 1 ≤ d
      · by_cases h2 : d ≤ p
        · by_cases h3 : 1 ≤ t
          · by_cases h4 : t ≤ 4096
            · by_cases h5 : 1 ≤ l
              · by_cases h6 : l ≤ t
                · by_cases h7 : 1 ≤ m
                  · by_cases h8 : m ≤ l
                    · have e0 : decide (Shp.Ok ⟨t, l, m, d, p⟩) = true := decide_eq_true ⟨⟨h3, h4⟩, ⟨h5, h6⟩, ⟨h7, h8⟩, by rw [HP.out, decide_eq_true h0], h1, h2⟩
                      rw [e0]
                      clear e0
                      unfold Shp.val
                      dsimp only
                      go_enter Tryd.func24, Tryd.ntmps24
                      go_wp2_with fail
                      refine (C.out _).mono ?_
                      rintro e w1 ⟨rfl, rfl⟩
                      go_wp2
                      go_ret
                      exact ⟨rfl, below_alloc _⟩
                    · have e0 : decide (Shp.Ok ⟨t, l, m, d, p⟩) = false := decide_eq_false fun q => h8 q.2.2.1.2
                      rw [e0]
                      clear e0
                      unfold Shp.val
                      dsimp only
                      go_enter Tryd.func24, Tryd.ntmps24
                      go_wp2_with fail
                      refine (C.out _).mono ?_
                      rintro e w1 ⟨rfl, rfl⟩
                      go_wp2
                      go_ret
                      refine ⟨?_, below_alloc _⟩
                      have e9 : decide (m ≤ l) = false := decide_eq_false (by omega)
                      show Ending.returned (.bool (decide (m ≤ l))) = _
                      rw [e9]
                  · have e0 : decide (Shp.Ok ⟨t, l, m, d, p⟩) = false := decide_eq_false fun q => h7 q.2.2.1.1
                    rw [e0]
                    clear e0
                    unfold Shp.val
                    dsimp only
                    go_enter Tryd.func24, Tryd.ntmps24
                    go_wp2_with fail
                    refine (C.out _).mono ?_
                    rintro e w1 ⟨rfl, rfl⟩
                    go_wp2
                    go_ret
                    exact ⟨rfl, below_alloc _⟩
                · have e0 : decide (Shp.Ok ⟨t, l, m, d, p⟩) = false := decide_eq_false fun q => h6 q.2.1.2
                  rw [e0]
                  clear e0
                  unfold Shp.val
                  dsimp only
                  go_enter Tryd.func24, Tryd.ntmps24
                  go_wp2_with fail
                  refine (C.out _).mono ?_
                  rintro e w1 ⟨rfl, rfl⟩
                  go_wp2
                  go_ret
                  exact ⟨rfl, below_alloc _⟩
              · have e0 : decide (Shp.Ok ⟨t, l, m, d, p⟩) = false := decide_eq_false fun q => h5 q.2.1.1
                rw [e0]
                clear e0
                unfold Shp.val
                dsimp only
                go_enter Tryd.func24, Tryd.ntmps24
                go_wp2_with fail
                refine (C.out _).mono ?_
                rintro e w1 ⟨rfl, rfl⟩
                go_wp2
                go_ret
                exact ⟨rfl, below_alloc _⟩
            · have e0 : decide (Shp.Ok ⟨t, l, m, d, p⟩) = false := decide_eq_false fun q => h4 q.1.2
              rw [e0]
              clear e0
              unfold Shp.val
              dsimp only
              go_enter Tryd.func24, Tryd.ntmps24
              go_wp2_with fail
              refine (C.out _).mono ?_
              rintro e w1 ⟨rfl, rfl⟩
              go_wp2
              go_ret
              exact ⟨rfl, below_alloc _⟩
          · have e0 : decide (Shp.Ok ⟨t, l, m, d, p⟩) = false := decide_eq_false fun q => h3 q.1.1
            rw [e0]
            clear e0
            unfold Shp.val
            dsimp only
            go_enter Tryd.func24, Tryd.ntmps24
            go_wp2_with fail
            refine (C.out _).mono ?_
            rintro e w1 ⟨rfl, rfl⟩
            go_wp2
            go_ret
            exact ⟨rfl, below_alloc _⟩
        · have e0 : decide (Shp.Ok ⟨t, l, m, d, p⟩) = false := decide_eq_false fun q => h2 q.2.2.2.2.2
          rw [e0]
          clear e0
          unfold Shp.val
          dsimp only
          go_enter Tryd.func24, Tryd.ntmps24
          go_wp2_with fail
          refine (C.out _).mono ?_
          rintro e w1 ⟨rfl, rfl⟩
          go_wp2
          go_ret
          exact ⟨rfl, below_alloc _⟩
      · have e0 : decide (Shp.Ok ⟨t, l, m, d, p⟩) = false := decide_eq_false fun q => h1 q.2.2.2.2.1
        rw [e0]
        clear e0
        unfold Shp.val
        dsimp only
        go_enter Tryd.func24, Tryd.ntmps24
        go_wp2_with fail
        refine (C.out _).mono ?_
        rintro e w1 ⟨rfl, rfl⟩
        go_wp2
        go_ret
        exact ⟨rfl, below_alloc _⟩
    · have e0 : decide (Shp.Ok ⟨t, l, m, d, p⟩) = false := decide_eq_false fun q => h0 q.le
      rw [e0]
      clear e0
      unfold Shp.val
      dsimp only
      go_enter Tryd.func24, Tryd.ntmps24
      go_wp2_with fail
      refine (C.out _).mono ?_
      rintro e w1 ⟨rfl, rfl⟩
      go_wp2
      go_ret
      exact ⟨rfl, below_alloc _⟩
  · have hno : ∀ k : Nat, k < 40 → p ≠ ((2 ^ k : Nat) : Int) := fun k hk e => hn ⟨k, hk, e⟩
    have C := Lib.hid (fun W => rtwo_no p W hno)
    have h0 : isP p = false := isP_no hno
    clear hn hno
    have e0 : decide (Shp.Ok ⟨t, l, m, d, p⟩) = false := decide_eq_false fun q => by have := q.2.2.2.1; dsimp only at this; rw [h0] at this; cases this
    rw [e0]
    clear e0
    unfold Shp.val
    dsimp only
    go_enter Tryd.func24, Tryd.ntmps24
    go_wp2_with fail
    refine (C.out _).mono ?_
    rintro e w1 ⟨rfl, rfl⟩
    go_wp2
    go_ret
    exact ⟨rfl, below_alloc _⟩
/-- Counted up, or by the quotient: the same. -/
theorem many_step {s : Shp} (h : s.Ok) (hd : s.d < s.t) (hl : s.l < s.d) (n : Int) : s.t - s.l ≤ n * (s.d - s.l) ↔ manyS s ≤ n := by
  obtain ⟨h2, h3, h4⟩ := many_spec h hd hl
  obtain ⟨b, hb⟩ : ∃ b, b = s.d - s.l := ⟨_, rfl⟩
  have hb0 : 0 < b := by omega
  rw [← hb] at h3 h4 ⊢
  constructor
  · intro q
    have q2 : (manyS s - 1) * b < n * b := by omega
    have := Int.lt_of_mul_lt_mul_right q2 (by omega)
    omega
  · intro q
    have := Int.mul_le_mul_of_nonneg_right q (by omega : 0 ≤ b)
    omega
/-- The sum that Bound divides. -/
theorem rbound_sum {s : Shp} (h : s.Ok) {m : Int} (h1 : 1 ≤ m) (h8 : m ≤ 8) : 0 ≤ (m - 1) * s.l ∧ (m - 1) * s.l ≤ 28672 := by
  obtain ⟨⟨t0, t1⟩, ⟨l0, l1⟩, -⟩ := h
  have : m = 1 ∨ m = 2 ∨ m = 3 ∨ m = 4 ∨ m = 5 ∨ m = 6 ∨ m = 7 ∨ m = 8 := by omega
  rcases this with rfl | rfl | rfl | rfl | rfl | rfl | rfl | rfl <;> constructor <;> omega
end Go.Proofs.YtohgdeddepfanaaDoor
