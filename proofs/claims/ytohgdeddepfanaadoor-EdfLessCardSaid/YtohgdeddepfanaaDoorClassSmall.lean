/- The contracts of class.within, isPeriod, Check, (light).tell, (heavy).tell, in the seat YtohgdeddepfanaaDoor. No statement is proved here. -/
import Derived.Test.YtohgdeddepfanaaDoorClassMath
import Derived.Test.YtohgdeddepfanaaDoorNumCode
import Derived.Test.YtohgdeddepfanaaDoorNumAdd
import Derived.Test.YtohgdeddepfanaaDoorNumTwo2
import Derived.Test.YtohgdeddepfanaaDoorDTab
import Derived.WalkKit
import Derived.WalkSmall
import Derived.Handy
set_option linter.unusedVariables false
set_option linter.unusedSimpArgs false
namespace Go.Proofs.YtohgdeddepfanaaDoor
open Go Go.RowKit

theorem within_yes (a b c : Int) (w : World) (h : b ≤ a ∧ a ≤ c) : Calls Tryd.prog 35 #[.int .i64 a, .int .i64 b, .int .i64 c] w
    fun e w' => e = .returned (.bool true) ∧ w = w' := by
  obtain ⟨h1, h2⟩ := h
  go_enter Tryd.func35, Tryd.ntmps35
  go_wp2
  go_ret
  exact ⟨rfl, rfl⟩
theorem within_no (a b c : Int) (w : World) (h : ¬ (b ≤ a ∧ a ≤ c)) : Calls Tryd.prog 35 #[.int .i64 a, .int .i64 b, .int .i64 c] w
    fun e w' => e = .returned (.bool false) ∧ w = w' := by
  by_cases h1 : b ≤ a
  · have h2 : ¬ a ≤ c := fun q => h ⟨h1, q⟩
    go_enter Tryd.func35, Tryd.ntmps35
    go_wp2
    go_ret
    exact ⟨rfl, rfl⟩
  · go_enter Tryd.func35, Tryd.ntmps35
    go_wp2
    go_ret
    exact ⟨rfl, rfl⟩
theorem isPeriod_any (n : Int) (w : World) (hT : Tab64 w) : Calls Tryd.prog 36 #[.int .i64 n] w
    fun e w' => e = .returned (.bool (isP n)) ∧ w = w' := by
  by_cases hn : ∃ k : Nat, k < 40 ∧ n = ((2 ^ k : Nat) : Int)
  · obtain ⟨k, hk, rfl⟩ := hn
    have C := Lib.hid (two_yes k hk w hT)
    rw [isP_pow]
    obtain ⟨x, hx⟩ : ∃ x : Int, x = ((2 ^ k : Nat) : Int) := ⟨_, rfl⟩
    rw [← hx] at C ⊢
    clear hx hT
    go_enter Tryd.func36, Tryd.ntmps36
    go_wp2_with fail
    refine C.out.mono ?_
    rintro e w' ⟨rfl, rfl⟩
    go_wp2
    go_ret
    exact ⟨rfl, rfl⟩
  · have hno : ∀ k : Nat, k < 40 → n ≠ ((2 ^ k : Nat) : Int) := fun k hk e => hn ⟨k, hk, e⟩
    rw [isP_no hno]
    have C := Lib.hid (two_no n w hno)
    clear hno hn hT
    go_enter Tryd.func36, Tryd.ntmps36
    go_wp2_with fail
    refine C.out.mono ?_
    rintro e w' ⟨rfl, rfl⟩
    go_wp2
    go_ret
    exact ⟨rfl, rfl⟩

set_option maxHeartbeats 8000000 in
theorem ccheck_any (s : Shp) (w : World) (hT : DTab w) : Calls Tryd.prog 26 #[s.val] w
    fun e w' => e = .returned (.int .i64 (chkS s)) ∧ Below w.heap.size w w' := by
  obtain ⟨t, l, m, d, p⟩ := s
  have TT : ∀ W : World, Below w.heap.size w W → Tab64 W := fun W b => hT.via b
  have TT := Lib.hid TT
  clear hT
  unfold Shp.val
  dsimp only
  by_cases h1 : 1 ≤ t ∧ t ≤ 4096
  · by_cases h2 : 1 ≤ l ∧ l ≤ t
    · by_cases h3 : 1 ≤ m ∧ m ≤ l
      · by_cases h4 : isP p = true
        · by_cases h5 : 1 ≤ d ∧ d ≤ p
          · rw [chkS_ok ⟨h1, h2, h3, h4, h5⟩]
            go_enter Tryd.func26, Tryd.ntmps26
            go_wp2_with (first
              | (go_at_call 35; refine (within_yes _ _ _ _ (by assumption)).mono ?_; rintro e w' ⟨rfl, rfl⟩)
              | (go_at_call 36; refine (isPeriod_any _ _ (TT.out _ (below_alloc _))).mono ?_; rw [h4]; rintro e w' ⟨rfl, rfl⟩))
            go_ret
            exact ⟨rfl, below_alloc _⟩
          · rw [chkS_no fun q => h5 q.2.2.2.2]
            go_enter Tryd.func26, Tryd.ntmps26
            go_wp2_with (first
              | (go_at_call 35; refine (within_yes _ _ _ _ (by assumption)).mono ?_; rintro e w' ⟨rfl, rfl⟩)
              | (go_at_call 35; refine (within_no _ _ _ _ (by assumption)).mono ?_; rintro e w' ⟨rfl, rfl⟩)
              | (go_at_call 36; refine (isPeriod_any _ _ (TT.out _ (below_alloc _))).mono ?_; rw [h4]; rintro e w' ⟨rfl, rfl⟩))
            go_ret
            exact ⟨rfl, below_alloc _⟩
        · rw [chkS_no fun q => h4 q.2.2.2.1]
          have h4 : isP p = false := by simpa using h4
          go_enter Tryd.func26, Tryd.ntmps26
          go_wp2_with (first
            | (go_at_call 35; refine (within_yes _ _ _ _ (by assumption)).mono ?_; rintro e w' ⟨rfl, rfl⟩)
            | (go_at_call 36; refine (isPeriod_any _ _ (TT.out _ (below_alloc _))).mono ?_; rw [h4]; rintro e w' ⟨rfl, rfl⟩))
          go_ret
          exact ⟨rfl, below_alloc _⟩
      · rw [chkS_no fun q => h3 q.2.2.1]
        go_enter Tryd.func26, Tryd.ntmps26
        go_wp2_with (first
          | (go_at_call 35; refine (within_yes _ _ _ _ (by assumption)).mono ?_; rintro e w' ⟨rfl, rfl⟩)
          | (go_at_call 35; refine (within_no _ _ _ _ (by assumption)).mono ?_; rintro e w' ⟨rfl, rfl⟩))
        go_ret
        exact ⟨rfl, below_alloc _⟩
    · rw [chkS_no fun q => h2 q.2.1]
      go_enter Tryd.func26, Tryd.ntmps26
      go_wp2_with (first
        | (go_at_call 35; refine (within_yes _ _ _ _ (by assumption)).mono ?_; rintro e w' ⟨rfl, rfl⟩)
        | (go_at_call 35; refine (within_no _ _ _ _ (by assumption)).mono ?_; rintro e w' ⟨rfl, rfl⟩))
      go_ret
      exact ⟨rfl, below_alloc _⟩
  · rw [chkS_no fun q => h1 q.1]
    go_enter Tryd.func26, Tryd.ntmps26
    go_wp2_with (first
      | (go_at_call 35; refine (within_no _ _ _ _ (by assumption)).mono ?_; rintro e w' ⟨rfl, rfl⟩))
    go_ret
    exact ⟨rfl, below_alloc _⟩
end Go.Proofs.YtohgdeddepfanaaDoor
