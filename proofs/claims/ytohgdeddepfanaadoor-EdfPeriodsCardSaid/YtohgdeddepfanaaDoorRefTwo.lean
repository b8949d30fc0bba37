/- The contract of trefoilref01.Two in the seat YtohgdeddepfanaaDoor. No statement is proved here. -/
import Derived.Test.YtohgdeddepfanaaDoorChecked
import Derived.Test.YtohgdeddepfanaaDoorMem
import Derived.KernelRfl
import Derived.WalkKit
import Derived.WalkSmall
import Derived.Handy
import Derived.Lib.Hide
set_option linter.unusedVariables false
namespace Go.Proofs.YtohgdeddepfanaaDoor
open Go.RowKit

/-- The power of two, asked one by one. -/
theorem rtwo_yes (k : Nat) (hk : k < 40) (w : World) :
    Calls Tryd.prog 34 #[.int .i64 ((2 ^ k : Nat) : Int)] w fun e w' => e = .returned (.tuple #[.int .i64 k, .bool true]) ∧ w = w' := by
  obtain ⟨x, hx⟩ : ∃ x, x = 2 ^ k := ⟨_, rfl⟩
  rw [← hx]
  have HX := Lib.hid hx
  clear hx
  go_enter Tryd.func34, Tryd.ntmps34
  go_wp2
  go_loop [4, 5] (fun p i => ∃ j P : Nat, j ≤ k ∧ P ≤ 549755813888 ∧ Hid (P = 2 ^ j) ∧ i = .int .i64 j ∧ p = .int .i64 P) (fun _ i => k - (intOf i).toNat)
  case atStart => exact ⟨0, 1, by omega, by omega, Lib.hid rfl, rfl, rfl⟩
  case round =>
    obtain ⟨j, P, hj, hP, hpow, rfl, rfl⟩ := hrel
    by_cases hjk : j = k
    · have hb : ((P : Int) == (x : Int)) = true := by rw [beq_iff_eq, hpow.out, HX.out, hjk]
      subst hjk
      go_wp2
      go_ret2
      exact ⟨rfl, rfl⟩
    · have hlt : 2 ^ j < 2 ^ k := Nat.pow_lt_pow_right (by omega) (by omega)
      have hle : 2 ^ (j + 1) ≤ 2 ^ 39 := Nat.pow_le_pow_right (by omega) (by omega)
      rw [Nat.pow_succ] at hle
      rw [← hpow.out, ← HX.out] at hlt
      rw [← hpow.out] at hle
      have hb : ((P : Int) == (x : Int)) = false := by rw [beq_eq_false_iff_ne]; omega
      have hle' : P * 2 ≤ 549755813888 := hle
      clear hle hlt
      go_wp2
      go_round
      case rel => exact ⟨j + 1, 2 * P, by omega, by omega, Lib.hid (by rw [Nat.pow_succ, ← hpow.out, Nat.mul_comm]), by go_num, by go_num⟩
      case measure => simp [intOf]; omega
theorem rtwo_no (n : Int) (w : World) (h : ∀ k : Nat, k < 40 → n ≠ ((2 ^ k : Nat) : Int)) :
    Calls Tryd.prog 34 #[.int .i64 n] w fun e w' => e = .returned (.tuple #[.int .i64 0, .bool false]) ∧ w = w' := by
  have H := Lib.hid h
  clear h
  go_enter Tryd.func34, Tryd.ntmps34
  go_wp2
  go_loop [4, 5] (fun p i => ∃ j P : Nat, j ≤ 40 ∧ P ≤ 1099511627776 ∧ Hid (P = 2 ^ j) ∧ i = .int .i64 j ∧ p = .int .i64 P) (fun _ i => 40 - (intOf i).toNat)
  case atStart => exact ⟨0, 1, by omega, by omega, Lib.hid rfl, rfl, rfl⟩
  case round =>
    obtain ⟨j, P, hj, hP, hpow, rfl, rfl⟩ := hrel
    by_cases hjk : j < 40
    · have hne := H.out j hjk
      rw [← hpow.out] at hne
      have hle : 2 ^ (j + 1) ≤ 2 ^ 40 := Nat.pow_le_pow_right (by omega) (by omega)
      rw [Nat.pow_succ, ← hpow.out] at hle
      have hb : ((P : Int) == n) = false := by rw [beq_eq_false_iff_ne]; omega
      have hle' : P * 2 ≤ 1099511627776 := hle
      clear hle hne
      go_wp2
      go_round
      case rel => exact ⟨j + 1, 2 * P, by omega, by omega, Lib.hid (by rw [Nat.pow_succ, ← hpow.out, Nat.mul_comm]), by go_num, by go_num⟩
      case measure => simp [intOf]; omega
    · go_wp2
      go_ret2
      exact ⟨rfl, rfl⟩
end Go.Proofs.YtohgdeddepfanaaDoor
