/- The walk of NumTwos in the seat YtcphelemphchbaaDoor: at any number it answers true. No statement is proved here. -/
import Derived.Test.YtcphelemphchbaaDoorNumAwake
namespace Go.Proofs.YtcphelemphchbaaDoor
open Go.RowKit

def TwoC (n k : Int) (ok : Bool) : Prop := ∀ W : World, Tab64 W → Calls Tryd.prog 17 #[.int .i64 n] W fun E w' => E = .returned (.tuple #[.int .i64 k, .bool ok]) ∧ W = w'
/-- Halved again and again: what is left, and how often, when it can't be halved any more. -/
theorem odd_of_pow {L m k : Nat} (h : L * 2 ^ m = 2 ^ k) (hL : L % 2 = 1) : L = 1 ∧ m = k := by
  have hm : m ≤ k := by
    rcases Nat.lt_or_ge k m with hlt | hge
    · exfalso
      have h1 : 2 ^ k < 2 ^ m := Nat.pow_lt_pow_right (by omega) hlt
      have h2 : 1 * 2 ^ m ≤ L * 2 ^ m := Nat.mul_le_mul_right _ (by omega)
      omega
    · exact hge
  obtain ⟨j, rfl⟩ : ∃ j, k = m + j := ⟨k - m, by omega⟩
  rw [Nat.pow_add, Nat.mul_comm (2 ^ m)] at h
  have h3 : L = 2 ^ j := Nat.eq_of_mul_eq_mul_right (Nat.two_pow_pos m) h
  cases j with
  | zero => exact ⟨h3, rfl⟩
  | succ j => rw [h3, Nat.pow_succ] at hL; omega
theorem pow_small {L m n : Nat} (h : L * 2 ^ m = n) (hL : 1 ≤ L) (hn : n ≤ 9223372036854775807) : m ≤ 62 := by
  rcases Nat.lt_or_ge 62 m with hlt | hge
  · exfalso
    have h1 : 2 ^ 63 ≤ 2 ^ m := Nat.pow_le_pow_right (by omega) hlt
    have h2 : 1 * 2 ^ m ≤ L * 2 ^ m := Nat.mul_le_mul_right _ hL
    have h3 : 2 ^ 63 = 9223372036854775808 := rfl
    omega
  · exact hge
theorem half_step {L m n : Nat} (h : L * 2 ^ m = n) (hL : L % 2 = 0) : L / 2 * 2 ^ (m + 1) = n := by
  rw [Nat.pow_succ, Nat.mul_comm (2 ^ m) 2, ← Nat.mul_assoc, ← h]
  congr 1
  omega

set_option maxHeartbeats 1000000 in
/-- At a number that is none: below 1. -/
theorem twos_low (n : Int) (w : World) (hT : Hid (Tab64 w)) (hn : n ≤ 0) (C : Hid (TwoC n 0 false)) :
    Calls Tryd.prog 7 #[.int .i64 n] w fun E w' => E = .returned (.bool true) ∧ Below w.heap.size w w' := by
  have hb : (n == 1) = false := by rw [beq_eq_false_iff_ne]; omega
  go_enter Tryd.func7, Tryd.ntmps7
  go_wp2_with fail
  refine (awake_any _ hT.out).mono ?_
  rintro e' w1 ⟨rfl, b1⟩
  have HB1 := Lib.hid b1
  clear b1
  have HT1 := Lib.hid (hT.out.below HB1.out hT.out.lt)
  go_wp2_with fail
  refine (C.out w1 HT1.out).mono ?_
  rintro e' w2 ⟨rfl, rfl⟩
  go_wp2
  refine wp_loop_rounds 1 ?_
  rw [rounds_succ]
  go_wp2
  go_ret
  exact ⟨rfl, HB1.out⟩

set_option maxHeartbeats 2000000 in
/-- At a number above 0: L * 2^m is the number, from halving to halving. -/
theorem twos_high (n : Nat) (k : Nat) (ok : Bool) (w : World) (hT : Hid (Tab64 w)) (hn : 1 ≤ n) (hn2 : n ≤ 9223372036854775807) (C : Hid (TwoC n k ok))
    (hend : Hid (∀ L m : Nat, L * 2 ^ m = n → L % 2 = 1 → (ok = true ∧ L = 1 ∧ m = k ∧ n ≤ 1099511627775) ∨ (ok = false ∧ k = 0 ∧ (L ≠ 1 ∨ 1099511627775 < n)))) :
    Calls Tryd.prog 7 #[.int .i64 n] w fun E w' => E = .returned (.bool true) ∧ Below w.heap.size w w' := by
  have HN := Lib.hid hn2
  clear hn2
  go_enter Tryd.func7, Tryd.ntmps7
  go_wp2_with fail
  refine (awake_any _ hT.out).mono ?_
  rintro e' w1 ⟨rfl, b1⟩
  have HB1 := Lib.hid b1
  clear b1
  have HT1 := Lib.hid (hT.out.below HB1.out hT.out.lt)
  go_wp2_with fail
  refine (C.out w1 HT1.out).mono ?_
  rintro e' w2 ⟨rfl, rfl⟩
  go_wp2
  go_loop [5, 6, 7] (fun l m i => ∃ L M : Nat, 1 ≤ L ∧ M ≤ 62 ∧ Hid (L * 2 ^ M = n) ∧ l = .int .i64 L ∧ m = .int .i64 M ∧ i = .int .i64 M) (fun l _ _ => (intOf l).toNat)
  case atStart => exact ⟨n, 0, hn, by omega, Lib.hid (by rw [Nat.pow_zero, Nat.mul_one]), rfl, rfl, rfl⟩
  case round =>
    obtain ⟨L, M, hL, hM, hprod, rfl, rfl, rfl⟩ := hrel
    by_cases hodd : L % 2 = 1
    · have ho : ((L : Int) % 2 == 0) = false := by rw [beq_eq_false_iff_ne]; omega
      have hE := hend.out L M hprod.out hodd
      clear hodd
      rcases hE with ⟨rfl, rfl, rfl, h4⟩ | ⟨rfl, rfl, h3⟩
      · go_wp2
        go_ret
        exact ⟨by simp, HB1.out⟩
      · by_cases hL1 : L = 1
        · have hbig : 1099511627775 < n := by omega
          have hb : ((L : Int) == 1) = true := by rw [beq_iff_eq]; omega
          have HL1 := Lib.hid hL1
          clear h3 hL1
          go_wp2
          go_ret
          exact ⟨by simp, HB1.out⟩
        · have hb : ((L : Int) == 1) = false := by rw [beq_eq_false_iff_ne]; omega
          have HL1 := Lib.hid hL1
          clear h3 hL1
          go_wp2
          go_ret
          exact ⟨by simp, HB1.out⟩
    · have ho : ((L : Int) % 2 == 0) = true := by rw [beq_iff_eq]; omega
      have hs := half_step hprod.out (by omega)
      have hM2 : M + 1 ≤ 62 := pow_small hs (by omega) HN.out
      have HS := Lib.hid hs
      have hL2 : 2 ≤ L := by omega
      have hLn : L ≤ 9223372036854775807 := by
        have h1 := Nat.le_mul_of_pos_right L (Nat.two_pow_pos M)
        have h2 := hprod.out
        have h3 := HN.out
        omega
      have HO := Lib.hid hodd
      clear hs hodd
      go_wp2
      go_round
      case rel => exact ⟨L / 2, M + 1, by omega, by omega, HS, by go_num, by go_num, by go_num⟩
      case measure => simp [intOf]; omega

theorem walk_NumTwos (w : World) (n : Int) (hw : (Lit.int .i64 n).wf = true) (hT : Tab64 w) :
    Calls Tryd.prog 7 #[.int .i64 n] w fun E w' => E = .returned (.bool true) ∧ Below w.heap.size w w' := by
  by_cases hn : n ≤ 0
  · refine twos_low n w (Lib.hid hT) hn (Lib.hid fun W _ => two_no n W fun k _ e => ?_)
    have := Nat.two_pow_pos k
    omega
  · have hb : n ≤ 9223372036854775807 := by
      simp [Lit.wf] at hw
      omega
    obtain ⟨N, rfl⟩ : ∃ N : Nat, n = (N : Int) := ⟨n.toNat, by omega⟩
    by_cases h : ∃ k : Nat, k < 40 ∧ N = 2 ^ k
    · obtain ⟨k, hk, rfl⟩ := h
      refine twos_high (2 ^ k) k true w (Lib.hid hT) (Nat.two_pow_pos k) (by omega) (Lib.hid fun W hW => two_yes k hk W hW) (Lib.hid fun L m e ho => .inl ?_)
      obtain ⟨h1, h2⟩ := odd_of_pow e ho
      have := (two_cnt k hk).2.1
      exact ⟨rfl, h1, h2, by omega⟩
    · refine twos_high N 0 false w (Lib.hid hT) (by omega) (by omega) (Lib.hid fun W _ => two_no N W fun k hk e => h ⟨k, hk, by omega⟩) (Lib.hid fun L m e ho => .inr ⟨rfl, rfl, ?_⟩)
      by_cases hL : L = 1
      · refine .inr ?_
        subst hL
        rw [Nat.one_mul] at e
        rcases Nat.lt_or_ge 1099511627775 N with h1 | h1
        · exact h1
        · exfalso
          rcases Nat.lt_or_ge m 40 with h2 | h2
          · exact h ⟨m, h2, e.symm⟩
          · have h3 : 2 ^ 40 ≤ 2 ^ m := Nat.pow_le_pow_right (by omega) h2
            have h4 : 2 ^ 40 = 1099511627776 := rfl
            omega
      · exact .inl hL
end Go.Proofs.YtcphelemphchbaaDoor
