/- The contracts of the document's own Mul, Down and Two of layer 1 (trefoilref01) in the seat YtcphelemphchbaaDoor: bit by bit they come to the product, the quotient and the power. No statement is proved here. -/
import Derived.Test.YtcphelemphchbaaDoorRefAll
namespace Go.Proofs.YtcphelemphchbaaDoor
open Go.RowKit

theorem all_pair (a b : Int) (w : World) : Calls Tryd.prog 22 #[.slice (some ⟨w.heap.size, 0, none⟩) 2 2] (w.alloc (.cells #[.int .i64 a, .int .i64 b] 3)) fun e w' =>
    e = .returned (.int .i64 (ff [a, b])) ∧ (w.alloc (.cells #[.int .i64 a, .int .i64 b] 3)) = w' :=
  all_any (w.heap.size + 1) (some ⟨w.heap.size, 0, none⟩) 2 [a, b] (w.alloc (.cells #[.int .i64 a, .int .i64 b] 3)) (by simp) (Ints.new2 w _ a b)

/-- The same list, written a second time. -/
theorem all_pair2 (a b : Int) (o : Obj) (w : World) : Calls Tryd.prog 22 #[.slice (some ⟨w.heap.size + 1, 0, none⟩) 2 2] ((w.alloc o).alloc (.cells #[.int .i64 a, .int .i64 b] 3)) fun e w' =>
    e = .returned (.int .i64 (ff [a, b])) ∧ ((w.alloc o).alloc (.cells #[.int .i64 a, .int .i64 b] 3)) = w' := by
  have h := all_pair a b (w.alloc o)
  rwa [show (w.alloc o).heap.size = w.heap.size + 1 by simp] at h
theorem below_alloc2 {w : World} (o o' : Obj) : Below w.heap.size w ((w.alloc o).alloc o') := ((Below.refl _ _).alloc (Nat.le_refl _) o).alloc (by simp) o'
theorem div_pow_succ (b m : Nat) : b / 2 ^ (m + 1) = b / 2 ^ m / 2 := by rw [Nat.pow_succ, Nat.div_div_eq_div_mul]
theorem mul_bit1 {a b m P : Nat} (h : P = a * (b / 2 ^ (m + 1))) (hq : b / 2 ^ m % 2 = 1) : 2 * P + a = a * (b / 2 ^ m) := by
  rw [div_pow_succ] at h
  have e : b / 2 ^ m = 2 * (b / 2 ^ m / 2) + 1 := by omega
  generalize b / 2 ^ m = q at *
  generalize q / 2 = r at *
  subst h e
  rw [Nat.mul_add, Nat.mul_one, Nat.mul_left_comm]
theorem mul_bit0 {a b m P : Nat} (h : P = a * (b / 2 ^ (m + 1))) (hq : b / 2 ^ m % 2 = 0) : 2 * P = a * (b / 2 ^ m) := by
  rw [div_pow_succ] at h
  have e : b / 2 ^ m = 2 * (b / 2 ^ m / 2) := by omega
  generalize b / 2 ^ m = q at *
  generalize q / 2 = r at *
  subst h e
  rw [Nat.mul_left_comm]
theorem mul_over {a b q P : Nat} (m : Nat) (h : P = a * q) (hq : q = b / 2 ^ m) (hP : 1099511627775 < P) : (1099511627775 : Int) < (a : Int) * (b : Int) := by
  have h1 : q ≤ b := by rw [hq]; exact Nat.div_le_self _ _
  have h2 : a * q ≤ a * b := Nat.mul_le_mul_left _ h1
  have h3 : ((a * b : Nat) : Int) = (a : Int) * (b : Int) := Int.natCast_mul a b
  omega

set_option maxHeartbeats 800000 in
theorem rmul_fine (a b : Nat) (w : World) (ha : a ≤ 1099511627775) (hb : b ≤ 1099511627775) :
    Calls Tryd.prog 14 #[.int .i64 a, .int .i64 b] w fun e w' => e = .returned (.tuple #[.int .i64 (mulS a b), .int .i64 (mulE a b)]) ∧ Below w.heap.size w w' := by
  have h : ff [(a : Int), (b : Int)] = 0 := ff_pair_ok (by omega) (by omega) (by omega) (by omega)
  have C := Lib.hid (all_pair a b w)
  rw [h] at C
  have HF := Lib.hid h
  clear h
  go_enter Tryd.func14, Tryd.ntmps14
  go_wp2_with fail
  refine C.out.mono ?_
  rintro e w' ⟨rfl, rfl⟩
  go_wp2
  go_loop [6, 7] (fun o i => ∃ k P : Nat, k ≤ 40 ∧ P ≤ 1099511627775 ∧ Hid (P = a * (b / 2 ^ k)) ∧ i = .int .i64 ((k : Int) - 1) ∧ o = .int .i64 P) (fun _ i => (intOf i + 1).toNat)
  case atStart => exact ⟨40, 0, by omega, by omega, Lib.hid (by rw [Nat.div_eq_of_lt (by omega), Nat.mul_zero]), by simp, by simp⟩
  case round =>
    obtain ⟨k, P, hk, hP, hrec, rfl, rfl⟩ := hrel
    by_cases hk0 : k = 0
    · subst hk0
      go_wp2
      go_ret2
      have e1 : P = a * b := by have := hrec.out; rwa [Nat.pow_zero, Nat.div_one] at this
      have e2 : ((a * b : Nat) : Int) = (a : Int) * (b : Int) := Int.natCast_mul a b
      exact ⟨by rw [mulS_fine HF.out (by omega), mulE_fine HF.out (by omega), ← e2, ← e1]; rfl, below_alloc _⟩
    · obtain ⟨m, rfl⟩ : ∃ m, k = m + 1 := ⟨k - 1, by omega⟩
      have e1 : ((m + 1 : Nat) : Int) - 1 = (m : Int) := by omega
      rw [e1]
      clear e1 hk0
      obtain ⟨p, hp⟩ : ∃ p, p = 2 ^ m := ⟨_, rfl⟩
      obtain ⟨q, hq⟩ : ∃ q, q = b / p := ⟨_, rfl⟩
      have K2 : (2 : Int) ^ m = (p : Int) := by rw [hp, Int.natCast_pow]; rfl
      have K1 : (b : Int) / (p : Int) = (q : Int) := by rw [hq, Int.natCast_ediv]
      have HQ : Hid (q = b / 2 ^ m) := Lib.hid (by rw [hq, hp])
      clear hp hq
      by_cases hbit : q % 2 = 1
      · have hb1 : ((q : Int) % 2 == 1) = true := by rw [beq_iff_eq]; omega
        have HB := Lib.hid hbit
        clear hbit
        have HM : Hid (2 * P + a = a * q) := Lib.hid (by rw [HQ.out]; exact mul_bit1 hrec.out (by rw [← HQ.out]; exact HB.out))
        by_cases hov : 1099511627775 < 2 * P + a
        · go_wp2
          go_ret2
          have h9 := mul_over m HM.out HQ.out hov
          exact ⟨by rw [mulS_over HF.out h9, mulE_over HF.out h9]; rfl, below_alloc _⟩
        · go_wp2
          go_round
          case rel => exact ⟨m, 2 * P + a, by omega, by omega, Lib.hid (by rw [← HQ.out]; exact HM.out), rfl, by go_num⟩
          case measure => simp [intOf]
      · have hb1 : ((q : Int) % 2 == 1) = false := by rw [beq_eq_false_iff_ne]; omega
        have HB := Lib.hid (show q % 2 = 0 by omega)
        clear hbit
        have HM : Hid (2 * P = a * q) := Lib.hid (by rw [HQ.out]; exact mul_bit0 hrec.out (by rw [← HQ.out]; exact HB.out))
        by_cases hov : 1099511627775 < 2 * P
        · go_wp2
          go_ret2
          have h9 := mul_over m HM.out HQ.out hov
          exact ⟨by rw [mulS_over HF.out h9, mulE_over HF.out h9]; rfl, below_alloc _⟩
        · go_wp2
          go_round
          case rel => exact ⟨m, 2 * P, by omega, by omega, Lib.hid (by rw [← HQ.out]; exact HM.out), rfl, by go_num⟩
          case measure => simp [intOf]
theorem rmul_any (a b : Int) (w : World) :
    Calls Tryd.prog 14 #[.int .i64 a, .int .i64 b] w fun e w' => e = .returned (.tuple #[.int .i64 (mulS a b), .int .i64 (mulE a b)]) ∧ Below w.heap.size w w' := by
  by_cases h : ff [a, b] = 0
  · obtain ⟨⟨a0, a1⟩, b0, b1⟩ := ff_pair_zero h
    obtain ⟨x, rfl⟩ : ∃ x : Nat, a = (x : Int) := ⟨a.toNat, by omega⟩
    obtain ⟨y, rfl⟩ : ∃ y : Nat, b = (y : Int) := ⟨b.toNat, by omega⟩
    exact rmul_fine x y w (by omega) (by omega)
  · rw [mulS_bad h, mulE_bad h]
    have C := Lib.hid (all_pair a b w)
    have C2 := Lib.hid (all_pair2 a b (.cells #[.int .i64 a, .int .i64 b] 3) w)
    obtain ⟨c, hc⟩ : ∃ c, c = ff [a, b] := ⟨_, rfl⟩
    rw [← hc] at C C2 h ⊢
    have hb : (c != 0) = true := by simpa using h
    clear h hc
    go_enter Tryd.func14, Tryd.ntmps14
    go_wp2_with fail
    refine C.out.mono ?_
    rintro e w' ⟨rfl, rfl⟩
    go_wp2_with fail
    refine C2.out.mono ?_
    rintro e w' ⟨rfl, rfl⟩
    go_wp2
    go_ret2
    exact ⟨rfl, below_alloc2 _ _⟩

theorem down_take {a b Q L m : Nat} (h : a = Q * b + L) (hL : b * 2 ^ m ≤ L) : a = (Q + 2 ^ m) * b + (L - b * 2 ^ m) := by
  rw [Nat.add_mul, Nat.mul_comm (2 ^ m) b]; omega
theorem down_end {a b Q L : Nat} (h : a = Q * b + L) (hL : L < b) : a / b = Q := by
  rw [h, Nat.add_comm, Nat.add_mul_div_right _ _ (by omega), Nat.div_eq_of_lt hL, Nat.zero_add]
theorem le_of_mul {a b Q L : Nat} (h : a = Q * b + L) (hb : 1 ≤ b) : Q ≤ a := by
  have : Q * 1 ≤ Q * b := Nat.mul_le_mul_left _ hb
  omega

set_option maxHeartbeats 800000 in
theorem rdown_fine (a b : Nat) (w : World) (ha : a ≤ 1099511627775) (hb : b ≤ 1099511627775) (hb1 : 1 ≤ b) :
    Calls Tryd.prog 16 #[.int .i64 a, .int .i64 b] w fun e w' => e = .returned (.tuple #[.int .i64 (downS a b), .int .i64 (downE a b)]) ∧ Below w.heap.size w w' := by
  have h : ff [(a : Int), (b : Int)] = 0 := ff_pair_ok (by omega) (by omega) (by omega) (by omega)
  have C := Lib.hid (all_pair a b w)
  rw [h] at C
  have HF := Lib.hid h
  clear h
  have hbz : ((b : Int) == 0) = false := by rw [beq_eq_false_iff_ne]; omega
  go_enter Tryd.func16, Tryd.ntmps16
  go_wp2_with fail
  refine C.out.mono ?_
  rintro e w' ⟨rfl, rfl⟩
  go_wp2
  go_loop [6, 7, 8] (fun q l i => ∃ k Q L : Nat, k ≤ 40 ∧ Q ≤ 1099511627775 ∧ L ≤ 1099511627775 ∧ Hid (a = Q * b + L ∧ L < b * 2 ^ k) ∧ i = .int .i64 ((k : Int) - 1) ∧ q = .int .i64 Q ∧ l = .int .i64 L) (fun _ _ i => (intOf i + 1).toNat)
  case atStart => exact ⟨40, 0, a, by omega, by omega, by omega, Lib.hid ⟨by omega, by omega⟩, by simp, by simp, rfl⟩
  case round =>
    obtain ⟨k, Q, L, hk, hQ, hL, hrec, rfl, rfl, rfl⟩ := hrel
    by_cases hk0 : k = 0
    · subst hk0
      go_wp2
      go_ret2
      obtain ⟨r1, r2⟩ := hrec.out
      rw [Nat.pow_zero, Nat.mul_one] at r2
      have e1 := down_end r1 r2
      have e2 : (a : Int) / (b : Int) = ((a / b : Nat) : Int) := by rw [Int.natCast_ediv]
      exact ⟨by rw [downS_fine HF.out (by omega), downE_fine HF.out (by omega), e2, e1]; rfl, below_alloc _⟩
    · obtain ⟨m, rfl⟩ : ∃ m, k = m + 1 := ⟨k - 1, by omega⟩
      have e1 : ((m + 1 : Nat) : Int) - 1 = (m : Int) := by omega
      rw [e1]
      clear e1 hk0
      obtain ⟨p, hp⟩ : ∃ p, p = 2 ^ m := ⟨_, rfl⟩
      have hp0 : 0 < p := by rw [hp]; exact Nat.two_pow_pos m
      have hp1 : p ≤ 549755813888 := by rw [hp]; exact Nat.pow_le_pow_right (by omega) (show m ≤ 39 by omega)
      obtain ⟨t, ht⟩ : ∃ t, t = L / p := ⟨_, rfl⟩
      obtain ⟨s, hs⟩ : ∃ s, s = b * p := ⟨_, rfl⟩
      have K2 : (2 : Int) ^ m = (p : Int) := by rw [hp, Int.natCast_pow]; rfl
      have K1 : (L : Int) / (p : Int) = (t : Int) := by rw [ht, Int.natCast_ediv]
      have K3 : (b : Int) * (p : Int) = (s : Int) := by rw [hs, Int.natCast_mul]
      have hiff : b ≤ t ↔ s ≤ L := by rw [ht, hs]; exact Nat.le_div_iff_mul_le hp0
      obtain ⟨r1, r2⟩ := hrec.out
      have HP := Lib.hid hp
      have HS := Lib.hid hs
      by_cases hbt : b ≤ t
      · have hsL : s ≤ L := hiff.mp hbt
        have d1 : a = (Q + p) * b + (L - s) := by rw [hs, hp]; exact down_take r1 (by rw [← hp, ← hs]; exact hsL)
        have d2 : L - s < b * 2 ^ m := by
          rw [Nat.pow_succ, ← Nat.mul_assoc, ← hp, ← hs] at r2
          rw [← hp, ← hs]; omega
        have d3 := le_of_mul d1 hb1
        have HD := Lib.hid (And.intro d1 d2)
        clear d1 d2 ht hs hp hiff r1 r2 hrec
        go_wp2
        go_round
        case rel => exact ⟨m, Q + p, L - s, by omega, by omega, by omega, HD, rfl, by go_num, by go_num⟩
        case measure => simp [intOf]
      · have hsL : L < s := by have := mt hiff.mpr hbt; omega
        have HD : Hid (a = Q * b + L ∧ L < b * 2 ^ m) := Lib.hid ⟨r1, by rw [← hp, ← hs]; exact hsL⟩
        clear ht hs hp hiff r1 r2 hrec
        go_wp2
        go_round
        case rel => exact ⟨m, Q, L, by omega, by omega, by omega, HD, rfl, rfl, rfl⟩
        case measure => simp [intOf]
theorem rdown_any (a b : Int) (w : World) :
    Calls Tryd.prog 16 #[.int .i64 a, .int .i64 b] w fun e w' => e = .returned (.tuple #[.int .i64 (downS a b), .int .i64 (downE a b)]) ∧ Below w.heap.size w w' := by
  by_cases h : ff [a, b] = 0
  · obtain ⟨⟨a0, a1⟩, b0, b1⟩ := ff_pair_zero h
    by_cases hz : b = 0
    · rw [downS_zero h hz, downE_zero h hz]
      have C := Lib.hid (all_pair a b w)
      rw [h] at C
      subst hz
      clear h
      go_enter Tryd.func16, Tryd.ntmps16
      go_wp2_with fail
      refine C.out.mono ?_
      rintro e w' ⟨rfl, rfl⟩
      go_wp2
      go_ret2
      exact ⟨rfl, below_alloc _⟩
    · obtain ⟨x, rfl⟩ : ∃ x : Nat, a = (x : Int) := ⟨a.toNat, by omega⟩
      obtain ⟨y, rfl⟩ : ∃ y : Nat, b = (y : Int) := ⟨b.toNat, by omega⟩
      exact rdown_fine x y w (by omega) (by omega) (by omega)
  · rw [downS_bad h, downE_bad h]
    have C := Lib.hid (all_pair a b w)
    have C2 := Lib.hid (all_pair2 a b (.cells #[.int .i64 a, .int .i64 b] 3) w)
    obtain ⟨c, hc⟩ : ∃ c, c = ff [a, b] := ⟨_, rfl⟩
    rw [← hc] at C C2 h ⊢
    have hb : (c != 0) = true := by simpa using h
    clear h hc
    go_enter Tryd.func16, Tryd.ntmps16
    go_wp2_with fail
    refine C.out.mono ?_
    rintro e w' ⟨rfl, rfl⟩
    go_wp2_with fail
    refine C2.out.mono ?_
    rintro e w' ⟨rfl, rfl⟩
    go_wp2
    go_ret2
    exact ⟨rfl, below_alloc2 _ _⟩

/-- The power of two, asked one by one. -/
theorem rtwo_yes (k : Nat) (hk : k < 40) (w : World) :
    Calls Tryd.prog 18 #[.int .i64 ((2 ^ k : Nat) : Int)] w fun e w' => e = .returned (.tuple #[.int .i64 k, .bool true]) ∧ w = w' := by
  obtain ⟨x, hx⟩ : ∃ x, x = 2 ^ k := ⟨_, rfl⟩
  rw [← hx]
  have HX := Lib.hid hx
  clear hx
  go_enter Tryd.func18, Tryd.ntmps18
  go_wp2
  go_loop [4, 5] (fun p i => ∃ j P : Nat, j ≤ k ∧ P ≤ 549755813888 ∧ Hid (P = 2 ^ j) ∧ i = .int .i64 j ∧ p = .int .i64 P) (fun _ i => k - (intOf i).toNat)
  case atStart => exact ⟨0, 1, by omega, by omega, Lib.hid rfl, rfl, rfl⟩
  case round =>
    obtain ⟨j, P, hj, hP, hpow, rfl, rfl⟩ := hrel
    by_cases hjk : j = k
    · have hb : ((P : Int) == (x : Int)) = true := by rw [beq_iff_eq, hpow.out, HX.out, hjk]
      subst hjk
      go_wp2
      go_ret2
      exact ⟨rfl, rfl⟩
    · have hlt : 2 ^ j < 2 ^ k := Nat.pow_lt_pow_right (by omega) (by omega)
      have hle : 2 ^ (j + 1) ≤ 2 ^ 39 := Nat.pow_le_pow_right (by omega) (by omega)
      rw [Nat.pow_succ] at hle
      rw [← hpow.out, ← HX.out] at hlt
      rw [← hpow.out] at hle
      have hb : ((P : Int) == (x : Int)) = false := by rw [beq_eq_false_iff_ne]; omega
      have hle' : P * 2 ≤ 549755813888 := hle
      clear hle hlt
      go_wp2
      go_round
      case rel => exact ⟨j + 1, 2 * P, by omega, by omega, Lib.hid (by rw [Nat.pow_succ, ← hpow.out, Nat.mul_comm]), by go_num, by go_num⟩
      case measure => simp [intOf]; omega
theorem rtwo_no (n : Int) (w : World) (h : ∀ k : Nat, k < 40 → n ≠ ((2 ^ k : Nat) : Int)) :
    Calls Tryd.prog 18 #[.int .i64 n] w fun e w' => e = .returned (.tuple #[.int .i64 0, .bool false]) ∧ w = w' := by
  have H := Lib.hid h
  clear h
  go_enter Tryd.func18, Tryd.ntmps18
  go_wp2
  go_loop [4, 5] (fun p i => ∃ j P : Nat, j ≤ 40 ∧ P ≤ 1099511627776 ∧ Hid (P = 2 ^ j) ∧ i = .int .i64 j ∧ p = .int .i64 P) (fun _ i => 40 - (intOf i).toNat)
  case atStart => exact ⟨0, 1, by omega, by omega, Lib.hid rfl, rfl, rfl⟩
  case round =>
    obtain ⟨j, P, hj, hP, hpow, rfl, rfl⟩ := hrel
    by_cases hjk : j < 40
    · have hne := H.out j hjk
      rw [← hpow.out] at hne
      have hle : 2 ^ (j + 1) ≤ 2 ^ 40 := Nat.pow_le_pow_right (by omega) (by omega)
      rw [Nat.pow_succ, ← hpow.out] at hle
      have hb : ((P : Int) == n) = false := by rw [beq_eq_false_iff_ne]; omega
      have hle' : P * 2 ≤ 1099511627776 := hle
      clear hle hne
      go_wp2
      go_round
      case rel => exact ⟨j + 1, 2 * P, by omega, by omega, Lib.hid (by rw [Nat.pow_succ, ← hpow.out, Nat.mul_comm]), by go_num, by go_num⟩
      case measure => simp [intOf]; omega
    · go_wp2
      go_ret2
      exact ⟨rfl, rfl⟩
end Go.Proofs.YtcphelemphchbaaDoor
