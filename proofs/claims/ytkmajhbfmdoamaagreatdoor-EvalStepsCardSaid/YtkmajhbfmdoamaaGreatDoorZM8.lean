/- The plain arithmetic of the layer num in the seat YtkmajhbfmdoamaaGreatDoor: what each call comes to, as functions of integers. No statement is proved here; it imports nothing of the program.
   The contract of num.Check, in the seat YtkmajhbfmdoamaaGreatDoor (out of NumFirst).
   Counting bits, in the seat YtkmajhbfmdoamaaGreatDoor: the count of math/bits.OnesCount64 by its own text is 1 just at powers of two (below 2^40). Plain arithmetic; no statement is proved here.
   The contracts of math/bits.OnesCount64 and of num.Two in the seat YtkmajhbfmdoamaaGreatDoor, where Tz64 and NumCheck are there (a layer that calls num.Two alone).
   desc.within, isPart, twoParts, rightCounts, rightTimes and slices.Contains at integers, in the seat YtkmajhbfmdoamaaGreatDoor: their contracts.
   No statement is proved here. -/
import Derived.Lib.Hide
import Derived.Test.YtkmajhbfmdoamaaGreatDoorChecked
import Derived.Test.YtkmajhbfmdoamaaGreatDoorZM1
import Derived.KernelRfl
import Derived.WalkKit
import Derived.Laws.Bits64b
import Derived.Lib.TrailingZeros
import Derived.Test.YtkmajhbfmdoamaaGreatDoorZM6
set_option linter.unusedSimpArgs false
namespace Go.Proofs.YtkmajhbfmdoamaaGreatDoor

/-- The error of one number: 10 below 0, 11 above 2^40 - 1, else 0. -/
def chk (n : Int) : Int := if n < 0 then 10 else if 1099511627775 < n then 11 else 0
/-- The first error of some. -/
def ff : List Int → Int
  | [] => 0
  | n :: l => if chk n = 0 then ff l else chk n
theorem chk_low {n : Int} (h : n < 0) : chk n = 10 := by unfold chk; rw [if_pos h]
theorem chk_high {n : Int} (h : 1099511627775 < n) : chk n = 11 := by unfold chk; rw [if_neg (by omega), if_pos h]
theorem chk_ok {n : Int} (h0 : 0 ≤ n) (h1 : n ≤ 1099511627775) : chk n = 0 := by unfold chk; rw [if_neg (by omega), if_neg (by omega)]
theorem chk_zero {n : Int} (h : chk n = 0) : 0 ≤ n ∧ n ≤ 1099511627775 := by
  by_cases h1 : n < 0
  · rw [chk_low h1] at h; omega
  · by_cases h2 : 1099511627775 < n
    · rw [chk_high h2] at h; omega
    · omega
end Go.Proofs.YtkmajhbfmdoamaaGreatDoor
namespace Go.Proofs.YtkmajhbfmdoamaaGreatDoor
open Go.RowKit

theorem check_any (n : Int) (w : World) : Calls Tryz.prog 114 #[.int .i64 n] w fun e w' => e = .returned (.int .i64 (chk n)) ∧ w = w' := by
  by_cases h1 : n < 0
  · rw [chk_low h1]
    go_enter Tryz.func114, Tryz.ntmps114
    go_wp2
    go_ret
    exact ⟨rfl, rfl⟩
  · by_cases h2 : 1099511627775 < n
    · rw [chk_high h2]
      go_enter Tryz.func114, Tryz.ntmps114
      go_wp2
      go_ret
      exact ⟨rfl, rfl⟩
    · rw [chk_ok (by omega) (by omega)]
      go_enter Tryz.func114, Tryz.ntmps114
      go_wp2
      go_ret
      exact ⟨rfl, rfl⟩

end Go.Proofs.YtkmajhbfmdoamaaGreatDoor
namespace Go.Proofs.YtkmajhbfmdoamaaGreatDoor
open Go.RowKit

theorem bits_and_i64_nat (a b : Nat) (ha : a < 9223372036854775808) (hb : b < 9223372036854775808) : bits .and .i64 (a : Int) (b : Int) = ((a &&& b : Nat) : Int) := by
  have hx : a &&& b < 2 ^ 63 := Nat.and_lt_two_pow _ (by omega)
  have h1 : (BitVec.ofInt 64 (a : Int)).toNat = a := by
    rw [BitVec.ofInt_natCast, BitVec.toNat_ofNat]; exact Nat.mod_eq_of_lt (by omega)
  have h2 : (BitVec.ofInt 64 (b : Int)).toNat = b := by
    rw [BitVec.ofInt_natCast, BitVec.toNat_ofNat]; exact Nat.mod_eq_of_lt (by omega)
  show IntKind.i64.wrap ((BitVec.ofInt 64 (a : Int) &&& BitVec.ofInt 64 (b : Int)).toNat : Int) = _
  rw [BitVec.toNat_and, h1, h2]
  simp [IntKind.wrap, IntKind.signed, IntKind.bits]
  omega

/-- A byte stands m times, one behind the other. -/
def rep (m : Nat) : Nat → Nat
  | 0 => 0
  | k + 1 => 256 * rep m k + m
theorem and_byte (q r m s : Nat) (hr : r < 256) (hs : s < 256) : (256 * q + r) &&& (256 * m + s) = 256 * (q &&& m) + (r &&& s) := by
  apply Nat.eq_of_testBit_eq
  intro i
  have hrs : r &&& s < 2 ^ 8 := Nat.and_lt_two_pow _ (by omega)
  have e (a b : Nat) (hb : b < 2 ^ 8) : (256 * a + b).testBit i = if i < 8 then b.testBit i else a.testBit (i - 8) := by
    have := Nat.testBit_two_pow_mul_add a hb i
    simpa using this
  rw [Nat.testBit_and, e q r hr, e m s hs, e _ _ hrs]
  by_cases h : i < 8
  · simp [h]
  · simp [h]

def b1 (r : Nat) : Nat := (r / 2 &&& 85) + (r &&& 85)
def b2 (r : Nat) : Nat := (r / 4 &&& 51) + (r &&& 51)
def b3 (r : Nat) : Nat := (r / 16 + r) &&& 15
def pop8 (r : Nat) : Nat := b3 (b2 (b1 r))
def S1 (k x : Nat) : Nat := (x / 2 &&& rep 85 k) + (x &&& rep 85 k)
def S2 (k x : Nat) : Nat := (x / 4 &&& rep 51 k) + (x &&& rep 51 k)
def S3 (k x : Nat) : Nat := (x / 16 + x) &&& rep 15 k

theorem b1_mask : ∀ r, r < 256 → (r / 2 &&& 85) = (128 + r / 2 &&& 85) ∧ b1 r < 256 := by decide +kernel
theorem b2_mask : ∀ r, r < 256 → (r / 4 &&& 51) = (64 + r / 4 &&& 51) ∧ (r / 4 &&& 51) = (128 + r / 4 &&& 51) ∧ (r / 4 &&& 51) = (192 + r / 4 &&& 51) ∧ b2 r < 256 ∧ b2 r % 16 ≤ 6 ∧ b2 (b1 r) ≤ 68 ∧ pop8 r ≤ 8 := by decide +kernel
theorem b3_mask : ∀ r, r ≤ 68 → ∀ t, t ≤ 6 → (16 * t + (r / 16 + r) &&& 15) = b3 r := by decide +kernel
theorem S1_step (k q r : Nat) (hr : r < 256) : S1 (k + 1) (256 * q + r) = 256 * S1 k q + b1 r := by
  have h2 : (256 * q + r) / 2 = 256 * (q / 2) + (128 * (q % 2) + r / 2) := by omega
  have rs : rep 85 (k + 1) = 256 * rep 85 k + 85 := rfl
  unfold S1
  rw [rs, h2, and_byte _ _ _ _ (by omega) (by omega), and_byte _ _ _ _ (by omega) (by omega)]
  have h3 : (128 * (q % 2) + r / 2 &&& 85) = (r / 2 &&& 85) := by
    rcases Nat.mod_two_eq_zero_or_one q with h | h <;> rw [h]
    · simp
    · exact (b1_mask r hr).1.symm
  rw [h3]
  show _ = 256 * ((q / 2 &&& rep 85 k) + (q &&& rep 85 k)) + ((r / 2 &&& 85) + (r &&& 85))
  omega
theorem S2_step (k q r : Nat) (hr : r < 256) : S2 (k + 1) (256 * q + r) = 256 * S2 k q + b2 r := by
  have h2 : (256 * q + r) / 4 = 256 * (q / 4) + (64 * (q % 4) + r / 4) := by omega
  have rs : rep 51 (k + 1) = 256 * rep 51 k + 51 := rfl
  unfold S2
  rw [rs, h2, and_byte _ _ _ _ (by omega) (by omega), and_byte _ _ _ _ (by omega) (by omega)]
  have h3 : (64 * (q % 4) + r / 4 &&& 51) = (r / 4 &&& 51) := by
    obtain ⟨m1, m2, m3, _⟩ := b2_mask r hr
    rcases (show q % 4 = 0 ∨ q % 4 = 1 ∨ q % 4 = 2 ∨ q % 4 = 3 by omega) with h | h | h | h <;> rw [h]
    · simp
    · exact m1.symm
    · exact m2.symm
    · exact m3.symm
  rw [h3]
  show _ = 256 * ((q / 4 &&& rep 51 k) + (q &&& rep 51 k)) + ((r / 4 &&& 51) + (r &&& 51))
  omega
theorem S3_step (k q r : Nat) (hr : r ≤ 68) (hq : q % 16 ≤ 6) : S3 (k + 1) (256 * q + r) = 256 * S3 k q + b3 r := by
  have h2 : (256 * q + r) / 16 + (256 * q + r) = 256 * (q / 16 + q) + (16 * (q % 16) + (r / 16 + r)) := by omega
  have rs : rep 15 (k + 1) = 256 * rep 15 k + 15 := rfl
  unfold S3
  rw [rs, h2, and_byte _ _ _ _ (by omega) (by omega), b3_mask r hr _ hq]
theorem S2_low (k q : Nat) : S2 k q % 16 ≤ 6 := by
  cases k with
  | zero => simp [S2, rep]
  | succ k =>
    have h := S2_step k (q / 256) (q % 256) (Nat.mod_lt _ (by omega))
    have h1 := (b2_mask (q % 256) (Nat.mod_lt _ (by omega))).2.2.2.2.1
    have e : 256 * (q / 256) + q % 256 = q := by omega
    rw [e] at h
    omega
/-- Three rounds of the count: each byte holds the count of its bits. -/
def T (k x : Nat) : Nat := S3 k (S2 k (S1 k x))
theorem T_step (k q r : Nat) (hr : r < 256) : T (k + 1) (256 * q + r) = 256 * T k q + pop8 r := by
  unfold T
  rw [S1_step k q r hr, S2_step k _ _ (b1_mask r hr).2, S3_step k _ _ (b2_mask r hr).2.2.2.2.2.1 (S2_low _ _)]
  rfl
theorem T_zero (k : Nat) : T k 0 = 0 := by
  simp [T, S1, S2, S3]

theorem pop8_zero : ∀ r, r < 256 → pop8 r = 0 → r = 0 := by decide +kernel
theorem pop8_one : ∀ r, r < 256 → pop8 r = 1 → r = 1 ∨ r = 2 ∨ r = 4 ∨ r = 8 ∨ r = 16 ∨ r = 32 ∨ r = 64 ∨ r = 128 := by decide +kernel

/-- The five bytes of a number below 2^40, and its count byte by byte. -/
theorem T_bytes (x : Nat) (hx : x < 1099511627776) : ∃ r0 r1 r2 r3 r4, (r0 < 256 ∧ r1 < 256 ∧ r2 < 256 ∧ r3 < 256 ∧ r4 < 256) ∧ x = r0 + 256 * r1 + 65536 * r2 + 16777216 * r3 + 4294967296 * r4 ∧
    T 8 x = pop8 r0 + 256 * pop8 r1 + 65536 * pop8 r2 + 16777216 * pop8 r3 + 4294967296 * pop8 r4 := by
  refine ⟨x % 256, x / 256 % 256, x / 65536 % 256, x / 16777216 % 256, x / 4294967296, by omega, by omega, ?_⟩
  have e0 : x = 256 * (x / 256) + x % 256 := by omega
  have e1 : x / 256 = 256 * (x / 65536) + x / 256 % 256 := by omega
  have e2 : x / 65536 = 256 * (x / 16777216) + x / 65536 % 256 := by omega
  have e3 : x / 16777216 = 256 * (x / 4294967296) + x / 16777216 % 256 := by omega
  have e4 : x / 4294967296 = 256 * 0 + x / 4294967296 := by omega
  have t0 : T 8 (256 * (x / 256) + x % 256) = 256 * T 7 (x / 256) + pop8 (x % 256) := T_step 7 _ _ (by omega)
  have t1 : T 7 (256 * (x / 65536) + x / 256 % 256) = 256 * T 6 (x / 65536) + pop8 (x / 256 % 256) := T_step 6 _ _ (by omega)
  have t2 : T 6 (256 * (x / 16777216) + x / 65536 % 256) = 256 * T 5 (x / 16777216) + pop8 (x / 65536 % 256) := T_step 5 _ _ (by omega)
  have t3 : T 5 (256 * (x / 4294967296) + x / 16777216 % 256) = 256 * T 4 (x / 4294967296) + pop8 (x / 16777216 % 256) := T_step 4 _ _ (by omega)
  have t4 : T 4 (256 * 0 + x / 4294967296) = 256 * T 3 0 + pop8 (x / 4294967296) := T_step 3 _ _ (by omega)
  rw [← e0] at t0
  rw [← e1] at t1
  rw [← e2] at t2
  rw [← e3] at t3
  rw [← e4, T_zero] at t4
  rw [t0, t1, t2, t3, t4]
  omega

/-- The last rounds: the bytes are added. -/
def tailN (c : Nat) : Nat := ((c + c / 256) + (c + c / 256) / 65536) + ((c + c / 256) + (c + c / 256) / 65536) / 4294967296
theorem tail_sum (p0 p1 p2 p3 p4 : Nat) (h0 : p0 ≤ 8) (h1 : p1 ≤ 8) (h2 : p2 ≤ 8) (h3 : p3 ≤ 8) (h4 : p4 ≤ 8) :
    tailN (p0 + 256 * p1 + 65536 * p2 + 16777216 * p3 + 4294967296 * p4) % 128 = p0 + p1 + p2 + p3 + p4 := by
  unfold tailN
  have c1 : (p0 + 256 * p1 + 65536 * p2 + 16777216 * p3 + 4294967296 * p4) / 256 = p1 + 256 * p2 + 65536 * p3 + 16777216 * p4 := by omega
  rw [c1]
  have c2 : (p0 + 256 * p1 + 65536 * p2 + 16777216 * p3 + 4294967296 * p4 + (p1 + 256 * p2 + 65536 * p3 + 16777216 * p4)) / 65536 = (p2 + p3) + 256 * (p3 + p4) + 65536 * p4 := by omega
  rw [c2]
  have c3 : (p0 + 256 * p1 + 65536 * p2 + 16777216 * p3 + 4294967296 * p4 + (p1 + 256 * p2 + 65536 * p3 + 16777216 * p4) + ((p2 + p3) + 256 * (p3 + p4) + 65536 * p4)) / 4294967296 = p4 := by omega
  rw [c3]
  omega

/-- The count of a number below 2^40. -/
def cntN (x : Nat) : Nat := tailN (T 8 x) % 128
theorem and_127 (x : Nat) : x &&& 127 = x % 128 := Nat.and_two_pow_sub_one_eq_mod x 7
theorem cnt_two (x : Nat) (hx : x < 1099511627776) (h : cntN x = 1) : ∃ k, k < 40 ∧ x = 2 ^ k := by
  obtain ⟨r0, r1, r2, r3, r4, ⟨l0, l1, l2, l3, l4⟩, e, ht⟩ := T_bytes x hx
  unfold cntN at h
  rw [ht, tail_sum _ _ _ _ _ (b2_mask r0 l0).2.2.2.2.2.2 (b2_mask r1 l1).2.2.2.2.2.2 (b2_mask r2 l2).2.2.2.2.2.2 (b2_mask r3 l3).2.2.2.2.2.2 (b2_mask r4 l4).2.2.2.2.2.2] at h
  have z0 := pop8_zero r0 l0
  have z1 := pop8_zero r1 l1
  have z2 := pop8_zero r2 l2
  have z3 := pop8_zero r3 l3
  have z4 := pop8_zero r4 l4
  have o0 := pop8_one r0 l0
  have o1 := pop8_one r1 l1
  have o2 := pop8_one r2 l2
  have o3 := pop8_one r3 l3
  have o4 := pop8_one r4 l4
  rcases (show pop8 r0 = 1 ∨ pop8 r1 = 1 ∨ pop8 r2 = 1 ∨ pop8 r3 = 1 ∨ pop8 r4 = 1 by omega) with g | g | g | g | g
  · have := o0 g
    have := z1 (by omega); have := z2 (by omega); have := z3 (by omega); have := z4 (by omega)
    rcases o0 g with g | g | g | g | g | g | g | g
    · exact ⟨0, by omega, by omega⟩
    · exact ⟨1, by omega, by omega⟩
    · exact ⟨2, by omega, by omega⟩
    · exact ⟨3, by omega, by omega⟩
    · exact ⟨4, by omega, by omega⟩
    · exact ⟨5, by omega, by omega⟩
    · exact ⟨6, by omega, by omega⟩
    · exact ⟨7, by omega, by omega⟩
  · have := z0 (by omega); have := z2 (by omega); have := z3 (by omega); have := z4 (by omega)
    rcases o1 g with g | g | g | g | g | g | g | g
    · exact ⟨8, by omega, by omega⟩
    · exact ⟨9, by omega, by omega⟩
    · exact ⟨10, by omega, by omega⟩
    · exact ⟨11, by omega, by omega⟩
    · exact ⟨12, by omega, by omega⟩
    · exact ⟨13, by omega, by omega⟩
    · exact ⟨14, by omega, by omega⟩
    · exact ⟨15, by omega, by omega⟩
  · have := z0 (by omega); have := z1 (by omega); have := z3 (by omega); have := z4 (by omega)
    rcases o2 g with g | g | g | g | g | g | g | g
    · exact ⟨16, by omega, by omega⟩
    · exact ⟨17, by omega, by omega⟩
    · exact ⟨18, by omega, by omega⟩
    · exact ⟨19, by omega, by omega⟩
    · exact ⟨20, by omega, by omega⟩
    · exact ⟨21, by omega, by omega⟩
    · exact ⟨22, by omega, by omega⟩
    · exact ⟨23, by omega, by omega⟩
  · have := z0 (by omega); have := z1 (by omega); have := z2 (by omega); have := z4 (by omega)
    rcases o3 g with g | g | g | g | g | g | g | g
    · exact ⟨24, by omega, by omega⟩
    · exact ⟨25, by omega, by omega⟩
    · exact ⟨26, by omega, by omega⟩
    · exact ⟨27, by omega, by omega⟩
    · exact ⟨28, by omega, by omega⟩
    · exact ⟨29, by omega, by omega⟩
    · exact ⟨30, by omega, by omega⟩
    · exact ⟨31, by omega, by omega⟩
  · have := z0 (by omega); have := z1 (by omega); have := z2 (by omega); have := z3 (by omega)
    rcases o4 g with g | g | g | g | g | g | g | g
    · exact ⟨32, by omega, by omega⟩
    · exact ⟨33, by omega, by omega⟩
    · exact ⟨34, by omega, by omega⟩
    · exact ⟨35, by omega, by omega⟩
    · exact ⟨36, by omega, by omega⟩
    · exact ⟨37, by omega, by omega⟩
    · exact ⟨38, by omega, by omega⟩
    · exact ⟨39, by omega, by omega⟩
theorem two_cnt : ∀ k, k < 40 → cntN (2 ^ k) = 1 ∧ 2 ^ k ≤ 549755813888 ∧ 0 < 2 ^ k ∧ Lib.ctz 64 (2 ^ k) = k := by decide +kernel
theorem T_le (x : Nat) (hx : x < 1099511627776) : T 8 x ≤ 34901295112 := by
  obtain ⟨r0, r1, r2, r3, r4, ⟨l0, l1, l2, l3, l4⟩, e, ht⟩ := T_bytes x hx
  have := (b2_mask r0 l0).2.2.2.2.2.2
  have := (b2_mask r1 l1).2.2.2.2.2.2
  have := (b2_mask r2 l2).2.2.2.2.2.2
  have := (b2_mask r3 l3).2.2.2.2.2.2
  have := (b2_mask r4 l4).2.2.2.2.2.2
  omega
end Go.Proofs.YtkmajhbfmdoamaaGreatDoor
namespace Go.Proofs.YtkmajhbfmdoamaaGreatDoor
open Go.RowKit

set_option maxHeartbeats 400000 in
theorem ones64_core (x a1 a2 c1 c2 d r : Nat) (w : World) (h1 : a1 ≤ 1099511627775) (h2 : a2 ≤ 1099511627775) (h3 : c1 ≤ 2199023255550) (h4 : c2 ≤ 2199023255550) (h5 : d ≤ 34901295112)
    (k1 : bits BinOp.and IntKind.u64 ((x : Int) / 2) 6148914691236517205 = (a1 : Int)) (k2 : bits BinOp.and IntKind.u64 (x : Int) 6148914691236517205 = (a2 : Int))
    (k3 : bits BinOp.and IntKind.u64 (((a1 : Int) + a2) / 4) 3689348814741910323 = (c1 : Int)) (k4 : bits BinOp.and IntKind.u64 ((a1 : Int) + a2) 3689348814741910323 = (c2 : Int))
    (k5 : bits BinOp.and IntKind.u64 (((c1 : Int) + c2) / 16 + (c1 + c2)) 1085102592571150095 = (d : Int))
    (k6 : bits BinOp.and IntKind.i64 ((((d : Int) + d / 256) + ((d : Int) + d / 256) / 65536) + (((d : Int) + d / 256) + ((d : Int) + d / 256) / 65536) / 4294967296) 127 = (r : Int)) :
    Calls Tryz.prog 136 #[.int .u64 x] w fun e w' => e = .returned (.int .i64 r) ∧ w = w' := by
  go_enter Tryz.func136, Tryz.ntmps136
  go_wp2
  go_ret
  exact ⟨rfl, rfl⟩
theorem rep85 : rep 85 8 = 6148914691236517205 := by decide +kernel
theorem rep51 : rep 51 8 = 3689348814741910323 := by decide +kernel
theorem rep15 : rep 15 8 = 1085102592571150095 := by decide +kernel
theorem and_le_l (a b : Nat) : a &&& b ≤ a := Nat.and_le_left
theorem ones64_any (x : Nat) (w : World) (hx : x ≤ 1099511627775) :
    Calls Tryz.prog 136 #[.int .u64 x] w fun e w' => e = .returned (.int .i64 (cntN x)) ∧ w = w' := by
  have l1 := and_le_l (x / 2) (rep 85 8)
  have l2 := and_le_l x (rep 85 8)
  have hs1 : S1 8 x ≤ 2199023255550 := by unfold S1; omega
  have l3 := and_le_l (S1 8 x / 4) (rep 51 8)
  have l4 := and_le_l (S1 8 x) (rep 51 8)
  have hs2 : S2 8 (S1 8 x) ≤ 4398046511100 := by unfold S2; omega
  have ht := T_le x (by omega)
  have e1 : ((S1 8 x : Nat) : Int) = ((x / 2 &&& rep 85 8 : Nat) : Int) + ((x &&& rep 85 8 : Nat) : Int) := by unfold S1; omega
  have e2 : ((S2 8 (S1 8 x) : Nat) : Int) = ((S1 8 x / 4 &&& rep 51 8 : Nat) : Int) + ((S1 8 x &&& rep 51 8 : Nat) : Int) := by unfold S2; omega
  refine ones64_core x (x / 2 &&& rep 85 8) (x &&& rep 85 8) (S1 8 x / 4 &&& rep 51 8) (S1 8 x &&& rep 51 8) (T 8 x) (cntN x) w (by omega) (by omega) (by omega) (by omega) ht ?_ ?_ ?_ ?_ ?_ ?_
  · rw [show (x : Int) / 2 = ((x / 2 : Nat) : Int) by omega]
    rw [rep85]
    exact bits_and_u64_nat (x / 2) 6148914691236517205 (by omega) (by omega)
  · rw [rep85]
    exact bits_and_u64_nat x 6148914691236517205 (by omega) (by omega)
  · rw [← e1, show ((S1 8 x : Nat) : Int) / 4 = ((S1 8 x / 4 : Nat) : Int) by omega, rep51]
    exact bits_and_u64_nat (S1 8 x / 4) 3689348814741910323 (by omega) (by omega)
  · rw [← e1, rep51]
    exact bits_and_u64_nat (S1 8 x) 3689348814741910323 (by omega) (by omega)
  · rw [← e2, show ((S2 8 (S1 8 x) : Nat) : Int) / 16 + ((S2 8 (S1 8 x) : Nat) : Int) = ((S2 8 (S1 8 x) / 16 + S2 8 (S1 8 x) : Nat) : Int) by omega]
    rw [show T 8 x = (S2 8 (S1 8 x) / 16 + S2 8 (S1 8 x)) &&& 1085102592571150095 by rw [← rep15]; rfl]
    exact bits_and_u64_nat (S2 8 (S1 8 x) / 16 + S2 8 (S1 8 x)) 1085102592571150095 (by omega) (by omega)
  · obtain ⟨d, hd⟩ : ∃ d, d = T 8 x := ⟨_, rfl⟩
    have hc : cntN x = tailN d &&& 127 := by rw [hd, and_127]; rfl
    rw [hc, ← hd]
    rw [← hd] at ht
    have hb : tailN d ≤ 9223372036854775807 := by unfold tailN; omega
    have he : (((d : Int) + d / 256) + ((d : Int) + d / 256) / 65536) + (((d : Int) + d / 256) + ((d : Int) + d / 256) / 65536) / 4294967296 = ((tailN d : Nat) : Int) := by unfold tailN; omega
    rw [he]
    exact bits_and_i64_nat (tailN d) 127 (by omega) (by omega)
theorem ones_any (x : Nat) (w : World) (hx : x ≤ 1099511627775) :
    Calls Tryz.prog 115 #[.int .u64 x] w fun e w' => e = .returned (.int .i64 (cntN x)) ∧ w = w' := by
  have C := Lib.hid (ones64_any x w hx)
  go_enter Tryz.func115, Tryz.ntmps115
  go_wp2_with (go_at_call 136; refine C.out.mono ?_; rintro e w' ⟨rfl, rfl⟩)
  go_ret
  exact ⟨rfl, rfl⟩

theorem tz_any (x : Nat) (w : World) (hx : x < 18446744073709551616) (hx0 : x ≠ 0) (hT : Tab64 w) :
    Calls Tryz.prog 116 #[.int .u64 x] w fun e w' => e = .returned (.int .i64 (Lib.ctz 64 x)) ∧ w = w' := by
  have C := Lib.hid (tz64_any x w hx hx0 hT)
  clear hx hx0 hT
  obtain ⟨c, hc⟩ : ∃ c, c = Lib.ctz 64 x := ⟨_, rfl⟩
  rw [← hc] at C ⊢
  clear hc
  go_enter Tryz.func116, Tryz.ntmps116
  go_wp2_with (go_at_call 138; refine C.out.mono ?_; rintro e w' ⟨rfl, rfl⟩)
  go_ret
  exact ⟨rfl, rfl⟩

/-- num.Two at a power of two. -/
theorem two_core (x k : Nat) (w : World) (hx : x ≤ 1099511627775) (C1 : Hid (Calls Tryz.prog 115 #[.int .u64 x] w fun e w' => e = .returned (.int .i64 1) ∧ w = w'))
    (C2 : Hid (Calls Tryz.prog 116 #[.int .u64 x] w fun e w' => e = .returned (.int .i64 k) ∧ w = w')) :
    Calls Tryz.prog 93 #[.int .i64 x] w fun e w' => e = .returned (.tuple #[.int .i64 k, .bool true]) ∧ w = w' := by
  have C0 := Lib.hid (check_any (x : Int) w)
  rw [chk_ok (by omega) (by omega)] at C0
  go_enter Tryz.func93, Tryz.ntmps93
  go_wp2_with (first
    | (go_at_call 114; refine C0.out.mono ?_; rintro e w' ⟨rfl, rfl⟩)
    | (go_at_call 115; refine C1.out.mono ?_; rintro e w' ⟨rfl, rfl⟩)
    | (go_at_call 116; refine C2.out.mono ?_; rintro e w' ⟨rfl, rfl⟩))
  go_ret2
  exact ⟨rfl, rfl⟩
theorem two_yes (k : Nat) (hk : k < 40) (w : World) (hT : Tab64 w) :
    Calls Tryz.prog 93 #[.int .i64 ((2 ^ k : Nat) : Int)] w fun e w' => e = .returned (.tuple #[.int .i64 k, .bool true]) ∧ w = w' := by
  obtain ⟨h1, h2, h3, h4⟩ := two_cnt k hk
  obtain ⟨x, hx⟩ : ∃ x, x = 2 ^ k := ⟨_, rfl⟩
  rw [← hx] at h1 h2 h3 h4 ⊢
  have C1 := ones_any x w (by omega)
  rw [h1] at C1
  have C2 := tz_any x w (by omega) (by omega) hT
  rw [h4] at C2
  exact two_core x k w (by omega) (Lib.hid C1) (Lib.hid C2)
theorem two_not (x c : Nat) (w : World) (hx : x ≤ 1099511627775) (hc : ((c : Int) != 1) = true) (C1 : Hid (Calls Tryz.prog 115 #[.int .u64 x] w fun e w' => e = .returned (.int .i64 c) ∧ w = w')) :
    Calls Tryz.prog 93 #[.int .i64 x] w fun e w' => e = .returned (.tuple #[.int .i64 0, .bool false]) ∧ w = w' := by
  have C0 := Lib.hid (check_any (x : Int) w)
  rw [chk_ok (by omega) (by omega)] at C0
  go_enter Tryz.func93, Tryz.ntmps93
  go_wp2_with (first
    | (go_at_call 114; refine C0.out.mono ?_; rintro e w' ⟨rfl, rfl⟩)
    | (go_at_call 115; refine C1.out.mono ?_; rintro e w' ⟨rfl, rfl⟩))
  go_ret2
  exact ⟨rfl, rfl⟩
theorem two_wrong (n : Int) (w : World) (h : chk n ≠ 0) :
    Calls Tryz.prog 93 #[.int .i64 n] w fun e w' => e = .returned (.tuple #[.int .i64 0, .bool false]) ∧ w = w' := by
  have C0 := Lib.hid (check_any n w)
  obtain ⟨c, hc⟩ : ∃ c, c = chk n := ⟨_, rfl⟩
  rw [← hc] at C0 h
  have hb : (c != 0) = true := by simpa using h
  clear hc h
  go_enter Tryz.func93, Tryz.ntmps93
  go_wp2_with (go_at_call 114; refine C0.out.mono ?_; rintro e w' ⟨rfl, rfl⟩)
  go_ret2
  exact ⟨rfl, rfl⟩
theorem two_no (n : Int) (w : World) (h : ∀ k : Nat, k < 40 → n ≠ ((2 ^ k : Nat) : Int)) :
    Calls Tryz.prog 93 #[.int .i64 n] w fun e w' => e = .returned (.tuple #[.int .i64 0, .bool false]) ∧ w = w' := by
  by_cases hc : chk n = 0
  · obtain ⟨n0, n1⟩ := chk_zero hc
    obtain ⟨x, rfl⟩ : ∃ x : Nat, n = (x : Int) := ⟨n.toNat, by omega⟩
    refine two_not x (cntN x) w (by omega) ?_ (Lib.hid (ones_any x w (by omega)))
    have : cntN x ≠ 1 := fun h1 => by
      obtain ⟨k, hk, e⟩ := cnt_two x (by omega) h1
      exact h k hk (by rw [e])
    simp; omega
  · exact two_wrong n w hc
end Go.Proofs.YtkmajhbfmdoamaaGreatDoor
set_option linter.unusedVariables false
namespace Go.Proofs.YtkmajhbfmdoamaaGreatDoor
open Go.RowKit

theorem within_any (n a b : Int) (r : Bool) (hr : r = true ↔ a ≤ n ∧ n ≤ b) (w : World) :
    Calls Tryz.prog 92 #[.int .i64 n, .int .i64 a, .int .i64 b] w fun e w' => e = .returned (.bool r) ∧ w = w' := by
  by_cases h1 : a ≤ n
  · by_cases h2 : n ≤ b
    · obtain rfl : r = true := hr.mpr ⟨h1, h2⟩
      clear hr
      go_enter Tryz.func92, Tryz.ntmps92
      go_wp2
      go_ret
      exact ⟨rfl, rfl⟩
    · obtain rfl : r = false := by rw [← Bool.not_eq_true]; exact fun h => h2 (hr.mp h).2
      clear hr
      go_enter Tryz.func92, Tryz.ntmps92
      go_wp2
      go_ret
      exact ⟨rfl, rfl⟩
  · obtain rfl : r = false := by rw [← Bool.not_eq_true]; exact fun h => h1 (hr.mp h).1
    clear hr
    go_enter Tryz.func92, Tryz.ntmps92
    go_wp2
    go_ret
    exact ⟨rfl, rfl⟩
theorem isPart_any (n : Int) (c : Nat) (hc : c ≤ 1000) (r : Bool) (hr : r = true ↔ 0 ≤ n ∧ n < c) (w : World) :
    Calls Tryz.prog 118 #[.int .i64 n, .int .i64 c] w fun e w' => e = .returned (.bool r) ∧ w = w' := by
  have C := Lib.hid (within_any n 0 ((c : Int) - 1) r (by rw [hr]; omega))
  clear hr
  go_enter Tryz.func118, Tryz.ntmps118
  go_wp2_with fail
  refine (C.out _).mono ?_
  rintro e w' ⟨rfl, rfl⟩
  go_wp2
  go_ret
  exact ⟨rfl, rfl⟩
theorem twoParts_any (a b : Int) (c : Nat) (hc : c ≤ 1000) (r : Bool) (hr : r = true ↔ (0 ≤ a ∧ a < c) ∧ (0 ≤ b ∧ b < c) ∧ a ≠ b) (w : World) :
    Calls Tryz.prog 97 #[.int .i64 a, .int .i64 b, .int .i64 c] w fun e w' => e = .returned (.bool r) ∧ w = w' := by
  by_cases h1 : 0 ≤ a ∧ a < c
  · have C1 := Lib.hid (isPart_any a c hc true ⟨fun _ => h1, fun _ => rfl⟩)
    by_cases h2 : 0 ≤ b ∧ b < c
    · have C2 := Lib.hid (isPart_any b c hc true ⟨fun _ => h2, fun _ => rfl⟩)
      by_cases h3 : a = b
      · obtain rfl : r = false := by rw [← Bool.not_eq_true]; exact fun h => (hr.mp h).2.2 h3
        have hb : (a != b) = false := by simpa using h3
        clear hr h1 h2 h3 hc
        go_enter Tryz.func97, Tryz.ntmps97
        go_wp2_with fail
        refine (C1.out _).mono ?_
        rintro e w' ⟨rfl, rfl⟩
        go_wp2_with fail
        refine (C2.out _).mono ?_
        rintro e w' ⟨rfl, rfl⟩
        go_wp2
        go_ret
        exact ⟨rfl, rfl⟩
      · obtain rfl : r = true := hr.mpr ⟨h1, h2, h3⟩
        have hb : (a != b) = true := by simpa using h3
        clear hr h1 h2 h3 hc
        go_enter Tryz.func97, Tryz.ntmps97
        go_wp2_with fail
        refine (C1.out _).mono ?_
        rintro e w' ⟨rfl, rfl⟩
        go_wp2_with fail
        refine (C2.out _).mono ?_
        rintro e w' ⟨rfl, rfl⟩
        go_wp2
        go_ret
        exact ⟨rfl, rfl⟩
    · have C2 := Lib.hid (isPart_any b c hc false ⟨fun q => Bool.noConfusion q, fun q => absurd q h2⟩)
      obtain rfl : r = false := by rw [← Bool.not_eq_true]; exact fun h => h2 (hr.mp h).2.1
      clear hr h1 h2 hc
      go_enter Tryz.func97, Tryz.ntmps97
      go_wp2_with fail
      refine (C1.out _).mono ?_
      rintro e w' ⟨rfl, rfl⟩
      go_wp2_with fail
      refine (C2.out _).mono ?_
      rintro e w' ⟨rfl, rfl⟩
      go_wp2
      go_ret
      exact ⟨rfl, rfl⟩
  · have C1 := Lib.hid (isPart_any a c hc false ⟨fun q => Bool.noConfusion q, fun q => absurd q h1⟩)
    obtain rfl : r = false := by rw [← Bool.not_eq_true]; exact fun h => h1 (hr.mp h).1
    clear hr h1 hc
    go_enter Tryz.func97, Tryz.ntmps97
    go_wp2_with fail
    refine (C1.out _).mono ?_
    rintro e w' ⟨rfl, rfl⟩
    go_wp2
    go_ret
    exact ⟨rfl, rfl⟩
section
variable {P : Option Addr} {np pc : Nat} {E : Option Addr} {ne ec : Nat} {F : Option Addr} {nf fc : Nat} {R : Option Addr} {nr rc : Nat} {p q : Int}
theorem counts_any (r : Bool) (hr : r = true ↔ 1 ≤ np ∧ np ≤ 16 ∧ ne ≤ 48 ∧ nf ≤ 16 ∧ nr ≤ 4) (w : World) (h0 : np ≤ 1000) (h1 : ne ≤ 1000) (h2 : nf ≤ 1000) (h3 : nr ≤ 1000) :
    Calls Tryz.prog 65 #[.agg #[.int .i64 p, .int .i64 q, .slice P np pc, .slice E ne ec, .slice F nf fc, .slice R nr rc]] w fun e w' => e = .returned (.bool r) ∧ Below w.heap.size w w' := by
  by_cases k1 : 1 ≤ np ∧ np ≤ 16
  · have C := Lib.hid (within_any np 1 16 true ⟨fun _ => by omega, fun _ => rfl⟩)
    by_cases k : ne ≤ 48 ∧ nf ≤ 16 ∧ nr ≤ 4
    · obtain rfl : r = true := hr.mpr ⟨k1.1, k1.2, k⟩
      obtain ⟨g1, g2, g3⟩ := k
      clear hr k1 h0 h1 h2 h3
      go_enter Tryz.func65, Tryz.ntmps65
      go_wp2_with fail
      refine (C.out _).mono ?_
      rintro e w' ⟨rfl, rfl⟩
      go_wp2
      go_ret
      exact ⟨by first | rfl | (refine congrArg (fun b => Ending.returned (Value.bool b)) (?_ : decide _ = _); rw [decide_eq_true_iff]; omega), below_alloc _⟩
    · obtain rfl : r = false := by rw [← Bool.not_eq_true]; exact fun h => k (hr.mp h).2.2
      rcases (show 48 < ne ∨ (ne ≤ 48 ∧ 16 < nf) ∨ (ne ≤ 48 ∧ nf ≤ 16 ∧ 4 < nr) by omega) with g1 | ⟨g1, g2⟩ | ⟨g1, g2, g3⟩
      all_goals
        clear hr k1 k
        go_enter Tryz.func65, Tryz.ntmps65
        go_wp2_with fail
        refine (C.out _).mono ?_
        rintro e w' ⟨rfl, rfl⟩
        go_wp2
        go_ret
        exact ⟨by first | rfl | (refine congrArg (fun b => Ending.returned (Value.bool b)) (?_ : decide _ = _); rw [decide_eq_false_iff_not]; omega), below_alloc _⟩
  · have C := Lib.hid (within_any np 1 16 false ⟨fun q => Bool.noConfusion q, fun q => absurd q (by omega)⟩)
    obtain rfl : r = false := by rw [← Bool.not_eq_true]; exact fun h => k1 ⟨(hr.mp h).1, (hr.mp h).2.1⟩
    clear hr k1 h0 h1 h2 h3
    go_enter Tryz.func65, Tryz.ntmps65
    go_wp2_with fail
    refine (C.out _).mono ?_
    rintro e w' ⟨rfl, rfl⟩
    go_wp2
    go_ret
    exact ⟨rfl, below_alloc _⟩
theorem ntwo_any (p : Int) : ∃ k : Int, ∀ w : World, Tab64 w → Calls Tryz.prog 93 #[.int .i64 p] w fun e w' => e = .returned (.tuple #[.int .i64 k, .bool (isTwo p)]) ∧ w = w' := by
  by_cases h : isTwo p = true
  · rw [h]
    obtain ⟨k, hk, rfl⟩ := isTwo_iff.mp h
    exact ⟨k, two_yes k hk⟩
  · rw [Bool.not_eq_true] at h
    rw [h]
    refine ⟨0, fun w _ => two_no p w fun k hk e => ?_⟩
    rw [isTwo_iff.mpr ⟨k, hk, e⟩] at h
    cases h
set_option maxRecDepth 100000 in
theorem times_any (w : World) (hT : DTab w) :
    Calls Tryz.prog 66 #[.agg #[.int .i64 p, .int .i64 q, .slice P np pc, .slice E ne ec, .slice F nf fc, .slice R nr rc]] w fun e w' => e = .returned (.bool (timeE p q)) ∧ Below w.heap.size w w' := by
  obtain ⟨k, hC⟩ := ntwo_any p
  have C := Lib.hid hC
  have HT := Lib.hid (fun o => Tab64.via hT (below_alloc (w := w) o))
  clear hC hT
  unfold timeE
  cases ht : isTwo p with
  | false =>
    rw [ht] at C
    clear ht
    go_enter Tryz.func66, Tryz.ntmps66
    go_wp2_with fail
    refine (C.out _ (HT.out _)).mono ?_
    rintro e w' ⟨rfl, rfl⟩
    go_wp2
    go_ret
    exact ⟨rfl, below_alloc _⟩
  | true =>
    rw [ht] at C
    clear ht
    by_cases h1 : p ≤ 4096
    · rw [decide_eq_true h1]
      by_cases h2 : 1 ≤ q ∧ q ≤ p
      · rw [decide_eq_true h2.1, decide_eq_true h2.2]
        have D := Lib.hid (within_any q 1 p true ⟨fun _ => h2, fun _ => rfl⟩)
        clear h2
        go_enter Tryz.func66, Tryz.ntmps66
        go_wp2_with fail
        refine (C.out _ (HT.out _)).mono ?_
        rintro e w' ⟨rfl, rfl⟩
        go_wp2_with fail
        refine (D.out _).mono ?_
        rintro e w' ⟨rfl, rfl⟩
        go_wp2
        go_ret
        exact ⟨rfl, below_alloc _⟩
      · rw [show (true && true && decide (1 ≤ q) && decide (q ≤ p)) = false by
          rcases (show ¬ 1 ≤ q ∨ ¬ q ≤ p by omega) with h | h
          · rw [decide_eq_false h]; rfl
          · rw [decide_eq_false h]; cases decide (1 ≤ q) <;> rfl]
        have D := Lib.hid (within_any q 1 p false ⟨fun x => Bool.noConfusion x, fun x => absurd x h2⟩)
        clear h2
        go_enter Tryz.func66, Tryz.ntmps66
        go_wp2_with fail
        refine (C.out _ (HT.out _)).mono ?_
        rintro e w' ⟨rfl, rfl⟩
        go_wp2_with fail
        refine (D.out _).mono ?_
        rintro e w' ⟨rfl, rfl⟩
        go_wp2
        go_ret
        exact ⟨rfl, below_alloc _⟩
    · rw [decide_eq_false h1]
      go_enter Tryz.func66, Tryz.ntmps66
      go_wp2_with fail
      refine (C.out _ (HT.out _)).mono ?_
      rintro e w' ⟨rfl, rfl⟩
      go_wp2
      go_ret
      exact ⟨rfl, below_alloc _⟩
end
theorem idx_of (A : Option Addr) (c n : Nat) (l : List Int) (x : Int) (w : World) (B : Nat) (hn : l.length = n) (hl : n ≤ 1000) (hI : Ints w B A l) :
    Calls Tryz.prog 122 #[.slice A n c, .int .i64 x] w fun e w' => ∃ r, e = .returned (.int .i64 r) ∧ w = w' ∧ (0 ≤ r ↔ x ∈ l) := by
  have HN := Lib.hid hn
  have HI := Lib.hid hI
  clear hn hI
  go_enter Tryz.func122, Tryz.ntmps122
  go_wp2
  go_loop [8] (fun v => ∃ k : Nat, k ≤ n ∧ v = .int .i64 k ∧ Hid (x ∉ l.take k)) (fun v => n - (intOf v).toNat)
  case atStart => exact ⟨0, Nat.zero_le _, rfl, Lib.hid (by simp)⟩
  case round =>
    obtain ⟨k, hk, rfl, HF⟩ := hrel
    by_cases hlt : k < n
    · obtain ⟨bk, off, z, rfl, hbg, hek, d1⟩ := HI.out.at_ (k := k) (by rw [HN.out]; exact hlt)
      have HEK := Lib.hid hek
      clear hek
      by_cases hx : x = z
      · have HX := Lib.hid hx
        have hb : (x == z) = true := by simpa using hx
        clear hx
        go_wp2
        go_ret
        exact ⟨_, rfl, rfl, ⟨fun _ => by rw [HX.out]; exact List.mem_of_getElem? HEK.out, fun _ => by omega⟩⟩
      · have HX := Lib.hid hx
        have hb : (x == z) = false := by simpa using hx
        clear hx
        go_wp2
        go_round
        case rel => exact ⟨k + 1, by omega, by go_num, Lib.hid (by
          rw [List.take_add_one, HEK.out, List.mem_append]
          rintro (h | h)
          · exact HF.out h
          · exact HX.out (by simpa using h))⟩
        case measure => simp [intOf]; omega
    · have e : k = n := by omega
      subst e
      go_wp2
      go_ret
      refine ⟨_, rfl, rfl, ⟨fun h => absurd h (by decide), fun h => ?_⟩⟩
      have := HF.out
      rw [List.take_of_length_le (by rw [HN.out]; exact Nat.le_refl _)] at this
      exact absurd h this
theorem in_any (A : Option Addr) (c n : Nat) (l : List Int) (x : Int) (r : Bool) (hr : r = true ↔ x ∈ l) (w : World) (B : Nat) (hn : l.length = n) (hl : n ≤ 1000) (hI : Ints w B A l) :
    Calls Tryz.prog 104 #[.slice A n c, .int .i64 x] w fun e w' => e = .returned (.bool r) ∧ w = w' := by
  have C := idx_of A c n l x w B hn hl hI
  have HR := Lib.hid hr
  clear hn hI hr
  go_enter Tryz.func104, Tryz.ntmps104
  go_wp2_with fail
  refine C.mono ?_
  rintro e w1 ⟨v, rfl, rfl, hv⟩
  have HV := Lib.hid hv
  clear hv
  cases r with
  | true =>
    have hg : 0 ≤ v := HV.out.mpr (HR.out.mp rfl)
    go_wp2
    go_ret
    exact ⟨rfl, rfl⟩
  | false =>
    have hg : decide (0 ≤ v) = false := by
      rw [decide_eq_false_iff_not]
      exact fun h => absurd (HR.out.mpr (HV.out.mp h)) (by simp)
    go_wp2
    go_ret
    exact ⟨rfl, rfl⟩
end Go.Proofs.YtkmajhbfmdoamaaGreatDoor
