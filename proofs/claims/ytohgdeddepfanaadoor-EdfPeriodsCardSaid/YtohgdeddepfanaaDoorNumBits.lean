/- Counting bits, in the seat YtohgdeddepfanaaDoor: the count of math/bits.OnesCount64 by its own text is 1 just at powers of two (below 2^40). Plain arithmetic; no statement is proved here. -/
import Derived.WalkKit
import Derived.Laws.Bits64b
import Derived.Lib.TrailingZeros
import Derived.Lib.Hide
namespace Go.Proofs.YtohgdeddepfanaaDoor
open Go.RowKit

theorem bits_and_i64_nat (a b : Nat) (ha : a < 9223372036854775808) (hb : b < 9223372036854775808) : bits .and .i64 (a : Int) (b : Int) = ((a &&& b : Nat) : Int) := by
  have hx : a &&& b < 2 ^ 63 := Nat.and_lt_two_pow _ (by omega)
  have h1 : (BitVec.ofInt 64 (a : Int)).toNat = a := by
    rw [BitVec.ofInt_natCast, BitVec.toNat_ofNat]; exact Nat.mod_eq_of_lt (by omega)
  have h2 : (BitVec.ofInt 64 (b : Int)).toNat = b := by
    rw [BitVec.ofInt_natCast, BitVec.toNat_ofNat]; exact Nat.mod_eq_of_lt (by omega)
  show IntKind.i64.wrap ((BitVec.ofInt 64 (a : Int) &&& BitVec.ofInt 64 (b : Int)).toNat : Int) = _
  rw [BitVec.toNat_and, h1, h2]
  simp [IntKind.wrap, IntKind.signed, IntKind.bits]
  omega

/-- A byte stands m times, one behind the other. -/
def rep (m : Nat) : Nat → Nat
  | 0 => 0
  | k + 1 => 256 * rep m k + m
theorem and_byte (q r m s : Nat) (hr : r < 256) (hs : s < 256) : (256 * q + r) &&& (256 * m + s) = 256 * (q &&& m) + (r &&& s) := by
  apply Nat.eq_of_testBit_eq
  intro i
  have hrs : r &&& s < 2 ^ 8 := Nat.and_lt_two_pow _ (by omega)
  have e (a b : Nat) (hb : b < 2 ^ 8) : (256 * a + b).testBit i = if i < 8 then b.testBit i else a.testBit (i - 8) := by
    have := Nat.testBit_two_pow_mul_add a hb i
    simpa using this
  rw [Nat.testBit_and, e q r hr, e m s hs, e _ _ hrs]
  by_cases h : i < 8
  · simp [h]
  · simp [h]

def b1 (r : Nat) : Nat := (r / 2 &&& 85) + (r &&& 85)
def b2 (r : Nat) : Nat := (r / 4 &&& 51) + (r &&& 51)
def b3 (r : Nat) : Nat := (r / 16 + r) &&& 15
def pop8 (r : Nat) : Nat := b3 (b2 (b1 r))
def S1 (k x : Nat) : Nat := (x / 2 &&& rep 85 k) + (x &&& rep 85 k)
def S2 (k x : Nat) : Nat := (x / 4 &&& rep 51 k) + (x &&& rep 51 k)
def S3 (k x : Nat) : Nat := (x / 16 + x) &&& rep 15 k

theorem b1_mask : ∀ r, r < 256 → (r / 2 &&& 85) = (128 + r / 2 &&& 85) ∧ b1 r < 256 := by decide +kernel
theorem b2_mask : ∀ r, r < 256 → (r / 4 &&& 51) = (64 + r / 4 &&& 51) ∧ (r / 4 &&& 51) = (128 + r / 4 &&& 51) ∧ (r / 4 &&& 51) = (192 + r / 4 &&& 51) ∧ b2 r < 256 ∧ b2 r % 16 ≤ 6 ∧ b2 (b1 r) ≤ 68 ∧ pop8 r ≤ 8 := by decide +kernel
theorem b3_mask : ∀ r, r ≤ 68 → ∀ t, t ≤ 6 → (16 * t + (r / 16 + r) &&& 15) = b3 r := by decide +kernel
theorem S1_step (k q r : Nat) (hr : r < 256) : S1 (k + 1) (256 * q + r) = 256 * S1 k q + b1 r := by
  have h2 : (256 * q + r) / 2 = 256 * (q / 2) + (128 * (q % 2) + r / 2) := by omega
  have rs : rep 85 (k + 1) = 256 * rep 85 k + 85 := rfl
  unfold S1
  rw [rs, h2, and_byte _ _ _ _ (by omega) (by omega), and_byte _ _ _ _ (by omega) (by omega)]
  have h3 : (128 * (q % 2) + r / 2 &&& 85) = (r / 2 &&& 85) := by
    rcases Nat.mod_two_eq_zero_or_one q with h | h <;> rw [h]
    · simp
    · exact (b1_mask r hr).1.symm
  rw [h3]
  show _ = 256 * ((q / 2 &&& rep 85 k) + (q &&& rep 85 k)) + ((r / 2 &&& 85) + (r &&& 85))
  omega
theorem S2_step (k q r : Nat) (hr : r < 256) : S2 (k + 1) (256 * q + r) = 256 * S2 k q + b2 r := by
  have h2 : (256 * q + r) / 4 = 256 * (q / 4) + (64 * (q % 4) + r / 4) := by omega
  have rs : rep 51 (k + 1) = 256 * rep 51 k + 51 := rfl
  unfold S2
  rw [rs, h2, and_byte _ _ _ _ (by omega) (by omega), and_byte _ _ _ _ (by omega) (by omega)]
  have h3 : (64 * (q % 4) + r / 4 &&& 51) = (r / 4 &&& 51) := by
    obtain ⟨m1, m2, m3, _⟩ := b2_mask r hr
    rcases (show q % 4 = 0 ∨ q % 4 = 1 ∨ q % 4 = 2 ∨ q % 4 = 3 by omega) with h | h | h | h <;> rw [h]
    · simp
    · exact m1.symm
    · exact m2.symm
    · exact m3.symm
  rw [h3]
  show _ = 256 * ((q / 4 &&& rep 51 k) + (q &&& rep 51 k)) + ((r / 4 &&& 51) + (r &&& 51))
  omega
theorem S3_step (k q r : Nat) (hr : r ≤ 68) (hq : q % 16 ≤ 6) : S3 (k + 1) (256 * q + r) = 256 * S3 k q + b3 r := by
  have h2 : (256 * q + r) / 16 + (256 * q + r) = 256 * (q / 16 + q) + (16 * (q % 16) + (r / 16 + r)) := by omega
  have rs : rep 15 (k + 1) = 256 * rep 15 k + 15 := rfl
  unfold S3
  rw [rs, h2, and_byte _ _ _ _ (by omega) (by omega), b3_mask r hr _ hq]
theorem S2_low (k q : Nat) : S2 k q % 16 ≤ 6 := by
  cases k with
  | zero => simp [S2, rep]
  | succ k =>
    have h := S2_step k (q / 256) (q % 256) (Nat.mod_lt _ (by omega))
    have h1 := (b2_mask (q % 256) (Nat.mod_lt _ (by omega))).2.2.2.2.1
    have e : 256 * (q / 256) + q % 256 = q := by omega
    rw [e] at h
    omega
/-- Three rounds of the count: each byte holds the count of its bits. -/
def T (k x : Nat) : Nat := S3 k (S2 k (S1 k x))
theorem T_step (k q r : Nat) (hr : r < 256) : T (k + 1) (256 * q + r) = 256 * T k q + pop8 r := by
  unfold T
  rw [S1_step k q r hr, S2_step k _ _ (b1_mask r hr).2, S3_step k _ _ (b2_mask r hr).2.2.2.2.2.1 (S2_low _ _)]
  rfl
theorem T_zero (k : Nat) : T k 0 = 0 := by
  simp [T, S1, S2, S3]

theorem pop8_zero : ∀ r, r < 256 → pop8 r = 0 → r = 0 := by decide +kernel
theorem pop8_one : ∀ r, r < 256 → pop8 r = 1 → r = 1 ∨ r = 2 ∨ r = 4 ∨ r = 8 ∨ r = 16 ∨ r = 32 ∨ r = 64 ∨ r = 128 := by decide +kernel

/-- The five bytes of a number below 2^40, and its count byte by byte. -/
theorem T_bytes (x : Nat) (hx : x < 1099511627776) : ∃ r0 r1 r2 r3 r4, (r0 < 256 ∧ r1 < 256 ∧ r2 < 256 ∧ r3 < 256 ∧ r4 < 256) ∧ x = r0 + 256 * r1 + 65536 * r2 + 16777216 * r3 + 4294967296 * r4 ∧
    T 8 x = pop8 r0 + 256 * pop8 r1 + 65536 * pop8 r2 + 16777216 * pop8 r3 + 4294967296 * pop8 r4 := by
  refine ⟨x % 256, x / 256 % 256, x / 65536 % 256, x / 16777216 % 256, x / 4294967296, by omega, by omega, ?_⟩
  have e0 : x = 256 * (x / 256) + x % 256 := by omega
  have e1 : x / 256 = 256 * (x / 65536) + x / 256 % 256 := by omega
  have e2 : x / 65536 = 256 * (x / 16777216) + x / 65536 % 256 := by omega
  have e3 : x / 16777216 = 256 * (x / 4294967296) + x / 16777216 % 256 := by omega
  have e4 : x / 4294967296 = 256 * 0 + x / 4294967296 := by omega
  have t0 : T 8 (256 * (x / 256) + x % 256) = 256 * T 7 (x / 256) + pop8 (x % 256) := T_step 7 _ _ (by omega)
  have t1 : T 7 (256 * (x / 65536) + x / 256 % 256) = 256 * T 6 (x / 65536) + pop8 (x / 256 % 256) := T_step 6 _ _ (by omega)
  have t2 : T 6 (256 * (x / 16777216) + x / 65536 % 256) = 256 * T 5 (x / 16777216) + pop8 (x / 65536 % 256) := T_step 5 _ _ (by omega)
  have t3 : T 5 (256 * (x / 4294967296) + x / 16777216 % 256) = 256 * T 4 (x / 4294967296) + pop8 (x / 16777216 % 256) := T_step 4 _ _ (by omega)
  have t4 : T 4 (256 * 0 + x / 4294967296) = 256 * T 3 0 + pop8 (x / 4294967296) := T_step 3 _ _ (by omega)
  rw [← e0] at t0
  rw [← e1] at t1
  rw [← e2] at t2
  rw [← e3] at t3
  rw [← e4, T_zero] at t4
  rw [t0, t1, t2, t3, t4]
  omega

/-- The last rounds: the bytes are added. -/
def tailN (c : Nat) : Nat := ((c + c / 256) + (c + c / 256) / 65536) + ((c + c / 256) + (c + c / 256) / 65536) / 4294967296
theorem tail_sum (p0 p1 p2 p3 p4 : Nat) (h0 : p0 ≤ 8) (h1 : p1 ≤ 8) (h2 : p2 ≤ 8) (h3 : p3 ≤ 8) (h4 : p4 ≤ 8) :
    tailN (p0 + 256 * p1 + 65536 * p2 + 16777216 * p3 + 4294967296 * p4) % 128 = p0 + p1 + p2 + p3 + p4 := by
  unfold tailN
  have c1 : (p0 + 256 * p1 + 65536 * p2 + 16777216 * p3 + 4294967296 * p4) / 256 = p1 + 256 * p2 + 65536 * p3 + 16777216 * p4 := by omega
  rw [c1]
  have c2 : (p0 + 256 * p1 + 65536 * p2 + 16777216 * p3 + 4294967296 * p4 + (p1 + 256 * p2 + 65536 * p3 + 16777216 * p4)) / 65536 = (p2 + p3) + 256 * (p3 + p4) + 65536 * p4 := by omega
  rw [c2]
  have c3 : (p0 + 256 * p1 + 65536 * p2 + 16777216 * p3 + 4294967296 * p4 + (p1 + 256 * p2 + 65536 * p3 + 16777216 * p4) + ((p2 + p3) + 256 * (p3 + p4) + 65536 * p4)) / 4294967296 = p4 := by omega
  rw [c3]
  omega

/-- The count of a number below 2^40. -/
def cntN (x : Nat) : Nat := tailN (T 8 x) % 128
theorem and_127 (x : Nat) : x &&& 127 = x % 128 := Nat.and_two_pow_sub_one_eq_mod x 7
theorem cnt_two (x : Nat) (hx : x < 1099511627776) (h : cntN x = 1) : ∃ k, k < 40 ∧ x = 2 ^ k := by
  obtain ⟨r0, r1, r2, r3, r4, ⟨l0, l1, l2, l3, l4⟩, e, ht⟩ := T_bytes x hx
  unfold cntN at h
  rw [ht, tail_sum _ _ _ _ _ (b2_mask r0 l0).2.2.2.2.2.2 (b2_mask r1 l1).2.2.2.2.2.2 (b2_mask r2 l2).2.2.2.2.2.2 (b2_mask r3 l3).2.2.2.2.2.2 (b2_mask r4 l4).2.2.2.2.2.2] at h
  have z0 := pop8_zero r0 l0
  have z1 := pop8_zero r1 l1
  have z2 := pop8_zero r2 l2
  have z3 := pop8_zero r3 l3
  have z4 := pop8_zero r4 l4
  have o0 := pop8_one r0 l0
  have o1 := pop8_one r1 l1
  have o2 := pop8_one r2 l2
  have o3 := pop8_one r3 l3
  have o4 := pop8_one r4 l4
  rcases (show pop8 r0 = 1 ∨ pop8 r1 = 1 ∨ pop8 r2 = 1 ∨ pop8 r3 = 1 ∨ pop8 r4 = 1 by omega) with g | g | g | g | g
  · have := o0 g
    have := z1 (by omega); have := z2 (by omega); have := z3 (by omega); have := z4 (by omega)
    rcases o0 g with g | g | g | g | g | g | g | g
    · exact ⟨0, by omega, by omega⟩
    · exact ⟨1, by omega, by omega⟩
    · exact ⟨2, by omega, by omega⟩
    · exact ⟨3, by omega, by omega⟩
    · exact ⟨4, by omega, by omega⟩
    · exact ⟨5, by omega, by omega⟩
    · exact ⟨6, by omega, by omega⟩
    · exact ⟨7, by omega, by omega⟩
  · have := z0 (by omega); have := z2 (by omega); have := z3 (by omega); have := z4 (by omega)
    rcases o1 g with g | g | g | g | g | g | g | g
    · exact ⟨8, by omega, by omega⟩
    · exact ⟨9, by omega, by omega⟩
    · exact ⟨10, by omega, by omega⟩
    · exact ⟨11, by omega, by omega⟩
    · exact ⟨12, by omega, by omega⟩
    · exact ⟨13, by omega, by omega⟩
    · exact ⟨14, by omega, by omega⟩
    · exact ⟨15, by omega, by omega⟩
  · have := z0 (by omega); have := z1 (by omega); have := z3 (by omega); have := z4 (by omega)
    rcases o2 g with g | g | g | g | g | g | g | g
    · exact ⟨16, by omega, by omega⟩
    · exact ⟨17, by omega, by omega⟩
    · exact ⟨18, by omega, by omega⟩
    · exact ⟨19, by omega, by omega⟩
    · exact ⟨20, by omega, by omega⟩
    · exact ⟨21, by omega, by omega⟩
    · exact ⟨22, by omega, by omega⟩
    · exact ⟨23, by omega, by omega⟩
  · have := z0 (by omega); have := z1 (by omega); have := z2 (by omega); have := z4 (by omega)
    rcases o3 g with g | g | g | g | g | g | g | g
    · exact ⟨24, by omega, by omega⟩
    · exact ⟨25, by omega, by omega⟩
    · exact ⟨26, by omega, by omega⟩
    · exact ⟨27, by omega, by omega⟩
    · exact ⟨28, by omega, by omega⟩
    · exact ⟨29, by omega, by omega⟩
    · exact ⟨30, by omega, by omega⟩
    · exact ⟨31, by omega, by omega⟩
  · have := z0 (by omega); have := z1 (by omega); have := z2 (by omega); have := z3 (by omega)
    rcases o4 g with g | g | g | g | g | g | g | g
    · exact ⟨32, by omega, by omega⟩
    · exact ⟨33, by omega, by omega⟩
    · exact ⟨34, by omega, by omega⟩
    · exact ⟨35, by omega, by omega⟩
    · exact ⟨36, by omega, by omega⟩
    · exact ⟨37, by omega, by omega⟩
    · exact ⟨38, by omega, by omega⟩
    · exact ⟨39, by omega, by omega⟩
theorem two_cnt : ∀ k, k < 40 → cntN (2 ^ k) = 1 ∧ 2 ^ k ≤ 549755813888 ∧ 0 < 2 ^ k ∧ Lib.ctz 64 (2 ^ k) = k := by decide +kernel
theorem T_le (x : Nat) (hx : x < 1099511627776) : T 8 x ≤ 34901295112 := by
  obtain ⟨r0, r1, r2, r3, r4, ⟨l0, l1, l2, l3, l4⟩, e, ht⟩ := T_bytes x hx
  have := (b2_mask r0 l0).2.2.2.2.2.2
  have := (b2_mask r1 l1).2.2.2.2.2.2
  have := (b2_mask r2 l2).2.2.2.2.2.2
  have := (b2_mask r3 l3).2.2.2.2.2.2
  have := (b2_mask r4 l4).2.2.2.2.2.2
  omega
end Go.Proofs.YtohgdeddepfanaaDoor
