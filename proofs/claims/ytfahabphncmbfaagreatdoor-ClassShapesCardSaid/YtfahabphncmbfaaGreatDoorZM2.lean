/- The contract of num.Add in the seat YtfahabphncmbfaaGreatDoor: the sum of all, or the first error.
   Counting bits, in the seat YtfahabphncmbfaaGreatDoor: the count of math/bits.OnesCount64 by its own text is 1 just at powers of two (below 2^40). Plain arithmetic; no statement is proved here.
   The contracts of math/bits.OnesCount64 and of num.Two in the seat YtfahabphncmbfaaGreatDoor, where Tz64 and NumCheck are there (a layer that calls num.Two alone).
   The contracts of class.within, isPeriod, Check, (light).tell, (heavy).tell, in the seat YtfahabphncmbfaaGreatDoor.
   Words for memory in the seat YtfahabphncmbfaaGreatDoor: a block of cells that are all known, one of them written.
   Words for memory in the seat YtfahabphncmbfaaGreatDoor: a list of integers of the call's own, that grows one by one.
   Words for memory in the seat YtfahabphncmbfaaGreatDoor: a slice of edges that came in.
   Words for memory in the seat YtfahabphncmbfaaGreatDoor: a list of edges of the call's own; 'append([]T{}, l...)' leaves all that was there.
   No statement is proved here. -/
import Derived.Test.YtfahabphncmbfaaGreatDoorZM1
import Derived.WalkKit
import Derived.Laws.Bits64b
import Derived.Lib.TrailingZeros
import Derived.Lib.Hide
import Derived.WalkSmall
import Derived.Handy
import Derived.Test.YtfahabphncmbfaaGreatDoorChecked
import Derived.Below
import Derived.Laws.Rows
import Derived.Laws.OwnMore
import Derived.Laws.MakeOwn
import Derived.KernelRfl
import Derived.BigQuiet
import Derived.Deep.QuietTactic
import Derived.ArgAppend
import Derived.OwnWalk
set_option linter.unusedSimpArgs false
namespace Go.Proofs.YtfahabphncmbfaaGreatDoor
open Go.RowKit

set_option maxHeartbeats 400000 in
theorem nadd_any (A : Option Addr) (cap : Nat) (zs : List Int) (w : World) (hl : zs.length ≤ 1099511627775) (hI : Ints w w.heap.size A zs) :
    Calls Tryz.prog 122 #[.slice A zs.length cap] w fun e w' => e = .returned (.tuple #[.int .i64 (addS zs), .int .i64 (addE zs)]) ∧ Below w.heap.size w w' := by
  have C := Lib.hid (first_any A cap zs w hl hI)
  obtain ⟨len, hlen⟩ : ∃ len, len = zs.length := ⟨_, rfl⟩
  rw [← hlen] at hl ⊢
  by_cases h : ff zs = 0
  · rw [h, ← hlen] at C
    have HL := Lib.hid hlen
    have HI := Lib.hid hI
    have HF := Lib.hid h
    clear h hI hlen
    go_enter Tryz.func122, Tryz.ntmps122
    go_wp2_with fail
    refine C.out.mono ?_
    rintro e w1 ⟨rfl, hb⟩
    have HI1 := Lib.hid (HI.out.below hb)
    clear C HI
    go_wp2_with fail
    go_loop [5, 15] (fun s i => ∃ k : Nat, k ≤ len ∧ i = .int .i64 k ∧ 0 ≤ total (zs.take k) ∧ total (zs.take k) ≤ 1099511627775 ∧ s = .int .i64 (total (zs.take k))) (fun _ i => len - (intOf i).toNat)
    case atStart => exact ⟨0, Nat.zero_le _, rfl, by simp [total], by simp [total], rfl⟩
    case round =>
      obtain ⟨k, hk, rfl, ht0, ht1, rfl⟩ := hrel
      by_cases hlt : k < len
      · obtain ⟨b, off, z, rfl, hbg, hz, hcell⟩ := HI1.out.at_ (by rw [← HL.out]; exact hlt)
        obtain ⟨z0, z1⟩ := ff_mem HF.out hz
        have HS := Lib.hid (total_step hz)
        clear hz
        obtain ⟨t, ht⟩ : ∃ t, t = total (zs.take k) := ⟨_, rfl⟩
        rw [← ht] at ht0 ht1 HS ⊢
        have HT := Lib.hid ht
        clear ht
        by_cases hover : 1099511627775 < t + z
        · go_wp2
          go_ret2
          have h9 : 1099511627775 < total zs := by
            have h8 := total_prefix (k + 1) HF.out
            rw [HS.out] at h8
            omega
          exact ⟨by rw [addS_over HF.out h9, addE_over HF.out h9]; rfl, hb⟩
        · go_wp2
          go_round
          case rel => exact ⟨k + 1, by omega, by go_num, by rw [HS.out]; omega, by rw [HS.out]; omega, by rw [HS.out]⟩
          case measure => simp [intOf]; omega
      · have hkl : k = len := by omega
        subst hkl
        have e1 : zs.take k = zs := by rw [HL.out, List.take_length]
        rw [e1] at ht1 ⊢
        have HT := Lib.hid ht1
        clear e1 ht0 ht1
        obtain ⟨t, ht⟩ : ∃ t, t = total zs := ⟨_, rfl⟩
        rw [← ht]
        have HT2 := Lib.hid ht
        clear ht
        go_wp2
        go_ret2
        exact ⟨by rw [addS_fine HF.out HT.out, addE_fine HF.out HT.out, ← HT2.out]; rfl, hb⟩
  · rw [addS_bad h, addE_bad h]
    rw [← hlen] at C
    obtain ⟨c, hc⟩ : ∃ c, c = ff zs := ⟨_, rfl⟩
    rw [← hc] at C h ⊢
    have hb : (c != 0) = true := by simpa using h
    clear h hc hI hlen
    go_enter Tryz.func122, Tryz.ntmps122
    go_wp2_with fail
    refine C.out.mono ?_
    rintro e w' ⟨rfl, hbel⟩
    go_wp2
    go_ret2
    exact ⟨rfl, hbel⟩
end Go.Proofs.YtfahabphncmbfaaGreatDoor
namespace Go.Proofs.YtfahabphncmbfaaGreatDoor
open Go.RowKit

theorem bits_and_i64_nat (a b : Nat) (ha : a < 9223372036854775808) (hb : b < 9223372036854775808) : bits .and .i64 (a : Int) (b : Int) = ((a &&& b : Nat) : Int) := by
  have hx : a &&& b < 2 ^ 63 := Nat.and_lt_two_pow _ (by omega)
  have h1 : (BitVec.ofInt 64 (a : Int)).toNat = a := by
    rw [BitVec.ofInt_natCast, BitVec.toNat_ofNat]; exact Nat.mod_eq_of_lt (by omega)
  have h2 : (BitVec.ofInt 64 (b : Int)).toNat = b := by
    rw [BitVec.ofInt_natCast, BitVec.toNat_ofNat]; exact Nat.mod_eq_of_lt (by omega)
  show IntKind.i64.wrap ((BitVec.ofInt 64 (a : Int) &&& BitVec.ofInt 64 (b : Int)).toNat : Int) = _
  rw [BitVec.toNat_and, h1, h2]
  simp [IntKind.wrap, IntKind.signed, IntKind.bits]
  omega

/-- A byte stands m times, one behind the other. -/
def rep (m : Nat) : Nat → Nat
  | 0 => 0
  | k + 1 => 256 * rep m k + m
theorem and_byte (q r m s : Nat) (hr : r < 256) (hs : s < 256) : (256 * q + r) &&& (256 * m + s) = 256 * (q &&& m) + (r &&& s) := by
  apply Nat.eq_of_testBit_eq
  intro i
  have hrs : r &&& s < 2 ^ 8 := Nat.and_lt_two_pow _ (by omega)
  have e (a b : Nat) (hb : b < 2 ^ 8) : (256 * a + b).testBit i = if i < 8 then b.testBit i else a.testBit (i - 8) := by
    have := Nat.testBit_two_pow_mul_add a hb i
    simpa using this
  rw [Nat.testBit_and, e q r hr, e m s hs, e _ _ hrs]
  by_cases h : i < 8
  · simp [h]
  · simp [h]

def b1 (r : Nat) : Nat := (r / 2 &&& 85) + (r &&& 85)
def b2 (r : Nat) : Nat := (r / 4 &&& 51) + (r &&& 51)
def b3 (r : Nat) : Nat := (r / 16 + r) &&& 15
def pop8 (r : Nat) : Nat := b3 (b2 (b1 r))
def S1 (k x : Nat) : Nat := (x / 2 &&& rep 85 k) + (x &&& rep 85 k)
def S2 (k x : Nat) : Nat := (x / 4 &&& rep 51 k) + (x &&& rep 51 k)
def S3 (k x : Nat) : Nat := (x / 16 + x) &&& rep 15 k

theorem b1_mask : ∀ r, r < 256 → (r / 2 &&& 85) = (128 + r / 2 &&& 85) ∧ b1 r < 256 := by decide +kernel
theorem b2_mask : ∀ r, r < 256 → (r / 4 &&& 51) = (64 + r / 4 &&& 51) ∧ (r / 4 &&& 51) = (128 + r / 4 &&& 51) ∧ (r / 4 &&& 51) = (192 + r / 4 &&& 51) ∧ b2 r < 256 ∧ b2 r % 16 ≤ 6 ∧ b2 (b1 r) ≤ 68 ∧ pop8 r ≤ 8 := by decide +kernel
theorem b3_mask : ∀ r, r ≤ 68 → ∀ t, t ≤ 6 → (16 * t + (r / 16 + r) &&& 15) = b3 r := by decide +kernel
theorem S1_step (k q r : Nat) (hr : r < 256) : S1 (k + 1) (256 * q + r) = 256 * S1 k q + b1 r := by
  have h2 : (256 * q + r) / 2 = 256 * (q / 2) + (128 * (q % 2) + r / 2) := by omega
  have rs : rep 85 (k + 1) = 256 * rep 85 k + 85 := rfl
  unfold S1
  rw [rs, h2, and_byte _ _ _ _ (by omega) (by omega), and_byte _ _ _ _ (by omega) (by omega)]
  have h3 : (128 * (q % 2) + r / 2 &&& 85) = (r / 2 &&& 85) := by
    rcases Nat.mod_two_eq_zero_or_one q with h | h <;> rw [h]
    · simp
    · exact (b1_mask r hr).1.symm
  rw [h3]
  show _ = 256 * ((q / 2 &&& rep 85 k) + (q &&& rep 85 k)) + ((r / 2 &&& 85) + (r &&& 85))
  omega
theorem S2_step (k q r : Nat) (hr : r < 256) : S2 (k + 1) (256 * q + r) = 256 * S2 k q + b2 r := by
  have h2 : (256 * q + r) / 4 = 256 * (q / 4) + (64 * (q % 4) + r / 4) := by omega
  have rs : rep 51 (k + 1) = 256 * rep 51 k + 51 := rfl
  unfold S2
  rw [rs, h2, and_byte _ _ _ _ (by omega) (by omega), and_byte _ _ _ _ (by omega) (by omega)]
  have h3 : (64 * (q % 4) + r / 4 &&& 51) = (r / 4 &&& 51) := by
    obtain ⟨m1, m2, m3, _⟩ := b2_mask r hr
    rcases (show q % 4 = 0 ∨ q % 4 = 1 ∨ q % 4 = 2 ∨ q % 4 = 3 by omega) with h | h | h | h <;> rw [h]
    · simp
    · exact m1.symm
    · exact m2.symm
    · exact m3.symm
  rw [h3]
  show _ = 256 * ((q / 4 &&& rep 51 k) + (q &&& rep 51 k)) + ((r / 4 &&& 51) + (r &&& 51))
  omega
theorem S3_step (k q r : Nat) (hr : r ≤ 68) (hq : q % 16 ≤ 6) : S3 (k + 1) (256 * q + r) = 256 * S3 k q + b3 r := by
  have h2 : (256 * q + r) / 16 + (256 * q + r) = 256 * (q / 16 + q) + (16 * (q % 16) + (r / 16 + r)) := by omega
  have rs : rep 15 (k + 1) = 256 * rep 15 k + 15 := rfl
  unfold S3
  rw [rs, h2, and_byte _ _ _ _ (by omega) (by omega), b3_mask r hr _ hq]
theorem S2_low (k q : Nat) : S2 k q % 16 ≤ 6 := by
  cases k with
  | zero => simp [S2, rep]
  | succ k =>
    have h := S2_step k (q / 256) (q % 256) (Nat.mod_lt _ (by omega))
    have h1 := (b2_mask (q % 256) (Nat.mod_lt _ (by omega))).2.2.2.2.1
    have e : 256 * (q / 256) + q % 256 = q := by omega
    rw [e] at h
    omega
/-- Three rounds of the count: each byte holds the count of its bits. -/
def T (k x : Nat) : Nat := S3 k (S2 k (S1 k x))
theorem T_step (k q r : Nat) (hr : r < 256) : T (k + 1) (256 * q + r) = 256 * T k q + pop8 r := by
  unfold T
  rw [S1_step k q r hr, S2_step k _ _ (b1_mask r hr).2, S3_step k _ _ (b2_mask r hr).2.2.2.2.2.1 (S2_low _ _)]
  rfl
theorem T_zero (k : Nat) : T k 0 = 0 := by
  simp [T, S1, S2, S3]

theorem pop8_zero : ∀ r, r < 256 → pop8 r = 0 → r = 0 := by decide +kernel
theorem pop8_one : ∀ r, r < 256 → pop8 r = 1 → r = 1 ∨ r = 2 ∨ r = 4 ∨ r = 8 ∨ r = 16 ∨ r = 32 ∨ r = 64 ∨ r = 128 := by decide +kernel

/-- The five bytes of a number below 2^40, and its count byte by byte. -/
theorem T_bytes (x : Nat) (hx : x < 1099511627776) : ∃ r0 r1 r2 r3 r4, (r0 < 256 ∧ r1 < 256 ∧ r2 < 256 ∧ r3 < 256 ∧ r4 < 256) ∧ x = r0 + 256 * r1 + 65536 * r2 + 16777216 * r3 + 4294967296 * r4 ∧
    T 8 x = pop8 r0 + 256 * pop8 r1 + 65536 * pop8 r2 + 16777216 * pop8 r3 + 4294967296 * pop8 r4 := by
  refine ⟨x % 256, x / 256 % 256, x / 65536 % 256, x / 16777216 % 256, x / 4294967296, by omega, by omega, ?_⟩
  have e0 : x = 256 * (x / 256) + x % 256 := by omega
  have e1 : x / 256 = 256 * (x / 65536) + x / 256 % 256 := by omega
  have e2 : x / 65536 = 256 * (x / 16777216) + x / 65536 % 256 := by omega
  have e3 : x / 16777216 = 256 * (x / 4294967296) + x / 16777216 % 256 := by omega
  have e4 : x / 4294967296 = 256 * 0 + x / 4294967296 := by omega
  have t0 : T 8 (256 * (x / 256) + x % 256) = 256 * T 7 (x / 256) + pop8 (x % 256) := T_step 7 _ _ (by omega)
  have t1 : T 7 (256 * (x / 65536) + x / 256 % 256) = 256 * T 6 (x / 65536) + pop8 (x / 256 % 256) := T_step 6 _ _ (by omega)
  have t2 : T 6 (256 * (x / 16777216) + x / 65536 % 256) = 256 * T 5 (x / 16777216) + pop8 (x / 65536 % 256) := T_step 5 _ _ (by omega)
  have t3 : T 5 (256 * (x / 4294967296) + x / 16777216 % 256) = 256 * T 4 (x / 4294967296) + pop8 (x / 16777216 % 256) := T_step 4 _ _ (by omega)
  have t4 : T 4 (256 * 0 + x / 4294967296) = 256 * T 3 0 + pop8 (x / 4294967296) := T_step 3 _ _ (by omega)
  rw [← e0] at t0
  rw [← e1] at t1
  rw [← e2] at t2
  rw [← e3] at t3
  rw [← e4, T_zero] at t4
  rw [t0, t1, t2, t3, t4]
  omega

/-- The last rounds: the bytes are added. -/
def tailN (c : Nat) : Nat := ((c + c / 256) + (c + c / 256) / 65536) + ((c + c / 256) + (c + c / 256) / 65536) / 4294967296
theorem tail_sum (p0 p1 p2 p3 p4 : Nat) (h0 : p0 ≤ 8) (h1 : p1 ≤ 8) (h2 : p2 ≤ 8) (h3 : p3 ≤ 8) (h4 : p4 ≤ 8) :
    tailN (p0 + 256 * p1 + 65536 * p2 + 16777216 * p3 + 4294967296 * p4) % 128 = p0 + p1 + p2 + p3 + p4 := by
  unfold tailN
  have c1 : (p0 + 256 * p1 + 65536 * p2 + 16777216 * p3 + 4294967296 * p4) / 256 = p1 + 256 * p2 + 65536 * p3 + 16777216 * p4 := by omega
  rw [c1]
  have c2 : (p0 + 256 * p1 + 65536 * p2 + 16777216 * p3 + 4294967296 * p4 + (p1 + 256 * p2 + 65536 * p3 + 16777216 * p4)) / 65536 = (p2 + p3) + 256 * (p3 + p4) + 65536 * p4 := by omega
  rw [c2]
  have c3 : (p0 + 256 * p1 + 65536 * p2 + 16777216 * p3 + 4294967296 * p4 + (p1 + 256 * p2 + 65536 * p3 + 16777216 * p4) + ((p2 + p3) + 256 * (p3 + p4) + 65536 * p4)) / 4294967296 = p4 := by omega
  rw [c3]
  omega

/-- The count of a number below 2^40. -/
def cntN (x : Nat) : Nat := tailN (T 8 x) % 128
theorem and_127 (x : Nat) : x &&& 127 = x % 128 := Nat.and_two_pow_sub_one_eq_mod x 7
theorem cnt_two (x : Nat) (hx : x < 1099511627776) (h : cntN x = 1) : ∃ k, k < 40 ∧ x = 2 ^ k := by
  obtain ⟨r0, r1, r2, r3, r4, ⟨l0, l1, l2, l3, l4⟩, e, ht⟩ := T_bytes x hx
  unfold cntN at h
  rw [ht, tail_sum _ _ _ _ _ (b2_mask r0 l0).2.2.2.2.2.2 (b2_mask r1 l1).2.2.2.2.2.2 (b2_mask r2 l2).2.2.2.2.2.2 (b2_mask r3 l3).2.2.2.2.2.2 (b2_mask r4 l4).2.2.2.2.2.2] at h
  have z0 := pop8_zero r0 l0
  have z1 := pop8_zero r1 l1
  have z2 := pop8_zero r2 l2
  have z3 := pop8_zero r3 l3
  have z4 := pop8_zero r4 l4
  have o0 := pop8_one r0 l0
  have o1 := pop8_one r1 l1
  have o2 := pop8_one r2 l2
  have o3 := pop8_one r3 l3
  have o4 := pop8_one r4 l4
  rcases (show pop8 r0 = 1 ∨ pop8 r1 = 1 ∨ pop8 r2 = 1 ∨ pop8 r3 = 1 ∨ pop8 r4 = 1 by omega) with g | g | g | g | g
  · have := o0 g
    have := z1 (by omega); have := z2 (by omega); have := z3 (by omega); have := z4 (by omega)
    rcases o0 g with g | g | g | g | g | g | g | g
    · exact ⟨0, by omega, by omega⟩
    · exact ⟨1, by omega, by omega⟩
    · exact ⟨2, by omega, by omega⟩
    · exact ⟨3, by omega, by omega⟩
    · exact ⟨4, by omega, by omega⟩
    · exact ⟨5, by omega, by omega⟩
    · exact ⟨6, by omega, by omega⟩
    · exact ⟨7, by omega, by omega⟩
  · have := z0 (by omega); have := z2 (by omega); have := z3 (by omega); have := z4 (by omega)
    rcases o1 g with g | g | g | g | g | g | g | g
    · exact ⟨8, by omega, by omega⟩
    · exact ⟨9, by omega, by omega⟩
    · exact ⟨10, by omega, by omega⟩
    · exact ⟨11, by omega, by omega⟩
    · exact ⟨12, by omega, by omega⟩
    · exact ⟨13, by omega, by omega⟩
    · exact ⟨14, by omega, by omega⟩
    · exact ⟨15, by omega, by omega⟩
  · have := z0 (by omega); have := z1 (by omega); have := z3 (by omega); have := z4 (by omega)
    rcases o2 g with g | g | g | g | g | g | g | g
    · exact ⟨16, by omega, by omega⟩
    · exact ⟨17, by omega, by omega⟩
    · exact ⟨18, by omega, by omega⟩
    · exact ⟨19, by omega, by omega⟩
    · exact ⟨20, by omega, by omega⟩
    · exact ⟨21, by omega, by omega⟩
    · exact ⟨22, by omega, by omega⟩
    · exact ⟨23, by omega, by omega⟩
  · have := z0 (by omega); have := z1 (by omega); have := z2 (by omega); have := z4 (by omega)
    rcases o3 g with g | g | g | g | g | g | g | g
    · exact ⟨24, by omega, by omega⟩
    · exact ⟨25, by omega, by omega⟩
    · exact ⟨26, by omega, by omega⟩
    · exact ⟨27, by omega, by omega⟩
    · exact ⟨28, by omega, by omega⟩
    · exact ⟨29, by omega, by omega⟩
    · exact ⟨30, by omega, by omega⟩
    · exact ⟨31, by omega, by omega⟩
  · have := z0 (by omega); have := z1 (by omega); have := z2 (by omega); have := z3 (by omega)
    rcases o4 g with g | g | g | g | g | g | g | g
    · exact ⟨32, by omega, by omega⟩
    · exact ⟨33, by omega, by omega⟩
    · exact ⟨34, by omega, by omega⟩
    · exact ⟨35, by omega, by omega⟩
    · exact ⟨36, by omega, by omega⟩
    · exact ⟨37, by omega, by omega⟩
    · exact ⟨38, by omega, by omega⟩
    · exact ⟨39, by omega, by omega⟩
theorem two_cnt : ∀ k, k < 40 → cntN (2 ^ k) = 1 ∧ 2 ^ k ≤ 549755813888 ∧ 0 < 2 ^ k ∧ Lib.ctz 64 (2 ^ k) = k := by decide +kernel
theorem T_le (x : Nat) (hx : x < 1099511627776) : T 8 x ≤ 34901295112 := by
  obtain ⟨r0, r1, r2, r3, r4, ⟨l0, l1, l2, l3, l4⟩, e, ht⟩ := T_bytes x hx
  have := (b2_mask r0 l0).2.2.2.2.2.2
  have := (b2_mask r1 l1).2.2.2.2.2.2
  have := (b2_mask r2 l2).2.2.2.2.2.2
  have := (b2_mask r3 l3).2.2.2.2.2.2
  have := (b2_mask r4 l4).2.2.2.2.2.2
  omega
end Go.Proofs.YtfahabphncmbfaaGreatDoor
namespace Go.Proofs.YtfahabphncmbfaaGreatDoor
open Go.RowKit

set_option maxHeartbeats 400000 in
theorem ones64_core (x a1 a2 c1 c2 d r : Nat) (w : World) (h1 : a1 ≤ 1099511627775) (h2 : a2 ≤ 1099511627775) (h3 : c1 ≤ 2199023255550) (h4 : c2 ≤ 2199023255550) (h5 : d ≤ 34901295112)
    (k1 : bits BinOp.and IntKind.u64 ((x : Int) / 2) 6148914691236517205 = (a1 : Int)) (k2 : bits BinOp.and IntKind.u64 (x : Int) 6148914691236517205 = (a2 : Int))
    (k3 : bits BinOp.and IntKind.u64 (((a1 : Int) + a2) / 4) 3689348814741910323 = (c1 : Int)) (k4 : bits BinOp.and IntKind.u64 ((a1 : Int) + a2) 3689348814741910323 = (c2 : Int))
    (k5 : bits BinOp.and IntKind.u64 (((c1 : Int) + c2) / 16 + (c1 + c2)) 1085102592571150095 = (d : Int))
    (k6 : bits BinOp.and IntKind.i64 ((((d : Int) + d / 256) + ((d : Int) + d / 256) / 65536) + (((d : Int) + d / 256) + ((d : Int) + d / 256) / 65536) / 4294967296) 127 = (r : Int)) :
    Calls Tryz.prog 216 #[.int .u64 x] w fun e w' => e = .returned (.int .i64 r) ∧ w = w' := by
  go_enter Tryz.func216, Tryz.ntmps216
  go_wp2
  go_ret
  exact ⟨rfl, rfl⟩
theorem rep85 : rep 85 8 = 6148914691236517205 := by decide +kernel
theorem rep51 : rep 51 8 = 3689348814741910323 := by decide +kernel
theorem rep15 : rep 15 8 = 1085102592571150095 := by decide +kernel
theorem and_le_l (a b : Nat) : a &&& b ≤ a := Nat.and_le_left
theorem cast_div (a b : Nat) : ((a : Int) / (b : Int)) = ((a / b : Nat) : Int) := (Int.natCast_ediv a b).symm
theorem ones64_any (x : Nat) (w : World) (hx : x ≤ 1099511627775) :
    Calls Tryz.prog 216 #[.int .u64 x] w fun e w' => e = .returned (.int .i64 (cntN x)) ∧ w = w' := by
  have l1 := and_le_l (x / 2) (rep 85 8)
  have l2 := and_le_l x (rep 85 8)
  have hs1 : S1 8 x ≤ 2199023255550 := by unfold S1; omega
  have l3 := and_le_l (S1 8 x / 4) (rep 51 8)
  have l4 := and_le_l (S1 8 x) (rep 51 8)
  have hs2 : S2 8 (S1 8 x) ≤ 4398046511100 := by unfold S2; omega
  have ht := T_le x (by omega)
  have e1 : ((S1 8 x : Nat) : Int) = ((x / 2 &&& rep 85 8 : Nat) : Int) + ((x &&& rep 85 8 : Nat) : Int) := by unfold S1; omega
  have e2 : ((S2 8 (S1 8 x) : Nat) : Int) = ((S1 8 x / 4 &&& rep 51 8 : Nat) : Int) + ((S1 8 x &&& rep 51 8 : Nat) : Int) := by unfold S2; omega
  refine ones64_core x (x / 2 &&& rep 85 8) (x &&& rep 85 8) (S1 8 x / 4 &&& rep 51 8) (S1 8 x &&& rep 51 8) (T 8 x) (cntN x) w (by omega) (by omega) (by omega) (by omega) ht ?_ ?_ ?_ ?_ ?_ ?_
  · rw [show (x : Int) / 2 = ((x / 2 : Nat) : Int) by omega]
    rw [rep85]
    exact bits_and_u64_nat (x / 2) 6148914691236517205 (by omega) (by omega)
  · rw [rep85]
    exact bits_and_u64_nat x 6148914691236517205 (by omega) (by omega)
  · rw [← e1, show ((S1 8 x : Nat) : Int) / 4 = ((S1 8 x / 4 : Nat) : Int) by omega, rep51]
    exact bits_and_u64_nat (S1 8 x / 4) 3689348814741910323 (by omega) (by omega)
  · rw [← e1, rep51]
    exact bits_and_u64_nat (S1 8 x) 3689348814741910323 (by omega) (by omega)
  · rw [← e2, show ((S2 8 (S1 8 x) : Nat) : Int) / 16 + ((S2 8 (S1 8 x) : Nat) : Int) = ((S2 8 (S1 8 x) / 16 + S2 8 (S1 8 x) : Nat) : Int) by omega]
    rw [show T 8 x = (S2 8 (S1 8 x) / 16 + S2 8 (S1 8 x)) &&& 1085102592571150095 by rw [← rep15]; rfl]
    exact bits_and_u64_nat (S2 8 (S1 8 x) / 16 + S2 8 (S1 8 x)) 1085102592571150095 (by omega) (by omega)
  · obtain ⟨d, hd⟩ : ∃ d, d = T 8 x := ⟨_, rfl⟩
    have hc : cntN x = tailN d &&& 127 := by rw [hd, and_127]; rfl
    rw [hc, ← hd]
    rw [← hd] at ht
    have hb : tailN d ≤ 9223372036854775807 := by unfold tailN; omega
    have he : (((d : Int) + d / 256) + ((d : Int) + d / 256) / 65536) + (((d : Int) + d / 256) + ((d : Int) + d / 256) / 65536) / 4294967296 = ((tailN d : Nat) : Int) := by unfold tailN; omega
    rw [he]
    exact bits_and_i64_nat (tailN d) 127 (by omega) (by omega)
theorem ones_any (x : Nat) (w : World) (hx : x ≤ 1099511627775) :
    Calls Tryz.prog 181 #[.int .u64 x] w fun e w' => e = .returned (.int .i64 (cntN x)) ∧ w = w' := by
  have C := Lib.hid (ones64_any x w hx)
  go_enter Tryz.func181, Tryz.ntmps181
  go_wp2_with (go_at_call 216; refine C.out.mono ?_; rintro e w' ⟨rfl, rfl⟩)
  go_ret
  exact ⟨rfl, rfl⟩

theorem tz_any (x : Nat) (w : World) (hx : x < 18446744073709551616) (hx0 : x ≠ 0) (hT : Tab64 w) :
    Calls Tryz.prog 182 #[.int .u64 x] w fun e w' => e = .returned (.int .i64 (Lib.ctz 64 x)) ∧ w = w' := by
  have C := Lib.hid (tz64_any x w hx hx0 hT)
  clear hx hx0 hT
  obtain ⟨c, hc⟩ : ∃ c, c = Lib.ctz 64 x := ⟨_, rfl⟩
  rw [← hc] at C ⊢
  clear hc
  go_enter Tryz.func182, Tryz.ntmps182
  go_wp2_with (go_at_call 170; refine C.out.mono ?_; rintro e w' ⟨rfl, rfl⟩)
  go_ret
  exact ⟨rfl, rfl⟩

/-- num.Two at a power of two. -/
theorem two_core (x k : Nat) (w : World) (hx : x ≤ 1099511627775) (C1 : Hid (Calls Tryz.prog 181 #[.int .u64 x] w fun e w' => e = .returned (.int .i64 1) ∧ w = w'))
    (C2 : Hid (Calls Tryz.prog 182 #[.int .u64 x] w fun e w' => e = .returned (.int .i64 k) ∧ w = w')) :
    Calls Tryz.prog 129 #[.int .i64 x] w fun e w' => e = .returned (.tuple #[.int .i64 k, .bool true]) ∧ w = w' := by
  have C0 := Lib.hid (check_any (x : Int) w)
  rw [chk_ok (by omega) (by omega)] at C0
  go_enter Tryz.func129, Tryz.ntmps129
  go_wp2_with (first
    | (go_at_call 180; refine C0.out.mono ?_; rintro e w' ⟨rfl, rfl⟩)
    | (go_at_call 181; refine C1.out.mono ?_; rintro e w' ⟨rfl, rfl⟩)
    | (go_at_call 182; refine C2.out.mono ?_; rintro e w' ⟨rfl, rfl⟩))
  go_ret2
  exact ⟨rfl, rfl⟩
theorem two_yes (k : Nat) (hk : k < 40) (w : World) (hT : Tab64 w) :
    Calls Tryz.prog 129 #[.int .i64 ((2 ^ k : Nat) : Int)] w fun e w' => e = .returned (.tuple #[.int .i64 k, .bool true]) ∧ w = w' := by
  obtain ⟨h1, h2, h3, h4⟩ := two_cnt k hk
  obtain ⟨x, hx⟩ : ∃ x, x = 2 ^ k := ⟨_, rfl⟩
  rw [← hx] at h1 h2 h3 h4 ⊢
  have C1 := ones_any x w (by omega)
  rw [h1] at C1
  have C2 := tz_any x w (by omega) (by omega) hT
  rw [h4] at C2
  exact two_core x k w (by omega) (Lib.hid C1) (Lib.hid C2)
theorem two_not (x c : Nat) (w : World) (hx : x ≤ 1099511627775) (hc : ((c : Int) != 1) = true) (C1 : Hid (Calls Tryz.prog 181 #[.int .u64 x] w fun e w' => e = .returned (.int .i64 c) ∧ w = w')) :
    Calls Tryz.prog 129 #[.int .i64 x] w fun e w' => e = .returned (.tuple #[.int .i64 0, .bool false]) ∧ w = w' := by
  have C0 := Lib.hid (check_any (x : Int) w)
  rw [chk_ok (by omega) (by omega)] at C0
  go_enter Tryz.func129, Tryz.ntmps129
  go_wp2_with (first
    | (go_at_call 180; refine C0.out.mono ?_; rintro e w' ⟨rfl, rfl⟩)
    | (go_at_call 181; refine C1.out.mono ?_; rintro e w' ⟨rfl, rfl⟩))
  go_ret2
  exact ⟨rfl, rfl⟩
theorem two_wrong (n : Int) (w : World) (h : chk n ≠ 0) :
    Calls Tryz.prog 129 #[.int .i64 n] w fun e w' => e = .returned (.tuple #[.int .i64 0, .bool false]) ∧ w = w' := by
  have C0 := Lib.hid (check_any n w)
  obtain ⟨c, hc⟩ : ∃ c, c = chk n := ⟨_, rfl⟩
  rw [← hc] at C0 h
  have hb : (c != 0) = true := by simpa using h
  clear hc h
  go_enter Tryz.func129, Tryz.ntmps129
  go_wp2_with (go_at_call 180; refine C0.out.mono ?_; rintro e w' ⟨rfl, rfl⟩)
  go_ret2
  exact ⟨rfl, rfl⟩
theorem two_no (n : Int) (w : World) (h : ∀ k : Nat, k < 40 → n ≠ ((2 ^ k : Nat) : Int)) :
    Calls Tryz.prog 129 #[.int .i64 n] w fun e w' => e = .returned (.tuple #[.int .i64 0, .bool false]) ∧ w = w' := by
  by_cases hc : chk n = 0
  · obtain ⟨n0, n1⟩ := chk_zero hc
    obtain ⟨x, rfl⟩ : ∃ x : Nat, n = (x : Int) := ⟨n.toNat, by omega⟩
    refine two_not x (cntN x) w (by omega) ?_ (Lib.hid (ones_any x w (by omega)))
    have : cntN x ≠ 1 := fun h1 => by
      obtain ⟨k, hk, e⟩ := cnt_two x (by omega) h1
      exact h k hk (by rw [e])
    simp; omega
  · exact two_wrong n w hc
end Go.Proofs.YtfahabphncmbfaaGreatDoor
set_option linter.unusedVariables false
set_option linter.unusedSimpArgs false
namespace Go.Proofs.YtfahabphncmbfaaGreatDoor
open Go Go.RowKit

theorem within_yes (a b c : Int) (w : World) (h : b ≤ a ∧ a ≤ c) : Calls Tryz.prog 69 #[.int .i64 a, .int .i64 b, .int .i64 c] w
    fun e w' => e = .returned (.bool true) ∧ w = w' := by
  obtain ⟨h1, h2⟩ := h
  go_enter Tryz.func69, Tryz.ntmps69
  go_wp2
  go_ret
  exact ⟨rfl, rfl⟩
theorem within_no (a b c : Int) (w : World) (h : ¬ (b ≤ a ∧ a ≤ c)) : Calls Tryz.prog 69 #[.int .i64 a, .int .i64 b, .int .i64 c] w
    fun e w' => e = .returned (.bool false) ∧ w = w' := by
  by_cases h1 : b ≤ a
  · have h2 : ¬ a ≤ c := fun q => h ⟨h1, q⟩
    go_enter Tryz.func69, Tryz.ntmps69
    go_wp2
    go_ret
    exact ⟨rfl, rfl⟩
  · go_enter Tryz.func69, Tryz.ntmps69
    go_wp2
    go_ret
    exact ⟨rfl, rfl⟩
theorem isPeriod_any (n : Int) (w : World) (hT : Tab64 w) : Calls Tryz.prog 70 #[.int .i64 n] w
    fun e w' => e = .returned (.bool (isP n)) ∧ w = w' := by
  by_cases hn : ∃ k : Nat, k < 40 ∧ n = ((2 ^ k : Nat) : Int)
  · obtain ⟨k, hk, rfl⟩ := hn
    have C := Lib.hid (two_yes k hk w hT)
    rw [isP_pow]
    obtain ⟨x, hx⟩ : ∃ x : Int, x = ((2 ^ k : Nat) : Int) := ⟨_, rfl⟩
    rw [← hx] at C ⊢
    clear hx hT
    go_enter Tryz.func70, Tryz.ntmps70
    go_wp2_with fail
    refine C.out.mono ?_
    rintro e w' ⟨rfl, rfl⟩
    go_wp2
    go_ret
    exact ⟨rfl, rfl⟩
  · have hno : ∀ k : Nat, k < 40 → n ≠ ((2 ^ k : Nat) : Int) := fun k hk e => hn ⟨k, hk, e⟩
    rw [isP_no hno]
    have C := Lib.hid (two_no n w hno)
    clear hno hn hT
    go_enter Tryz.func70, Tryz.ntmps70
    go_wp2_with fail
    refine C.out.mono ?_
    rintro e w' ⟨rfl, rfl⟩
    go_wp2
    go_ret
    exact ⟨rfl, rfl⟩

set_option maxHeartbeats 8000000 in
theorem clcheck_any (s : Shp) (w : World) (hT : DTab w) : Calls Tryz.prog 33 #[s.val] w
    fun e w' => e = .returned (.int .i64 (chkS s)) ∧ Below w.heap.size w w' := by
  obtain ⟨t, l, m, d, p⟩ := s
  have TT : ∀ W : World, Below w.heap.size w W → Tab64 W := fun W b => hT.via b
  have TT := Lib.hid TT
  clear hT
  unfold Shp.val
  dsimp only
  by_cases h1 : 1 ≤ t ∧ t ≤ 4096
  · by_cases h2 : 1 ≤ l ∧ l ≤ t
    · by_cases h3 : 1 ≤ m ∧ m ≤ l
      · by_cases h4 : isP p = true
        · by_cases h5 : 1 ≤ d ∧ d ≤ p
          · rw [chkS_ok ⟨h1, h2, h3, h4, h5⟩]
            go_enter Tryz.func33, Tryz.ntmps33
            go_wp2_with (first
              | (go_at_call 69; refine (within_yes _ _ _ _ (by assumption)).mono ?_; rintro e w' ⟨rfl, rfl⟩)
              | (go_at_call 70; refine (isPeriod_any _ _ (TT.out _ (below_alloc _))).mono ?_; rw [h4]; rintro e w' ⟨rfl, rfl⟩))
            go_ret
            exact ⟨rfl, below_alloc _⟩
          · rw [chkS_no fun q => h5 q.2.2.2.2]
            go_enter Tryz.func33, Tryz.ntmps33
            go_wp2_with (first
              | (go_at_call 69; refine (within_yes _ _ _ _ (by assumption)).mono ?_; rintro e w' ⟨rfl, rfl⟩)
              | (go_at_call 69; refine (within_no _ _ _ _ (by assumption)).mono ?_; rintro e w' ⟨rfl, rfl⟩)
              | (go_at_call 70; refine (isPeriod_any _ _ (TT.out _ (below_alloc _))).mono ?_; rw [h4]; rintro e w' ⟨rfl, rfl⟩))
            go_ret
            exact ⟨rfl, below_alloc _⟩
        · rw [chkS_no fun q => h4 q.2.2.2.1]
          have h4 : isP p = false := by simpa using h4
          go_enter Tryz.func33, Tryz.ntmps33
          go_wp2_with (first
            | (go_at_call 69; refine (within_yes _ _ _ _ (by assumption)).mono ?_; rintro e w' ⟨rfl, rfl⟩)
            | (go_at_call 70; refine (isPeriod_any _ _ (TT.out _ (below_alloc _))).mono ?_; rw [h4]; rintro e w' ⟨rfl, rfl⟩))
          go_ret
          exact ⟨rfl, below_alloc _⟩
      · rw [chkS_no fun q => h3 q.2.2.1]
        go_enter Tryz.func33, Tryz.ntmps33
        go_wp2_with (first
          | (go_at_call 69; refine (within_yes _ _ _ _ (by assumption)).mono ?_; rintro e w' ⟨rfl, rfl⟩)
          | (go_at_call 69; refine (within_no _ _ _ _ (by assumption)).mono ?_; rintro e w' ⟨rfl, rfl⟩))
        go_ret
        exact ⟨rfl, below_alloc _⟩
    · rw [chkS_no fun q => h2 q.2.1]
      go_enter Tryz.func33, Tryz.ntmps33
      go_wp2_with (first
        | (go_at_call 69; refine (within_yes _ _ _ _ (by assumption)).mono ?_; rintro e w' ⟨rfl, rfl⟩)
        | (go_at_call 69; refine (within_no _ _ _ _ (by assumption)).mono ?_; rintro e w' ⟨rfl, rfl⟩))
      go_ret
      exact ⟨rfl, below_alloc _⟩
  · rw [chkS_no fun q => h1 q.1]
    go_enter Tryz.func33, Tryz.ntmps33
    go_wp2_with (first
      | (go_at_call 69; refine (within_no _ _ _ _ (by assumption)).mono ?_; rintro e w' ⟨rfl, rfl⟩))
    go_ret
    exact ⟨rfl, below_alloc _⟩
end Go.Proofs.YtfahabphncmbfaaGreatDoor
set_option linter.unusedVariables false
namespace Go.Proofs.YtfahabphncmbfaaGreatDoor
open Go.RowKit

def RowV (g : Nat) (t : TypeId) (vs : List Value) (w : World) : Prop := w.heap[g]? = some (.cells vs.toArray t (0, 0))
theorem RowV.lt {g : Nat} {t : TypeId} {vs : List Value} {w : World} (h : RowV g t vs w) : g < w.heap.size := (Array.getElem?_eq_some_iff.1 h).1
theorem RowV.new (w : World) (t : TypeId) (vs : List Value) : RowV w.heap.size t vs (w.alloc (.cells vs.toArray t)) := heap_alloc_new w _
theorem RowV.cell {g : Nat} {t : TypeId} {vs : List Value} {w : World} (h : RowV g t vs w) {j : Nat} {v : Value} (hj : vs[j]? = some v) : w.cell? ⟨g, j, none⟩ = some v := by
  rw [cell_of_row _ _ _ _ _ _ h]
  simpa using hj
theorem RowV.frozen {g : Nat} {t : TypeId} {vs : List Value} {w : World} (h : RowV g t vs w) (j : Nat) : w.frozen? ⟨g, j, none⟩ = false := frozen_of_row _ _ _ _ _ h
theorem RowV.set {g : Nat} {t : TypeId} {vs : List Value} {w : World} (h : RowV g t vs w) (j : Nat) (v : Value) : RowV g t (vs.set j v) (w.setCell ⟨g, j, none⟩ v) := by
  have := heap_setCell_same w g j _ t v h
  unfold RowV
  rw [this]
  simp
theorem RowV.below {g : Nat} {t : TypeId} {vs : List Value} {w w' : World} {B : Nat} (h : RowV g t vs w) (hb : Below B w w') (hB : g < B) : RowV g t vs w' := by
  unfold RowV
  rw [hb.block g hB]
  exact h
theorem RowV.alloc {g : Nat} {t : TypeId} {vs : List Value} {w : World} (h : RowV g t vs w) (o : Obj) : RowV g t vs (w.alloc o) := by
  unfold RowV
  rw [Below.heap_alloc w o g h.lt]
  exact h
theorem bool_cell_info : (Tryz.prog.info? 4).map (fun i => (i.zero, i.size, i.bytes)) = some (some (.bool false), 1, 1) := by kernel_rfl
theorem make_bools (n : Nat) (hn : n ≤ 1000) (W : World) : (Instr.makeSlice 204 (.int .i64 n) (.int .i64 n)).run Tryz.prog W = .ok (.slice (some ⟨W.heap.size, 0, none⟩) n n) (W.alloc (.cells (List.replicate n (Value.bool false)).toArray 4)) := by
  obtain ⟨i0, hi, hz0, hz1, hz2⟩ : ∃ i, Tryz.prog.info? 4 = some i ∧ i.zero = some (.bool false) ∧ i.size = 1 ∧ i.bytes = 1 := by
    have h := bool_cell_info
    cases hi : Tryz.prog.info? 4 with
    | none => rw [hi] at h; cases h
    | some i =>
      rw [hi] at h
      simp at h
      exact ⟨i, rfl, h.1, h.2.1, h.2.2⟩
  have h := run_make (P := Tryz.prog) W 204 4 i0 (.bool false) Tryz.underlying204 hi hz0 .i64 .i64 n n (by omega) (by omega) (by rw [hz2]; omega) (by omega)
  rw [hz1] at h
  have e : madeCells (Value.bool false).cells (((n : Int)).toNat * 1) = (List.replicate n (Value.bool false)).toArray := by
    apply Array.toList_inj.mp
    rw [show (Value.bool false).cells = #[Value.bool false] from rfl, toList_madeCells_one]
    simp
  rw [e] at h
  exact h
end Go.Proofs.YtfahabphncmbfaaGreatDoor
set_option linter.unusedVariables false
namespace Go.Proofs.YtfahabphncmbfaaGreatDoor
open Go.RowKit

/-- A list of integers in a block of the call's own (from base on). -/
def OwnI (w : World) (base : Nat) (v : Value) (zs : List Int) : Prop := w.ownsRow base 3 1 v zs.length (zs.map (Value.int .i64))
theorem OwnI.new (w : World) (base : Nat) (hb : base ≤ w.heap.size) : OwnI (w.alloc (.cells #[] 3)) base (.slice (some ⟨w.heap.size, 0, none⟩) 0 0) [] :=
  ⟨rfl, .inr ⟨w.heap.size, 0, #[], rfl, hb, heap_alloc_new w _, Nat.le_refl _, by simp [maxLen], rfl, rfl⟩⟩
theorem OwnI.below {w w' : World} {base : Nat} {v : Value} {zs : List Int} (h : OwnI w base v zs) (hb : Below w.heap.size w w') : OwnI w' base v zs := by
  refine ⟨h.1, ?_⟩
  rcases h.2 with hn | ⟨g, cap, cur, rfl, hg, hgg, rest⟩
  · exact .inl hn
  · exact .inr ⟨g, cap, cur, rfl, hg, by rw [hb.block g (Array.getElem?_eq_some_iff.1 hgg).1]; exact hgg, rest⟩
theorem OwnI.alloc {w : World} {base : Nat} {v : Value} {zs : List Int} (h : OwnI w base v zs) (o : Obj) : OwnI (w.alloc o) base v zs := h.below (below_alloc o)
theorem OwnI.slice {w : World} {base : Nat} {v : Value} {zs : List Int} (h : OwnI w base v zs) : ∃ A c, v = .slice A zs.length c ∧ Ints w w.heap.size A zs := Ints.of_own h
theorem int_cell_info : (Tryz.prog.info? 3).map (fun i => (i.zero, i.size, i.bytes)) = some (some (.int .i64 0), 1, 8) := by kernel_rfl
/-- 'append(l, n)': the integer lies in a block of its own, laid just ahead. -/
theorem wpList_push {ops : Array Oper} {rest : List Oper} {o : Oper} {a : Act} {Q : Exit → Act → World → Prop} (hgd : o.guard = none) (s x : Operand)
    (ho : o.op = .call { callee := .builtin .append, args := #[s, x], argTypes := #[22, 22] })
    (w1 : World) (base : Nat) (v : Value) (zs : List Int) (n : Int) (len : Nat) (hlen : zs.length = len) (hl : len ≤ 1000) (hO : OwnI w1 base v zs) (hB : base ≤ w1.heap.size)
    (hs : a.eval s = v) (hx : a.eval x = .slice (some ⟨w1.heap.size, 0, none⟩) 1 1)
    (h : ∀ A' c' w', OwnI w' base (.slice A' (len + 1) c') (zs ++ [n]) → Below base w1 w' → wpList Tryz.prog ops Q rest (a.put o.dst (.slice A' (len + 1) c')) w') : wpList Tryz.prog ops Q (o :: rest) a (w1.alloc (.cells #[.int .i64 n] 3)) := by
  obtain ⟨i0, hi0, hz0, hz1, hz2⟩ : ∃ i, Tryz.prog.info? 3 = some i ∧ i.zero = some (.int .i64 0) ∧ i.size = 1 ∧ i.bytes = 8 := by
    have h := int_cell_info
    cases hi : Tryz.prog.info? 3 with
    | none => rw [hi] at h; cases h
    | some i =>
      rw [hi] at h
      simp at h
      exact ⟨i, rfl, h.1, h.2.1, h.2.2⟩
  subst hlen
  refine wpList_append_own _ hgd s x 22 ho base 3 i0 (.int .i64 0) 1 8 Tryz.underlying22 hi0 hz0 hz1 hz2 rfl (by omega) v zs.length (zs.map (Value.int .i64)) hs (hO.alloc _) ⟨w1.heap.size, 0, none⟩ 1 1 [.int .i64 n] hx rfl ?_ ?_
    (by unfold maxLen; omega) (by omega) (by simp; omega) ?_
  · intro j u hu
    match j with
    | 0 =>
      obtain rfl : Value.int .i64 n = u := by simpa using hu
      rw [addr_add, World.cell?_alloc_at _ _ _ _ rfl]
      rfl
    | j + 1 => simp at hu
  · intro u hu
    obtain rfl : u = .int .i64 n := by simpa using hu
    rfl
  · intro v' w' hown' hg _
    have hO' : OwnI w' base v' (zs ++ [n]) := by
      unfold OwnI
      rw [List.length_append, List.length_singleton, List.map_append]
      exact hown'
    obtain ⟨A', c', rfl, _⟩ := hO'.slice
    rw [show (zs ++ [n]).length = zs.length + 1 by simp] at hO' ⊢
    refine h A' c' w' hO' (((Below.refl base w1).alloc hB _).grown hg (by simp; omega) (fun k hk => ?_))
    exact (hO.lt k hk).1
end Go.Proofs.YtfahabphncmbfaaGreatDoor
set_option linter.unusedVariables false
namespace Go.Proofs.YtfahabphncmbfaaGreatDoor
open Go.RowKit

/-- A slice of edges (its address A, its length that of es) reads as these edges, below block B. -/
def Pairs (w : World) (B : Nat) (A : Option Addr) (es : List (Int × Int)) : Prop :=
  0 < es.length → ∃ b off, A = some ⟨b, off, none⟩ ∧ b < B ∧ ∀ k e, es[k]? = some e → w.cell? ⟨b, off + k * 2, none⟩ = some (.int .i64 e.1) ∧ w.cell? ⟨b, off + k * 2 + 1, none⟩ = some (.int .i64 e.2)
theorem Pairs.at_ {w : World} {B : Nat} {A : Option Addr} {es : List (Int × Int)} {k : Nat} (h : Pairs w B A es) (hk : k < es.length) :
    ∃ b off e, A = some ⟨b, off, none⟩ ∧ b < B ∧ es[k]? = some e ∧ w.cell? ⟨b, off + k * 2, none⟩ = some (.int .i64 e.1) ∧ w.cell? ⟨b, off + k * 2 + 1, none⟩ = some (.int .i64 e.2) := by
  obtain ⟨b, off, e, hb, hc⟩ := h (by omega)
  have he : es[k]? = some es[k] := List.getElem?_eq_getElem hk
  exact ⟨b, off, es[k], e, hb, he, (hc k _ he).1, (hc k _ he).2⟩
theorem Pairs.keep {w w' : World} {B : Nat} {A : Option Addr} {es : List (Int × Int)} (h : Pairs w B A es) (hk : ∀ p : Addr, p.block < B → w'.cell? p = w.cell? p) : Pairs w' B A es := fun hn => by
  obtain ⟨b, off, e, hb, hc⟩ := h hn
  exact ⟨b, off, e, hb, fun k x hx => ⟨(hk _ hb).trans (hc k x hx).1, (hk _ hb).trans (hc k x hx).2⟩⟩
theorem Pairs.more {w : World} {B B' : Nat} {A : Option Addr} {es : List (Int × Int)} (h : Pairs w B A es) (hB : B ≤ B') : Pairs w B' A es := fun hn => by
  obtain ⟨b, off, e, hb, hc⟩ := h hn
  exact ⟨b, off, e, by omega, hc⟩
theorem Pairs.below {w w' : World} {B : Nat} {A : Option Addr} {es : List (Int × Int)} (h : Pairs w B A es) (hb : Below B w w') : Pairs w' B A es := h.keep fun _ hp => hb.cell hp
theorem Pairs.alloc {w : World} {B : Nat} {A : Option Addr} {es : List (Int × Int)} (h : Pairs w B A es) (hB : B ≤ w.heap.size) (o : Obj) : Pairs (w.alloc o) B A es :=
  h.keep fun p hp => World.cell?_alloc_lt w o p (by omega)
end Go.Proofs.YtfahabphncmbfaaGreatDoor
set_option linter.unusedVariables false
namespace Go.Proofs.YtfahabphncmbfaaGreatDoor
open Go.RowKit

def flatE (es : List (Int × Int)) : List Value := es.flatMap fun e => [.int .i64 e.1, .int .i64 e.2]
theorem flatE_length (es : List (Int × Int)) : (flatE es).length = es.length * 2 := by
  induction es with
  | nil => rfl
  | cons e es ih =>
    rw [show flatE (e :: es) = .int .i64 e.1 :: .int .i64 e.2 :: flatE es from rfl, List.length_cons, List.length_cons, List.length_cons, ih]
    omega
theorem flatE_append (a b : List (Int × Int)) : flatE (a ++ b) = flatE a ++ flatE b := by unfold flatE; rw [List.flatMap_append]
theorem flatE_at : ∀ {es : List (Int × Int)} {k : Nat} {e : Int × Int}, es[k]? = some e → (flatE es)[k * 2]? = some (.int .i64 e.1) ∧ (flatE es)[k * 2 + 1]? = some (.int .i64 e.2)
  | [], k, e, h => by simp at h
  | x :: es, 0, e, h => by
    obtain rfl : x = e := by simpa using h
    exact ⟨rfl, rfl⟩
  | x :: es, k + 1, e, h => by
    have ih := flatE_at (es := es) (k := k) (e := e) (by simpa using h)
    have e1 : flatE (x :: es) = .int .i64 x.1 :: .int .i64 x.2 :: flatE es := rfl
    rw [e1, show (k + 1) * 2 = k * 2 + 1 + 1 by omega]
    simp only [List.getElem?_cons_succ]
    exact ih
theorem flatE_cell {es : List (Int × Int)} {j : Nat} {u : Value} (h : (flatE es)[j]? = some u) : ∃ e, es[j / 2]? = some e ∧ ((j % 2 = 0 ∧ u = .int .i64 e.1) ∨ (j % 2 = 1 ∧ u = .int .i64 e.2)) := by
  have hj : j < es.length * 2 := by
    rw [← flatE_length]
    rcases Nat.lt_or_ge j (flatE es).length with h1 | h1
    · exact h1
    · rw [List.getElem?_eq_none h1] at h; cases h
  have hk : es[j / 2]? = some es[j / 2] := List.getElem?_eq_getElem (by omega)
  refine ⟨_, hk, ?_⟩
  obtain ⟨h1, h2⟩ := flatE_at hk
  rcases Nat.mod_two_eq_zero_or_one j with h0 | h0
  · rw [show j / 2 * 2 = j by omega, h] at h1
    exact .inl ⟨h0, Option.some.inj h1⟩
  · rw [show j / 2 * 2 + 1 = j by omega, h] at h2
    exact .inr ⟨h0, Option.some.inj h2⟩
theorem flatE_one (es : List (Int × Int)) : ∀ u ∈ flatE es, u.oneCell' = true := by
  intro u hu
  unfold flatE at hu
  obtain ⟨e, _, h⟩ := List.mem_flatMap.mp hu
  rcases (by simpa using h : u = .int .i64 e.1 ∨ u = .int .i64 e.2) with rfl | rfl <;> rfl
theorem Pairs.news {w : World} {B : Nat} {ad : Addr} {es : List (Int × Int)} (h : Pairs w B (some ad) es) : ∀ j u, (flatE es)[j]? = some u → w.cell? (ad.add j) = some u := by
  intro j u hu
  obtain ⟨e, he, hu2⟩ := flatE_cell hu
  have hl : 0 < es.length := by
    cases es with
    | nil => simp at he
    | cons _ _ => simp
  obtain ⟨b, off, hA, _, hc⟩ := h hl
  injection hA with hA
  subst hA
  rw [addr_add]
  obtain ⟨c1, c2⟩ := hc _ _ he
  rcases hu2 with ⟨h0, rfl⟩ | ⟨h0, rfl⟩
  · rw [show off + j = off + j / 2 * 2 by omega]
    exact c1
  · rw [show off + j = off + j / 2 * 2 + 1 by omega]
    exact c2
theorem Pairs.none_nil {w : World} {B : Nat} {es : List (Int × Int)} (h : Pairs w B none es) : es = [] := by
  rcases Nat.eq_zero_or_pos es.length with h0 | h0
  · exact List.eq_nil_of_length_eq_zero h0
  · obtain ⟨_, _, e, _⟩ := h h0
    cases e
/-- A list of edges in a block of the call's own (from base on). -/
def OwnE (w : World) (base : Nat) (v : Value) (es : List (Int × Int)) : Prop := w.ownsRow base 179 2 v es.length (flatE es)
theorem own_below {w w' : World} {base : Nat} {e : TypeId} {s n : Nat} {v : Value} {xs : List Value} (h : w.ownsRow base e s v n xs) (hb : Below w.heap.size w w') : w'.ownsRow base e s v n xs := by
  refine ⟨h.1, ?_⟩
  rcases h.2 with hn | ⟨g, cap, cur, rfl, hg, hgg, rest⟩
  · exact .inl hn
  · exact .inr ⟨g, cap, cur, rfl, hg, by rw [hb.block g (Array.getElem?_eq_some_iff.1 hgg).1]; exact hgg, rest⟩
theorem OwnE.below {w w' : World} {base : Nat} {v : Value} {es : List (Int × Int)} (h : OwnE w base v es) (hb : Below w.heap.size w w') : OwnE w' base v es := own_below h hb
theorem own_less {w : World} {base base' : Nat} {e : TypeId} {s n : Nat} {v : Value} {xs : List Value} (h : w.ownsRow base e s v n xs) (hb : base' ≤ base) : w.ownsRow base' e s v n xs := by
  refine ⟨h.1, ?_⟩
  rcases h.2 with hn | ⟨g, cap, cur, rfl, hg, rest⟩
  · exact .inl hn
  · exact .inr ⟨g, cap, cur, rfl, by omega, rest⟩
theorem OwnE.slice {w : World} {base : Nat} {v : Value} {es : List (Int × Int)} (h : OwnE w base v es) : ∃ A c, v = .slice A es.length c ∧ Pairs w w.heap.size A es := by
  rcases h.2 with ⟨rfl, hn⟩ | ⟨g, cap, cur, rfl, hg, hgg, hnc, hcm, hcs, htake⟩
  · have : es = [] := List.eq_nil_of_length_eq_zero hn
    subst this
    exact ⟨none, 0, rfl, fun h0 => absurd h0 (by simp)⟩
  · refine ⟨some ⟨g, 0, none⟩, cap, rfl, fun _ => ⟨g, 0, rfl, (Array.getElem?_eq_some_iff.1 hgg).1, fun k e he => ?_⟩⟩
    obtain ⟨h1, h2⟩ := flatE_at he
    have h' : w.ownsRow base 179 2 (.slice (some ⟨g, 0, none⟩) es.length cap) es.length (flatE es) := h
    have c1 := h'.cells (g := g) rfl _ _ h1
    have c2 := h'.cells (g := g) rfl _ _ h2
    rw [addr_add] at c1 c2
    rw [show 0 + (k * 2 + 1) = 0 + k * 2 + 1 by omega] at c2
    exact ⟨c1, c2⟩
theorem edge_cell_info : (Tryz.prog.info? 179).map (fun i => (i.zero, i.size, i.bytes)) = some (some (.agg #[.int .i64 0, .int .i64 0]), 2, 16) := by kernel_rfl
/-- 'append([]T{}, l...)': a new row; all that was there is as it was. -/
theorem fresh_append {P : Program} (w : World) (t ty e : TypeId) (i : TypeInfo) (z : Value) (size bytes : Nat) (ht : P.underlying t = some (.slice e)) (hi : P.info? e = some i) (hz : i.zero = some z)
    (hsize : i.size = size) (hby : i.bytes = bytes) (hzs : z.cells.size = size) (hsz : 0 < size) (base g : Nat) (hg : w.heap[g]? = some (.cells #[] e (0, 0))) (hbg : base ≤ g) (hbw : base ≤ w.heap.size)
    (A : Option Addr) (len c : Nat) (news : List Value) (hl : news.length = len * size) (hA : A = none → len = 0 ∧ c = 0) (hnews : ∀ ad, A = some ad → ∀ j u, news[j]? = some u → w.cell? (ad.add j) = some u) (h1 : ∀ u ∈ news, u.oneCell' = true)
    (h63 : len ≤ maxLen) (hbytes : len * bytes ≤ 140737488355328) :
    ∃ v' w', (Builtin.append_ #[t, t] ty #[.slice (some ⟨g, 0, none⟩) 0 0, .slice A len c]).run P w = .ok v' w' ∧ w'.ownsRow base e size v' len news ∧ Below w.heap.size w w' := by
  have hown : w.ownsRow base e size (.slice (some ⟨g, 0, none⟩) 0 0) 0 [] := ⟨by simp, .inr ⟨g, 0, #[], rfl, hbg, hg, Nat.le_refl _, by simp [maxLen], by simp, by simp⟩⟩
  cases A with
  | none =>
    obtain ⟨rfl, rfl⟩ := hA rfl
    obtain rfl : news = [] := List.eq_nil_of_length_eq_zero (by simpa using hl)
    exact ⟨_, w, run_append_owned_none w base t ty e i size ht hi _ 0 [] hown, hown, Below.refl _ _⟩
  | some ad =>
    rcases Nat.eq_zero_or_pos len with h0 | h0
    · subst h0
      obtain rfl : news = [] := List.eq_nil_of_length_eq_zero (by simpa using hl)
      have hr := run_append_room (P := P) w t ty e i ht hi g 0 0 #[] hg ad 0 c [] (by simp) (fun j u h => by simp at h) (fun u h => by simp at h) (by omega) (by simp)
      refine ⟨_, _, hr, ?_, ?_⟩
      · exact ⟨by simp, .inr ⟨g, 0, _, rfl, hbg, setRow_heap w g _ _ e _ hg, Nat.le_refl _, by simp [maxLen], by simp, by simp⟩⟩
      · refine ⟨rfl, rfl, rfl, by simp, fun k _ => ?_⟩
        by_cases hk : k = g
        · subst hk
          rw [setRow_heap w k _ _ e _ hg, hg]
          simp
        · exact setRow_other w g k _ hk
    · obtain ⟨v', w', hr, ho, hgr⟩ := run_append_arg_grows (P := P) w t ty e i z size bytes ht hi hz hsize hby hzs hsz ⟨g, 0, none⟩ 0 0 [] (by simp) (fun j u h => by simp at h) ad len c news hl (hnews ad rfl) (by omega) (by omega) (by simpa using hbytes)
      rw [Nat.zero_add, List.nil_append] at ho
      exact ⟨v', w', hr, own_less ho hbw, ⟨hgr.os, hgr.tape, hgr.output, hgr.size, fun k hk => hgr.block k hk (by simp)⟩⟩
end Go.Proofs.YtfahabphncmbfaaGreatDoor
