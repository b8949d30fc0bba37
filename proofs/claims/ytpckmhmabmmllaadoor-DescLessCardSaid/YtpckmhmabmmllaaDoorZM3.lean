/- The contract of math/bits.TrailingZeros64 in the seat YtpckmhmabmmllaaDoor, over a world that holds its table.
   What the walks of layer 5 ask of a world's package variables, in the seat YtpckmhmabmmllaaDoor: math/bits' table of 64. (Copy over DTab.tpl for a landed program that reads it.)
   The contract of trefoilref01.Two in the seat YtpckmhmabmmllaaDoor.
   The plain arithmetic of the layer num in the seat YtpckmhmabmmllaaDoor: what each call comes to, as functions of integers. No statement is proved here; it imports nothing of the program.
   The contract of num.Check, in the seat YtpckmhmabmmllaaDoor (out of NumFirst).
   Counting bits, in the seat YtpckmhmabmmllaaDoor: the count of math/bits.OnesCount64 by its own text is 1 just at powers of two (below 2^40). Plain arithmetic; no statement is proved here.
   The contracts of math/bits.OnesCount64 and of num.Two in the seat YtpckmhmabmmllaaDoor, where Tz64 and NumCheck are there (a layer that calls num.Two alone).
   No statement is proved here. -/
import Derived.Test.YtpckmhmabmmllaaDoorChecked
import Derived.WalkKit
import Derived.Handy
import Derived.KernelRfl
import Derived.Below
import Derived.Laws.Bits64b
import Derived.Lib.TrailingZeros
import Derived.Lib.Hide
import Derived.Test.YtpckmhmabmmllaaDoorZM1
import Derived.WalkSmall
set_option linter.unusedVariables false
namespace Go.Proofs.YtpckmhmabmmllaaDoor
open Go.RowKit

/-- The table of math/bits in its variable. -/
def Tab64 (w : World) : Prop := ∀ j, j < Lib.deBruijn64tab.length → w.cell? ⟨1, j, none⟩ = some (.int .u8 (Lib.deBruijn64tab.getD j 0))
theorem Tab64.below {w w' : World} {B : Nat} (h : Tab64 w) (hb : Below B w w') (hB : 1 < B) : Tab64 w' := fun j hj => (hb.cell (p := ⟨1, j, none⟩) hB).trans (h j hj)
theorem Tab64.lt {w : World} (h : Tab64 w) : 1 < w.heap.size := World.block_lt_of_cell? _ _ (h 0 (by decide))
theorem Tab64.via {w w' : World} (h : Tab64 w) (hb : Below w.heap.size w w') : Tab64 w' := h.below hb h.lt

set_option maxHeartbeats 1000000 in
theorem tz64_core (x k idx : Nat) (w : World) (hx0 : ((x : Int) == 0) = false)
    (key : IntKind.u64.wrap (bits BinOp.and IntKind.u64 (x : Int) (IntKind.u64.wrap (-(x : Int))) * 285870213051353865) / 288230376151711744 = (idx : Int))
    (hi : idx < 64) (hk : k < 64) (hcell : w.cell? ⟨1, idx, none⟩ = some (.int .u8 k)) :
    Calls Tryd.prog 88 #[.int .u64 x] w fun e w' => e = .returned (.int .i64 k) ∧ w = w' := by
  go_enter Tryd.func88, Tryd.ntmps88
  go_wp2_with (simp only [key])
  go_ret
  exact ⟨rfl, rfl⟩
theorem tz64_at (x a : Nat) (hx : x < 18446744073709551616) (hx0 : x ≠ 0) (hlow : x &&& (18446744073709551616 - x) = a) :
    IntKind.u64.wrap (bits BinOp.and IntKind.u64 (x : Int) (IntKind.u64.wrap (-(x : Int))) * 285870213051353865) / 288230376151711744 = ((a * 285870213051353865 % 18446744073709551616 / 288230376151711744 : Nat) : Int) := by
  have e1 : IntKind.u64.wrap (-(x : Int)) = ((18446744073709551616 - x : Nat) : Int) := by rw [IntKind.wrap_u64]; omega
  rw [e1, bits_and_u64_nat x _ hx (by omega), hlow, IntKind.wrap_u64]
  omega
theorem tz64_any (x : Nat) (w : World) (hx : x < 18446744073709551616) (hx0 : x ≠ 0) (hT : Tab64 w) :
    Calls Tryd.prog 88 #[.int .u64 x] w fun e w' => e = .returned (.int .i64 (Lib.ctz 64 x)) ∧ w = w' := by
  obtain ⟨hlow, hk⟩ := Lib.lowest_bit 64 x hx0 hx
  obtain ⟨hi, htab⟩ := Lib.deBruijn64_at _ hk
  have hcell := hT _ hi
  rw [htab] at hcell
  exact tz64_core x _ _ w (by simp; omega) (tz64_at x _ hx hx0 hlow) hi hk hcell
end Go.Proofs.YtpckmhmabmmllaaDoor
namespace Go.Proofs.YtpckmhmabmmllaaDoor
open Go Go.RowKit
def DTab (w : World) : Prop := Tab64 w
theorem DTab.via {w w' : World} (h : DTab w) (hb : Below w.heap.size w w') : DTab w' := Tab64.via h hb
end Go.Proofs.YtpckmhmabmmllaaDoor
set_option linter.unusedVariables false
namespace Go.Proofs.YtpckmhmabmmllaaDoor
open Go.RowKit

/-- The power of two, asked one by one. -/
theorem rtwo_yes (k : Nat) (hk : k < 40) (w : World) :
    Calls Tryd.prog 58 #[.int .i64 ((2 ^ k : Nat) : Int)] w fun e w' => e = .returned (.tuple #[.int .i64 k, .bool true]) ∧ w = w' := by
  obtain ⟨x, hx⟩ : ∃ x, x = 2 ^ k := ⟨_, rfl⟩
  rw [← hx]
  have HX := Lib.hid hx
  clear hx
  go_enter Tryd.func58, Tryd.ntmps58
  go_wp2
  go_loop [4, 5] (fun p i => ∃ j P : Nat, j ≤ k ∧ P ≤ 549755813888 ∧ Hid (P = 2 ^ j) ∧ i = .int .i64 j ∧ p = .int .i64 P) (fun _ i => k - (intOf i).toNat)
  case atStart => exact ⟨0, 1, by omega, by omega, Lib.hid rfl, rfl, rfl⟩
  case round =>
    obtain ⟨j, P, hj, hP, hpow, rfl, rfl⟩ := hrel
    by_cases hjk : j = k
    · have hb : ((P : Int) == (x : Int)) = true := by rw [beq_iff_eq, hpow.out, HX.out, hjk]
      subst hjk
      go_wp2
      go_ret2
      exact ⟨rfl, rfl⟩
    · have hlt : 2 ^ j < 2 ^ k := Nat.pow_lt_pow_right (by omega) (by omega)
      have hle : 2 ^ (j + 1) ≤ 2 ^ 39 := Nat.pow_le_pow_right (by omega) (by omega)
      rw [Nat.pow_succ] at hle
      rw [← hpow.out, ← HX.out] at hlt
      rw [← hpow.out] at hle
      have hb : ((P : Int) == (x : Int)) = false := by rw [beq_eq_false_iff_ne]; omega
      have hle' : P * 2 ≤ 549755813888 := hle
      clear hle hlt
      go_wp2
      go_round
      case rel => exact ⟨j + 1, 2 * P, by omega, by omega, Lib.hid (by rw [Nat.pow_succ, ← hpow.out, Nat.mul_comm]), by go_num, by go_num⟩
      case measure => simp [intOf]; omega
theorem rtwo_no (n : Int) (w : World) (h : ∀ k : Nat, k < 40 → n ≠ ((2 ^ k : Nat) : Int)) :
    Calls Tryd.prog 58 #[.int .i64 n] w fun e w' => e = .returned (.tuple #[.int .i64 0, .bool false]) ∧ w = w' := by
  have H := Lib.hid h
  clear h
  go_enter Tryd.func58, Tryd.ntmps58
  go_wp2
  go_loop [4, 5] (fun p i => ∃ j P : Nat, j ≤ 40 ∧ P ≤ 1099511627776 ∧ Hid (P = 2 ^ j) ∧ i = .int .i64 j ∧ p = .int .i64 P) (fun _ i => 40 - (intOf i).toNat)
  case atStart => exact ⟨0, 1, by omega, by omega, Lib.hid rfl, rfl, rfl⟩
  case round =>
    obtain ⟨j, P, hj, hP, hpow, rfl, rfl⟩ := hrel
    by_cases hjk : j < 40
    · have hne := H.out j hjk
      rw [← hpow.out] at hne
      have hle : 2 ^ (j + 1) ≤ 2 ^ 40 := Nat.pow_le_pow_right (by omega) (by omega)
      rw [Nat.pow_succ, ← hpow.out] at hle
      have hb : ((P : Int) == n) = false := by rw [beq_eq_false_iff_ne]; omega
      have hle' : P * 2 ≤ 1099511627776 := hle
      clear hle hne
      go_wp2
      go_round
      case rel => exact ⟨j + 1, 2 * P, by omega, by omega, Lib.hid (by rw [Nat.pow_succ, ← hpow.out, Nat.mul_comm]), by go_num, by go_num⟩
      case measure => simp [intOf]; omega
    · go_wp2
      go_ret2
      exact ⟨rfl, rfl⟩
end Go.Proofs.YtpckmhmabmmllaaDoor
namespace Go.Proofs.YtpckmhmabmmllaaDoor

/-- The error of one number: 10 below 0, 11 above 2^40 - 1, else 0. -/
def chk (n : Int) : Int := if n < 0 then 10 else if 1099511627775 < n then 11 else 0
/-- The first error of some. -/
def ff : List Int → Int
  | [] => 0
  | n :: l => if chk n = 0 then ff l else chk n
def total : List Int → Int
  | [] => 0
  | n :: l => n + total l

theorem chk_low {n : Int} (h : n < 0) : chk n = 10 := by unfold chk; rw [if_pos h]
theorem chk_high {n : Int} (h : 1099511627775 < n) : chk n = 11 := by unfold chk; rw [if_neg (by omega), if_pos h]
theorem chk_ok {n : Int} (h0 : 0 ≤ n) (h1 : n ≤ 1099511627775) : chk n = 0 := by unfold chk; rw [if_neg (by omega), if_neg (by omega)]
theorem chk_zero {n : Int} (h : chk n = 0) : 0 ≤ n ∧ n ≤ 1099511627775 := by
  by_cases h1 : n < 0
  · rw [chk_low h1] at h; omega
  · by_cases h2 : 1099511627775 < n
    · rw [chk_high h2] at h; omega
    · omega
theorem chk_vals (n : Int) : chk n = 0 ∨ chk n = 10 ∨ chk n = 11 := by
  by_cases h1 : n < 0
  · rw [chk_low h1]; omega
  · by_cases h2 : 1099511627775 < n
    · rw [chk_high h2]; omega
    · rw [chk_ok (by omega) (by omega)]; omega
theorem ff_vals (l : List Int) : ff l = 0 ∨ ff l = 10 ∨ ff l = 11 := by
  induction l with
  | nil => exact .inl rfl
  | cons n l ih =>
    unfold ff
    by_cases h : chk n = 0
    · rw [if_pos h]; exact ih
    · rw [if_neg h]; exact chk_vals n
theorem ff_append (l r : List Int) : ff (l ++ r) = if ff l = 0 then ff r else ff l := by
  induction l with
  | nil => simp [ff]
  | cons n l ih =>
    by_cases h : chk n = 0
    · have e1 : ff (n :: l) = ff l := if_pos h
      have e2 : ff (n :: l ++ r) = ff (l ++ r) := if_pos h
      rw [e1, e2, ih]
    · have e1 : ff (n :: l) = chk n := if_neg h
      have e2 : ff (n :: l ++ r) = chk n := if_neg h
      rw [e1, e2, if_neg h]
theorem take_snoc {zs : List Int} {k : Nat} {z : Int} (h : zs[k]? = some z) : zs.take (k + 1) = zs.take k ++ [z] := by
  rw [List.take_add_one, h]; rfl
theorem ff_step {zs : List Int} {k : Nat} {z : Int} (h : zs[k]? = some z) (h0 : ff (zs.take k) = 0) : ff (zs.take (k + 1)) = chk z := by
  rw [take_snoc h, ff_append, if_pos h0]
  show (if chk z = 0 then ff [] else chk z) = chk z
  by_cases hc : chk z = 0
  · rw [if_pos hc, hc]; rfl
  · rw [if_neg hc]
theorem ff_early {zs : List Int} {k : Nat} {z : Int} (h : zs[k]? = some z) (h0 : ff (zs.take k) = 0) (hc : chk z ≠ 0) : ff zs = chk z := by
  have h1 := ff_step h h0
  have h2 := ff_append (zs.take (k + 1)) (zs.drop (k + 1))
  rw [List.take_append_drop, h1, if_neg hc] at h2
  exact h2
theorem ff_prefix {zs : List Int} (k : Nat) (h : ff zs = 0) : ff (zs.take k) = 0 := by
  have h2 := ff_append (zs.take k) (zs.drop k)
  rw [List.take_append_drop, h] at h2
  by_cases h0 : ff (zs.take k) = 0
  · exact h0
  · rw [if_neg h0] at h2; omega
theorem ff_mem {zs : List Int} (h : ff zs = 0) {k : Nat} {z : Int} (hz : zs[k]? = some z) : 0 ≤ z ∧ z ≤ 1099511627775 := by
  have h1 := ff_step hz (ff_prefix k h)
  rw [ff_prefix (k + 1) h] at h1
  exact chk_zero h1.symm
theorem ff_pair (a b : Int) : ff [a, b] = if chk a = 0 then chk b else chk a := by
  show (if chk a = 0 then (if chk b = 0 then 0 else chk b) else chk a) = _
  by_cases h : chk b = 0
  · rw [if_pos h, h]
  · rw [if_neg h]
theorem ff_pair_zero {a b : Int} (h : ff [a, b] = 0) : (0 ≤ a ∧ a ≤ 1099511627775) ∧ 0 ≤ b ∧ b ≤ 1099511627775 := by
  exact ⟨ff_mem h (k := 0) rfl, ff_mem h (k := 1) rfl⟩
theorem ff_pair_ok {a b : Int} (a0 : 0 ≤ a) (a1 : a ≤ 1099511627775) (b0 : 0 ≤ b) (b1 : b ≤ 1099511627775) : ff [a, b] = 0 := by
  rw [ff_pair, chk_ok a0 a1, if_pos rfl, chk_ok b0 b1]

theorem total_append (l r : List Int) : total (l ++ r) = total l + total r := by
  induction l with
  | nil => simp [total]
  | cons n l ih => simp only [List.cons_append, total]; omega
theorem total_step {zs : List Int} {k : Nat} {z : Int} (h : zs[k]? = some z) : total (zs.take (k + 1)) = total (zs.take k) + z := by
  rw [take_snoc h, total_append]; simp [total]
theorem total_pos {zs : List Int} (h : ff zs = 0) : 0 ≤ total zs := by
  induction zs with
  | nil => exact Int.le_refl _
  | cons n l ih =>
    unfold ff at h
    by_cases hc : chk n = 0
    · rw [if_pos hc] at h
      have := chk_zero hc
      have := ih h
      simp only [total]; omega
    · rw [if_neg hc] at h; exact absurd h hc
theorem ff_drop {zs : List Int} (k : Nat) (h : ff zs = 0) : ff (zs.drop k) = 0 := by
  have h2 := ff_append (zs.take k) (zs.drop k)
  rw [List.take_append_drop, h, ff_prefix k h, if_pos rfl] at h2
  exact h2.symm
theorem total_prefix {zs : List Int} (k : Nat) (h : ff zs = 0) : total (zs.take k) ≤ total zs := by
  have h2 := total_append (zs.take k) (zs.drop k)
  rw [List.take_append_drop] at h2
  have := total_pos (ff_drop k h)
  omega

/-- What the calls come to: the number, and the error. -/
def addS (l : List Int) : Int := if ff l = 0 then (if 1099511627775 < total l then 0 else total l) else 0
def addE (l : List Int) : Int := if ff l = 0 then (if 1099511627775 < total l then 11 else 0) else ff l
def subS (a b : Int) : Int := if ff [a, b] = 0 then (if a < b then 0 else a - b) else 0
def subE (a b : Int) : Int := if ff [a, b] = 0 then (if a < b then 10 else 0) else ff [a, b]
def mulS (a b : Int) : Int := if ff [a, b] = 0 then (if 1099511627775 < a * b then 0 else a * b) else 0
def mulE (a b : Int) : Int := if ff [a, b] = 0 then (if 1099511627775 < a * b then 11 else 0) else ff [a, b]
def downS (a b : Int) : Int := if ff [a, b] = 0 then (if b = 0 then 0 else a / b) else 0
def downE (a b : Int) : Int := if ff [a, b] = 0 then (if b = 0 then 12 else 0) else ff [a, b]
def upS (a b : Int) : Int := if ff [a, b] = 0 then (if b = 0 then 0 else if a / b * b < a then a / b + 1 else a / b) else 0

theorem addS_bad {l : List Int} (h : ff l ≠ 0) : addS l = 0 := if_neg h
theorem addE_bad {l : List Int} (h : ff l ≠ 0) : addE l = ff l := if_neg h
theorem addS_over {l : List Int} (h : ff l = 0) (h1 : 1099511627775 < total l) : addS l = 0 := by unfold addS; rw [if_pos h, if_pos h1]
theorem addE_over {l : List Int} (h : ff l = 0) (h1 : 1099511627775 < total l) : addE l = 11 := by unfold addE; rw [if_pos h, if_pos h1]
theorem addS_fine {l : List Int} (h : ff l = 0) (h1 : total l ≤ 1099511627775) : addS l = total l := by unfold addS; rw [if_pos h, if_neg (by omega)]
theorem addE_fine {l : List Int} (h : ff l = 0) (h1 : total l ≤ 1099511627775) : addE l = 0 := by unfold addE; rw [if_pos h, if_neg (by omega)]
theorem subS_bad {a b : Int} (h : ff [a, b] ≠ 0) : subS a b = 0 := if_neg h
theorem subE_bad {a b : Int} (h : ff [a, b] ≠ 0) : subE a b = ff [a, b] := if_neg h
theorem subS_low {a b : Int} (h : ff [a, b] = 0) (h1 : a < b) : subS a b = 0 := by unfold subS; rw [if_pos h, if_pos h1]
theorem subE_low {a b : Int} (h : ff [a, b] = 0) (h1 : a < b) : subE a b = 10 := by unfold subE; rw [if_pos h, if_pos h1]
theorem subS_fine {a b : Int} (h : ff [a, b] = 0) (h1 : b ≤ a) : subS a b = a - b := by unfold subS; rw [if_pos h, if_neg (by omega)]
theorem subE_fine {a b : Int} (h : ff [a, b] = 0) (h1 : b ≤ a) : subE a b = 0 := by unfold subE; rw [if_pos h, if_neg (by omega)]
theorem mulS_bad {a b : Int} (h : ff [a, b] ≠ 0) : mulS a b = 0 := if_neg h
theorem mulE_bad {a b : Int} (h : ff [a, b] ≠ 0) : mulE a b = ff [a, b] := if_neg h
theorem mulS_over {a b : Int} (h : ff [a, b] = 0) (h1 : 1099511627775 < a * b) : mulS a b = 0 := by unfold mulS; rw [if_pos h, if_pos h1]
theorem mulE_over {a b : Int} (h : ff [a, b] = 0) (h1 : 1099511627775 < a * b) : mulE a b = 11 := by unfold mulE; rw [if_pos h, if_pos h1]
theorem mulS_fine {a b : Int} (h : ff [a, b] = 0) (h1 : a * b ≤ 1099511627775) : mulS a b = a * b := by unfold mulS; rw [if_pos h, if_neg (by omega)]
theorem mulE_fine {a b : Int} (h : ff [a, b] = 0) (h1 : a * b ≤ 1099511627775) : mulE a b = 0 := by unfold mulE; rw [if_pos h, if_neg (by omega)]
theorem downS_bad {a b : Int} (h : ff [a, b] ≠ 0) : downS a b = 0 := if_neg h
theorem downE_bad {a b : Int} (h : ff [a, b] ≠ 0) : downE a b = ff [a, b] := if_neg h
theorem downS_zero {a b : Int} (h : ff [a, b] = 0) (h1 : b = 0) : downS a b = 0 := by unfold downS; rw [if_pos h, if_pos h1]
theorem downE_zero {a b : Int} (h : ff [a, b] = 0) (h1 : b = 0) : downE a b = 12 := by unfold downE; rw [if_pos h, if_pos h1]
theorem downS_fine {a b : Int} (h : ff [a, b] = 0) (h1 : b ≠ 0) : downS a b = a / b := by unfold downS; rw [if_pos h, if_neg h1]
theorem downE_fine {a b : Int} (h : ff [a, b] = 0) (h1 : b ≠ 0) : downE a b = 0 := by unfold downE; rw [if_pos h, if_neg h1]
theorem upS_bad {a b : Int} (h : ff [a, b] ≠ 0) : upS a b = 0 := if_neg h
theorem upS_zero {a b : Int} (h : ff [a, b] = 0) (h1 : b = 0) : upS a b = 0 := by unfold upS; rw [if_pos h, if_pos h1]
theorem upS_more {a b : Int} (h : ff [a, b] = 0) (h1 : b ≠ 0) (h2 : a / b * b < a) : upS a b = a / b + 1 := by unfold upS; rw [if_pos h, if_neg h1, if_pos h2]
theorem upS_even {a b : Int} (h : ff [a, b] = 0) (h1 : b ≠ 0) (h2 : ¬ a / b * b < a) : upS a b = a / b := by unfold upS; rw [if_pos h, if_neg h1, if_neg h2]
/-- The guard of the product: asked by a quotient. -/
theorem mul_guard {a b : Int} (hb : 0 < b) : 1099511627775 / b < a ↔ 1099511627775 < a * b := by
  constructor
  · intro h
    exact (Int.ediv_lt_iff_lt_mul hb).mp h
  · intro h
    exact (Int.ediv_lt_iff_lt_mul hb).mpr h
theorem div_bounds {a b : Int} (ha : 0 ≤ a) (ha1 : a ≤ 1099511627775) (hb : 0 < b) : 0 ≤ a / b ∧ a / b ≤ 1099511627775 ∧ 0 ≤ a / b * b ∧ a / b * b ≤ a ∧ a - a / b * b < b := by
  have h1 : 0 ≤ a / b := Int.ediv_nonneg ha (by omega)
  have h2 : a / b ≤ a := Int.ediv_le_self b ha
  have h3 : a / b * b ≤ a := Int.ediv_mul_le a (by omega)
  have h4 : 0 ≤ a / b * b := Int.mul_nonneg h1 (by omega)
  have h5 : a < (a / b + 1) * b := Int.lt_ediv_add_one_mul_self a hb
  have h6 : (a / b + 1) * b = a / b * b + b := by rw [Int.add_mul, Int.one_mul]
  omega
end Go.Proofs.YtpckmhmabmmllaaDoor
namespace Go.Proofs.YtpckmhmabmmllaaDoor
open Go.RowKit

theorem check_any (n : Int) (w : World) : Calls Tryd.prog 64 #[.int .i64 n] w fun e w' => e = .returned (.int .i64 (chk n)) ∧ w = w' := by
  by_cases h1 : n < 0
  · rw [chk_low h1]
    go_enter Tryd.func64, Tryd.ntmps64
    go_wp2
    go_ret
    exact ⟨rfl, rfl⟩
  · by_cases h2 : 1099511627775 < n
    · rw [chk_high h2]
      go_enter Tryd.func64, Tryd.ntmps64
      go_wp2
      go_ret
      exact ⟨rfl, rfl⟩
    · rw [chk_ok (by omega) (by omega)]
      go_enter Tryd.func64, Tryd.ntmps64
      go_wp2
      go_ret
      exact ⟨rfl, rfl⟩

end Go.Proofs.YtpckmhmabmmllaaDoor
namespace Go.Proofs.YtpckmhmabmmllaaDoor
open Go.RowKit

theorem bits_and_i64_nat (a b : Nat) (ha : a < 9223372036854775808) (hb : b < 9223372036854775808) : bits .and .i64 (a : Int) (b : Int) = ((a &&& b : Nat) : Int) := by
  have hx : a &&& b < 2 ^ 63 := Nat.and_lt_two_pow _ (by omega)
  have h1 : (BitVec.ofInt 64 (a : Int)).toNat = a := by
    rw [BitVec.ofInt_natCast, BitVec.toNat_ofNat]; exact Nat.mod_eq_of_lt (by omega)
  have h2 : (BitVec.ofInt 64 (b : Int)).toNat = b := by
    rw [BitVec.ofInt_natCast, BitVec.toNat_ofNat]; exact Nat.mod_eq_of_lt (by omega)
  show IntKind.i64.wrap ((BitVec.ofInt 64 (a : Int) &&& BitVec.ofInt 64 (b : Int)).toNat : Int) = _
  rw [BitVec.toNat_and, h1, h2]
  simp [IntKind.wrap, IntKind.signed, IntKind.bits]
  omega

/-- A byte stands m times, one behind the other. -/
def rep (m : Nat) : Nat → Nat
  | 0 => 0
  | k + 1 => 256 * rep m k + m
theorem and_byte (q r m s : Nat) (hr : r < 256) (hs : s < 256) : (256 * q + r) &&& (256 * m + s) = 256 * (q &&& m) + (r &&& s) := by
  apply Nat.eq_of_testBit_eq
  intro i
  have hrs : r &&& s < 2 ^ 8 := Nat.and_lt_two_pow _ (by omega)
  have e (a b : Nat) (hb : b < 2 ^ 8) : (256 * a + b).testBit i = if i < 8 then b.testBit i else a.testBit (i - 8) := by
    have := Nat.testBit_two_pow_mul_add a hb i
    simpa using this
  rw [Nat.testBit_and, e q r hr, e m s hs, e _ _ hrs]
  by_cases h : i < 8
  · simp [h]
  · simp [h]

def b1 (r : Nat) : Nat := (r / 2 &&& 85) + (r &&& 85)
def b2 (r : Nat) : Nat := (r / 4 &&& 51) + (r &&& 51)
def b3 (r : Nat) : Nat := (r / 16 + r) &&& 15
def pop8 (r : Nat) : Nat := b3 (b2 (b1 r))
def S1 (k x : Nat) : Nat := (x / 2 &&& rep 85 k) + (x &&& rep 85 k)
def S2 (k x : Nat) : Nat := (x / 4 &&& rep 51 k) + (x &&& rep 51 k)
def S3 (k x : Nat) : Nat := (x / 16 + x) &&& rep 15 k

theorem b1_mask : ∀ r, r < 256 → (r / 2 &&& 85) = (128 + r / 2 &&& 85) ∧ b1 r < 256 := by decide +kernel
theorem b2_mask : ∀ r, r < 256 → (r / 4 &&& 51) = (64 + r / 4 &&& 51) ∧ (r / 4 &&& 51) = (128 + r / 4 &&& 51) ∧ (r / 4 &&& 51) = (192 + r / 4 &&& 51) ∧ b2 r < 256 ∧ b2 r % 16 ≤ 6 ∧ b2 (b1 r) ≤ 68 ∧ pop8 r ≤ 8 := by decide +kernel
theorem b3_mask : ∀ r, r ≤ 68 → ∀ t, t ≤ 6 → (16 * t + (r / 16 + r) &&& 15) = b3 r := by decide +kernel
theorem S1_step (k q r : Nat) (hr : r < 256) : S1 (k + 1) (256 * q + r) = 256 * S1 k q + b1 r := by
  have h2 : (256 * q + r) / 2 = 256 * (q / 2) + (128 * (q % 2) + r / 2) := by omega
  have rs : rep 85 (k + 1) = 256 * rep 85 k + 85 := rfl
  unfold S1
  rw [rs, h2, and_byte _ _ _ _ (by omega) (by omega), and_byte _ _ _ _ (by omega) (by omega)]
  have h3 : (128 * (q % 2) + r / 2 &&& 85) = (r / 2 &&& 85) := by
    rcases Nat.mod_two_eq_zero_or_one q with h | h <;> rw [h]
    · simp
    · exact (b1_mask r hr).1.symm
  rw [h3]
  show _ = 256 * ((q / 2 &&& rep 85 k) + (q &&& rep 85 k)) + ((r / 2 &&& 85) + (r &&& 85))
  omega
theorem S2_step (k q r : Nat) (hr : r < 256) : S2 (k + 1) (256 * q + r) = 256 * S2 k q + b2 r := by
  have h2 : (256 * q + r) / 4 = 256 * (q / 4) + (64 * (q % 4) + r / 4) := by omega
  have rs : rep 51 (k + 1) = 256 * rep 51 k + 51 := rfl
  unfold S2
  rw [rs, h2, and_byte _ _ _ _ (by omega) (by omega), and_byte _ _ _ _ (by omega) (by omega)]
  have h3 : (64 * (q % 4) + r / 4 &&& 51) = (r / 4 &&& 51) := by
    obtain ⟨m1, m2, m3, _⟩ := b2_mask r hr
    rcases (show q % 4 = 0 ∨ q % 4 = 1 ∨ q % 4 = 2 ∨ q % 4 = 3 by omega) with h | h | h | h <;> rw [h]
    · simp
    · exact m1.symm
    · exact m2.symm
    · exact m3.symm
  rw [h3]
  show _ = 256 * ((q / 4 &&& rep 51 k) + (q &&& rep 51 k)) + ((r / 4 &&& 51) + (r &&& 51))
  omega
theorem S3_step (k q r : Nat) (hr : r ≤ 68) (hq : q % 16 ≤ 6) : S3 (k + 1) (256 * q + r) = 256 * S3 k q + b3 r := by
  have h2 : (256 * q + r) / 16 + (256 * q + r) = 256 * (q / 16 + q) + (16 * (q % 16) + (r / 16 + r)) := by omega
  have rs : rep 15 (k + 1) = 256 * rep 15 k + 15 := rfl
  unfold S3
  rw [rs, h2, and_byte _ _ _ _ (by omega) (by omega), b3_mask r hr _ hq]
theorem S2_low (k q : Nat) : S2 k q % 16 ≤ 6 := by
  cases k with
  | zero => simp [S2, rep]
  | succ k =>
    have h := S2_step k (q / 256) (q % 256) (Nat.mod_lt _ (by omega))
    have h1 := (b2_mask (q % 256) (Nat.mod_lt _ (by omega))).2.2.2.2.1
    have e : 256 * (q / 256) + q % 256 = q := by omega
    rw [e] at h
    omega
/-- Three rounds of the count: each byte holds the count of its bits. -/
def T (k x : Nat) : Nat := S3 k (S2 k (S1 k x))
theorem T_step (k q r : Nat) (hr : r < 256) : T (k + 1) (256 * q + r) = 256 * T k q + pop8 r := by
  unfold T
  rw [S1_step k q r hr, S2_step k _ _ (b1_mask r hr).2, S3_step k _ _ (b2_mask r hr).2.2.2.2.2.1 (S2_low _ _)]
  rfl
theorem T_zero (k : Nat) : T k 0 = 0 := by
  simp [T, S1, S2, S3]

theorem pop8_zero : ∀ r, r < 256 → pop8 r = 0 → r = 0 := by decide +kernel
theorem pop8_one : ∀ r, r < 256 → pop8 r = 1 → r = 1 ∨ r = 2 ∨ r = 4 ∨ r = 8 ∨ r = 16 ∨ r = 32 ∨ r = 64 ∨ r = 128 := by decide +kernel

/-- The five bytes of a number below 2^40, and its count byte by byte. -/
theorem T_bytes (x : Nat) (hx : x < 1099511627776) : ∃ r0 r1 r2 r3 r4, (r0 < 256 ∧ r1 < 256 ∧ r2 < 256 ∧ r3 < 256 ∧ r4 < 256) ∧ x = r0 + 256 * r1 + 65536 * r2 + 16777216 * r3 + 4294967296 * r4 ∧
    T 8 x = pop8 r0 + 256 * pop8 r1 + 65536 * pop8 r2 + 16777216 * pop8 r3 + 4294967296 * pop8 r4 := by
  refine ⟨x % 256, x / 256 % 256, x / 65536 % 256, x / 16777216 % 256, x / 4294967296, by omega, by omega, ?_⟩
  have e0 : x = 256 * (x / 256) + x % 256 := by omega
  have e1 : x / 256 = 256 * (x / 65536) + x / 256 % 256 := by omega
  have e2 : x / 65536 = 256 * (x / 16777216) + x / 65536 % 256 := by omega
  have e3 : x / 16777216 = 256 * (x / 4294967296) + x / 16777216 % 256 := by omega
  have e4 : x / 4294967296 = 256 * 0 + x / 4294967296 := by omega
  have t0 : T 8 (256 * (x / 256) + x % 256) = 256 * T 7 (x / 256) + pop8 (x % 256) := T_step 7 _ _ (by omega)
  have t1 : T 7 (256 * (x / 65536) + x / 256 % 256) = 256 * T 6 (x / 65536) + pop8 (x / 256 % 256) := T_step 6 _ _ (by omega)
  have t2 : T 6 (256 * (x / 16777216) + x / 65536 % 256) = 256 * T 5 (x / 16777216) + pop8 (x / 65536 % 256) := T_step 5 _ _ (by omega)
  have t3 : T 5 (256 * (x / 4294967296) + x / 16777216 % 256) = 256 * T 4 (x / 4294967296) + pop8 (x / 16777216 % 256) := T_step 4 _ _ (by omega)
  have t4 : T 4 (256 * 0 + x / 4294967296) = 256 * T 3 0 + pop8 (x / 4294967296) := T_step 3 _ _ (by omega)
  rw [← e0] at t0
  rw [← e1] at t1
  rw [← e2] at t2
  rw [← e3] at t3
  rw [← e4, T_zero] at t4
  rw [t0, t1, t2, t3, t4]
  omega

/-- The last rounds: the bytes are added. -/
def tail (c : Nat) : Nat := ((c + c / 256) + (c + c / 256) / 65536) + ((c + c / 256) + (c + c / 256) / 65536) / 4294967296
theorem tail_sum (p0 p1 p2 p3 p4 : Nat) (h0 : p0 ≤ 8) (h1 : p1 ≤ 8) (h2 : p2 ≤ 8) (h3 : p3 ≤ 8) (h4 : p4 ≤ 8) :
    tail (p0 + 256 * p1 + 65536 * p2 + 16777216 * p3 + 4294967296 * p4) % 128 = p0 + p1 + p2 + p3 + p4 := by
  unfold tail
  have c1 : (p0 + 256 * p1 + 65536 * p2 + 16777216 * p3 + 4294967296 * p4) / 256 = p1 + 256 * p2 + 65536 * p3 + 16777216 * p4 := by omega
  rw [c1]
  have c2 : (p0 + 256 * p1 + 65536 * p2 + 16777216 * p3 + 4294967296 * p4 + (p1 + 256 * p2 + 65536 * p3 + 16777216 * p4)) / 65536 = (p2 + p3) + 256 * (p3 + p4) + 65536 * p4 := by omega
  rw [c2]
  have c3 : (p0 + 256 * p1 + 65536 * p2 + 16777216 * p3 + 4294967296 * p4 + (p1 + 256 * p2 + 65536 * p3 + 16777216 * p4) + ((p2 + p3) + 256 * (p3 + p4) + 65536 * p4)) / 4294967296 = p4 := by omega
  rw [c3]
  omega

/-- The count of a number below 2^40. -/
def cnt (x : Nat) : Nat := tail (T 8 x) % 128
theorem and_127 (x : Nat) : x &&& 127 = x % 128 := Nat.and_two_pow_sub_one_eq_mod x 7
theorem cnt_two (x : Nat) (hx : x < 1099511627776) (h : cnt x = 1) : ∃ k, k < 40 ∧ x = 2 ^ k := by
  obtain ⟨r0, r1, r2, r3, r4, ⟨l0, l1, l2, l3, l4⟩, e, ht⟩ := T_bytes x hx
  unfold cnt at h
  rw [ht, tail_sum _ _ _ _ _ (b2_mask r0 l0).2.2.2.2.2.2 (b2_mask r1 l1).2.2.2.2.2.2 (b2_mask r2 l2).2.2.2.2.2.2 (b2_mask r3 l3).2.2.2.2.2.2 (b2_mask r4 l4).2.2.2.2.2.2] at h
  have z0 := pop8_zero r0 l0
  have z1 := pop8_zero r1 l1
  have z2 := pop8_zero r2 l2
  have z3 := pop8_zero r3 l3
  have z4 := pop8_zero r4 l4
  have o0 := pop8_one r0 l0
  have o1 := pop8_one r1 l1
  have o2 := pop8_one r2 l2
  have o3 := pop8_one r3 l3
  have o4 := pop8_one r4 l4
  rcases (show pop8 r0 = 1 ∨ pop8 r1 = 1 ∨ pop8 r2 = 1 ∨ pop8 r3 = 1 ∨ pop8 r4 = 1 by omega) with g | g | g | g | g
  · have := o0 g
    have := z1 (by omega); have := z2 (by omega); have := z3 (by omega); have := z4 (by omega)
    rcases o0 g with g | g | g | g | g | g | g | g
    · exact ⟨0, by omega, by omega⟩
    · exact ⟨1, by omega, by omega⟩
    · exact ⟨2, by omega, by omega⟩
    · exact ⟨3, by omega, by omega⟩
    · exact ⟨4, by omega, by omega⟩
    · exact ⟨5, by omega, by omega⟩
    · exact ⟨6, by omega, by omega⟩
    · exact ⟨7, by omega, by omega⟩
  · have := z0 (by omega); have := z2 (by omega); have := z3 (by omega); have := z4 (by omega)
    rcases o1 g with g | g | g | g | g | g | g | g
    · exact ⟨8, by omega, by omega⟩
    · exact ⟨9, by omega, by omega⟩
    · exact ⟨10, by omega, by omega⟩
    · exact ⟨11, by omega, by omega⟩
    · exact ⟨12, by omega, by omega⟩
    · exact ⟨13, by omega, by omega⟩
    · exact ⟨14, by omega, by omega⟩
    · exact ⟨15, by omega, by omega⟩
  · have := z0 (by omega); have := z1 (by omega); have := z3 (by omega); have := z4 (by omega)
    rcases o2 g with g | g | g | g | g | g | g | g
    · exact ⟨16, by omega, by omega⟩
    · exact ⟨17, by omega, by omega⟩
    · exact ⟨18, by omega, by omega⟩
    · exact ⟨19, by omega, by omega⟩
    · exact ⟨20, by omega, by omega⟩
    · exact ⟨21, by omega, by omega⟩
    · exact ⟨22, by omega, by omega⟩
    · exact ⟨23, by omega, by omega⟩
  · have := z0 (by omega); have := z1 (by omega); have := z2 (by omega); have := z4 (by omega)
    rcases o3 g with g | g | g | g | g | g | g | g
    · exact ⟨24, by omega, by omega⟩
    · exact ⟨25, by omega, by omega⟩
    · exact ⟨26, by omega, by omega⟩
    · exact ⟨27, by omega, by omega⟩
    · exact ⟨28, by omega, by omega⟩
    · exact ⟨29, by omega, by omega⟩
    · exact ⟨30, by omega, by omega⟩
    · exact ⟨31, by omega, by omega⟩
  · have := z0 (by omega); have := z1 (by omega); have := z2 (by omega); have := z3 (by omega)
    rcases o4 g with g | g | g | g | g | g | g | g
    · exact ⟨32, by omega, by omega⟩
    · exact ⟨33, by omega, by omega⟩
    · exact ⟨34, by omega, by omega⟩
    · exact ⟨35, by omega, by omega⟩
    · exact ⟨36, by omega, by omega⟩
    · exact ⟨37, by omega, by omega⟩
    · exact ⟨38, by omega, by omega⟩
    · exact ⟨39, by omega, by omega⟩
theorem two_cnt : ∀ k, k < 40 → cnt (2 ^ k) = 1 ∧ 2 ^ k ≤ 549755813888 ∧ 0 < 2 ^ k ∧ Lib.ctz 64 (2 ^ k) = k := by decide +kernel
theorem T_le (x : Nat) (hx : x < 1099511627776) : T 8 x ≤ 34901295112 := by
  obtain ⟨r0, r1, r2, r3, r4, ⟨l0, l1, l2, l3, l4⟩, e, ht⟩ := T_bytes x hx
  have := (b2_mask r0 l0).2.2.2.2.2.2
  have := (b2_mask r1 l1).2.2.2.2.2.2
  have := (b2_mask r2 l2).2.2.2.2.2.2
  have := (b2_mask r3 l3).2.2.2.2.2.2
  have := (b2_mask r4 l4).2.2.2.2.2.2
  omega
end Go.Proofs.YtpckmhmabmmllaaDoor
namespace Go.Proofs.YtpckmhmabmmllaaDoor
open Go.RowKit

set_option maxHeartbeats 400000 in
theorem ones64_core (x a1 a2 c1 c2 d r : Nat) (w : World) (h1 : a1 ≤ 1099511627775) (h2 : a2 ≤ 1099511627775) (h3 : c1 ≤ 2199023255550) (h4 : c2 ≤ 2199023255550) (h5 : d ≤ 34901295112)
    (k1 : bits BinOp.and IntKind.u64 ((x : Int) / 2) 6148914691236517205 = (a1 : Int)) (k2 : bits BinOp.and IntKind.u64 (x : Int) 6148914691236517205 = (a2 : Int))
    (k3 : bits BinOp.and IntKind.u64 (((a1 : Int) + a2) / 4) 3689348814741910323 = (c1 : Int)) (k4 : bits BinOp.and IntKind.u64 ((a1 : Int) + a2) 3689348814741910323 = (c2 : Int))
    (k5 : bits BinOp.and IntKind.u64 (((c1 : Int) + c2) / 16 + (c1 + c2)) 1085102592571150095 = (d : Int))
    (k6 : bits BinOp.and IntKind.i64 ((((d : Int) + d / 256) + ((d : Int) + d / 256) / 65536) + (((d : Int) + d / 256) + ((d : Int) + d / 256) / 65536) / 4294967296) 127 = (r : Int)) :
    Calls Tryd.prog 86 #[.int .u64 x] w fun e w' => e = .returned (.int .i64 r) ∧ w = w' := by
  go_enter Tryd.func86, Tryd.ntmps86
  go_wp2
  go_ret
  exact ⟨rfl, rfl⟩
theorem rep85 : rep 85 8 = 6148914691236517205 := by decide +kernel
theorem rep51 : rep 51 8 = 3689348814741910323 := by decide +kernel
theorem rep15 : rep 15 8 = 1085102592571150095 := by decide +kernel
theorem and_le_l (a b : Nat) : a &&& b ≤ a := Nat.and_le_left
theorem cast_div (a b : Nat) : ((a : Int) / (b : Int)) = ((a / b : Nat) : Int) := (Int.natCast_ediv a b).symm
theorem ones64_any (x : Nat) (w : World) (hx : x ≤ 1099511627775) :
    Calls Tryd.prog 86 #[.int .u64 x] w fun e w' => e = .returned (.int .i64 (cnt x)) ∧ w = w' := by
  have l1 := and_le_l (x / 2) (rep 85 8)
  have l2 := and_le_l x (rep 85 8)
  have hs1 : S1 8 x ≤ 2199023255550 := by unfold S1; omega
  have l3 := and_le_l (S1 8 x / 4) (rep 51 8)
  have l4 := and_le_l (S1 8 x) (rep 51 8)
  have hs2 : S2 8 (S1 8 x) ≤ 4398046511100 := by unfold S2; omega
  have ht := T_le x (by omega)
  have e1 : ((S1 8 x : Nat) : Int) = ((x / 2 &&& rep 85 8 : Nat) : Int) + ((x &&& rep 85 8 : Nat) : Int) := by unfold S1; omega
  have e2 : ((S2 8 (S1 8 x) : Nat) : Int) = ((S1 8 x / 4 &&& rep 51 8 : Nat) : Int) + ((S1 8 x &&& rep 51 8 : Nat) : Int) := by unfold S2; omega
  refine ones64_core x (x / 2 &&& rep 85 8) (x &&& rep 85 8) (S1 8 x / 4 &&& rep 51 8) (S1 8 x &&& rep 51 8) (T 8 x) (cnt x) w (by omega) (by omega) (by omega) (by omega) ht ?_ ?_ ?_ ?_ ?_ ?_
  · rw [show (x : Int) / 2 = ((x / 2 : Nat) : Int) by omega]
    rw [rep85]
    exact bits_and_u64_nat (x / 2) 6148914691236517205 (by omega) (by omega)
  · rw [rep85]
    exact bits_and_u64_nat x 6148914691236517205 (by omega) (by omega)
  · rw [← e1, show ((S1 8 x : Nat) : Int) / 4 = ((S1 8 x / 4 : Nat) : Int) by omega, rep51]
    exact bits_and_u64_nat (S1 8 x / 4) 3689348814741910323 (by omega) (by omega)
  · rw [← e1, rep51]
    exact bits_and_u64_nat (S1 8 x) 3689348814741910323 (by omega) (by omega)
  · rw [← e2, show ((S2 8 (S1 8 x) : Nat) : Int) / 16 + ((S2 8 (S1 8 x) : Nat) : Int) = ((S2 8 (S1 8 x) / 16 + S2 8 (S1 8 x) : Nat) : Int) by omega]
    rw [show T 8 x = (S2 8 (S1 8 x) / 16 + S2 8 (S1 8 x)) &&& 1085102592571150095 by rw [← rep15]; rfl]
    exact bits_and_u64_nat (S2 8 (S1 8 x) / 16 + S2 8 (S1 8 x)) 1085102592571150095 (by omega) (by omega)
  · obtain ⟨d, hd⟩ : ∃ d, d = T 8 x := ⟨_, rfl⟩
    have hc : cnt x = tail d &&& 127 := by rw [hd, and_127]; rfl
    rw [hc, ← hd]
    rw [← hd] at ht
    have hb : tail d ≤ 9223372036854775807 := by unfold tail; omega
    have he : (((d : Int) + d / 256) + ((d : Int) + d / 256) / 65536) + (((d : Int) + d / 256) + ((d : Int) + d / 256) / 65536) / 4294967296 = ((tail d : Nat) : Int) := by unfold tail; omega
    rw [he]
    exact bits_and_i64_nat (tail d) 127 (by omega) (by omega)
theorem ones_any (x : Nat) (w : World) (hx : x ≤ 1099511627775) :
    Calls Tryd.prog 65 #[.int .u64 x] w fun e w' => e = .returned (.int .i64 (cnt x)) ∧ w = w' := by
  have C := Lib.hid (ones64_any x w hx)
  go_enter Tryd.func65, Tryd.ntmps65
  go_wp2_with (go_at_call 86; refine C.out.mono ?_; rintro e w' ⟨rfl, rfl⟩)
  go_ret
  exact ⟨rfl, rfl⟩

theorem tz_any (x : Nat) (w : World) (hx : x < 18446744073709551616) (hx0 : x ≠ 0) (hT : Tab64 w) :
    Calls Tryd.prog 66 #[.int .u64 x] w fun e w' => e = .returned (.int .i64 (Lib.ctz 64 x)) ∧ w = w' := by
  have C := Lib.hid (tz64_any x w hx hx0 hT)
  clear hx hx0 hT
  obtain ⟨c, hc⟩ : ∃ c, c = Lib.ctz 64 x := ⟨_, rfl⟩
  rw [← hc] at C ⊢
  clear hc
  go_enter Tryd.func66, Tryd.ntmps66
  go_wp2_with (go_at_call 88; refine C.out.mono ?_; rintro e w' ⟨rfl, rfl⟩)
  go_ret
  exact ⟨rfl, rfl⟩

/-- num.Two at a power of two. -/
theorem two_core (x k : Nat) (w : World) (hx : x ≤ 1099511627775) (C1 : Hid (Calls Tryd.prog 65 #[.int .u64 x] w fun e w' => e = .returned (.int .i64 1) ∧ w = w'))
    (C2 : Hid (Calls Tryd.prog 66 #[.int .u64 x] w fun e w' => e = .returned (.int .i64 k) ∧ w = w')) :
    Calls Tryd.prog 44 #[.int .i64 x] w fun e w' => e = .returned (.tuple #[.int .i64 k, .bool true]) ∧ w = w' := by
  have C0 := Lib.hid (check_any (x : Int) w)
  rw [chk_ok (by omega) (by omega)] at C0
  go_enter Tryd.func44, Tryd.ntmps44
  go_wp2_with (first
    | (go_at_call 64; refine C0.out.mono ?_; rintro e w' ⟨rfl, rfl⟩)
    | (go_at_call 65; refine C1.out.mono ?_; rintro e w' ⟨rfl, rfl⟩)
    | (go_at_call 66; refine C2.out.mono ?_; rintro e w' ⟨rfl, rfl⟩))
  go_ret2
  exact ⟨rfl, rfl⟩
theorem two_yes (k : Nat) (hk : k < 40) (w : World) (hT : Tab64 w) :
    Calls Tryd.prog 44 #[.int .i64 ((2 ^ k : Nat) : Int)] w fun e w' => e = .returned (.tuple #[.int .i64 k, .bool true]) ∧ w = w' := by
  obtain ⟨h1, h2, h3, h4⟩ := two_cnt k hk
  obtain ⟨x, hx⟩ : ∃ x, x = 2 ^ k := ⟨_, rfl⟩
  rw [← hx] at h1 h2 h3 h4 ⊢
  have C1 := ones_any x w (by omega)
  rw [h1] at C1
  have C2 := tz_any x w (by omega) (by omega) hT
  rw [h4] at C2
  exact two_core x k w (by omega) (Lib.hid C1) (Lib.hid C2)
theorem two_not (x c : Nat) (w : World) (hx : x ≤ 1099511627775) (hc : ((c : Int) != 1) = true) (C1 : Hid (Calls Tryd.prog 65 #[.int .u64 x] w fun e w' => e = .returned (.int .i64 c) ∧ w = w')) :
    Calls Tryd.prog 44 #[.int .i64 x] w fun e w' => e = .returned (.tuple #[.int .i64 0, .bool false]) ∧ w = w' := by
  have C0 := Lib.hid (check_any (x : Int) w)
  rw [chk_ok (by omega) (by omega)] at C0
  go_enter Tryd.func44, Tryd.ntmps44
  go_wp2_with (first
    | (go_at_call 64; refine C0.out.mono ?_; rintro e w' ⟨rfl, rfl⟩)
    | (go_at_call 65; refine C1.out.mono ?_; rintro e w' ⟨rfl, rfl⟩))
  go_ret2
  exact ⟨rfl, rfl⟩
theorem two_wrong (n : Int) (w : World) (h : chk n ≠ 0) :
    Calls Tryd.prog 44 #[.int .i64 n] w fun e w' => e = .returned (.tuple #[.int .i64 0, .bool false]) ∧ w = w' := by
  have C0 := Lib.hid (check_any n w)
  obtain ⟨c, hc⟩ : ∃ c, c = chk n := ⟨_, rfl⟩
  rw [← hc] at C0 h
  have hb : (c != 0) = true := by simpa using h
  clear hc h
  go_enter Tryd.func44, Tryd.ntmps44
  go_wp2_with (go_at_call 64; refine C0.out.mono ?_; rintro e w' ⟨rfl, rfl⟩)
  go_ret2
  exact ⟨rfl, rfl⟩
theorem two_no (n : Int) (w : World) (h : ∀ k : Nat, k < 40 → n ≠ ((2 ^ k : Nat) : Int)) :
    Calls Tryd.prog 44 #[.int .i64 n] w fun e w' => e = .returned (.tuple #[.int .i64 0, .bool false]) ∧ w = w' := by
  by_cases hc : chk n = 0
  · obtain ⟨n0, n1⟩ := chk_zero hc
    obtain ⟨x, rfl⟩ : ∃ x : Nat, n = (x : Int) := ⟨n.toNat, by omega⟩
    refine two_not x (cnt x) w (by omega) ?_ (Lib.hid (ones_any x w (by omega)))
    have : cnt x ≠ 1 := fun h1 => by
      obtain ⟨k, hk, e⟩ := cnt_two x (by omega) h1
      exact h k hk (by rw [e])
    simp; omega
  · exact two_wrong n w hc
end Go.Proofs.YtpckmhmabmmllaaDoor
