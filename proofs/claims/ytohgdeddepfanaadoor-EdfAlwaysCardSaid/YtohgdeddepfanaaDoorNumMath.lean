/- The plain arithmetic of the layer num in the seat YtohgdeddepfanaaDoor: what each call comes to, as functions of integers. No statement is proved here; it imports nothing of the program. -/
import Derived.Lib.Hide
namespace Go.Proofs.YtohgdeddepfanaaDoor

/-- The error of one number: 10 below 0, 11 above 2^40 - 1, else 0. -/
def chk (n : Int) : Int := if n < 0 then 10 else if 1099511627775 < n then 11 else 0
/-- The first error of some. -/
def ff : List Int → Int
  | [] => 0
  | n :: l => if chk n = 0 then ff l else chk n
def total : List Int → Int
  | [] => 0
  | n :: l => n + total l

theorem chk_low {n : Int} (h : n < 0) : chk n = 10 := by unfold chk; rw [if_pos h]
theorem chk_high {n : Int} (h : 1099511627775 < n) : chk n = 11 := by unfold chk; rw [if_neg (by omega), if_pos h]
theorem chk_ok {n : Int} (h0 : 0 ≤ n) (h1 : n ≤ 1099511627775) : chk n = 0 := by unfold chk; rw [if_neg (by omega), if_neg (by omega)]
theorem chk_zero {n : Int} (h : chk n = 0) : 0 ≤ n ∧ n ≤ 1099511627775 := by
  by_cases h1 : n < 0
  · rw [chk_low h1] at h; omega
  · by_cases h2 : 1099511627775 < n
    · rw [chk_high h2] at h; omega
    · omega
theorem chk_vals (n : Int) : chk n = 0 ∨ chk n = 10 ∨ chk n = 11 := by
  by_cases h1 : n < 0
  · rw [chk_low h1]; omega
  · by_cases h2 : 1099511627775 < n
    · rw [chk_high h2]; omega
    · rw [chk_ok (by omega) (by omega)]; omega
theorem ff_vals (l : List Int) : ff l = 0 ∨ ff l = 10 ∨ ff l = 11 := by
  induction l with
  | nil => exact .inl rfl
  | cons n l ih =>
    unfold ff
    by_cases h : chk n = 0
    · rw [if_pos h]; exact ih
    · rw [if_neg h]; exact chk_vals n
theorem ff_append (l r : List Int) : ff (l ++ r) = if ff l = 0 then ff r else ff l := by
  induction l with
  | nil => simp [ff]
  | cons n l ih =>
    by_cases h : chk n = 0
    · have e1 : ff (n :: l) = ff l := if_pos h
      have e2 : ff (n :: l ++ r) = ff (l ++ r) := if_pos h
      rw [e1, e2, ih]
    · have e1 : ff (n :: l) = chk n := if_neg h
      have e2 : ff (n :: l ++ r) = chk n := if_neg h
      rw [e1, e2, if_neg h]
theorem take_snoc {zs : List Int} {k : Nat} {z : Int} (h : zs[k]? = some z) : zs.take (k + 1) = zs.take k ++ [z] := by
  rw [List.take_add_one, h]; rfl
theorem ff_step {zs : List Int} {k : Nat} {z : Int} (h : zs[k]? = some z) (h0 : ff (zs.take k) = 0) : ff (zs.take (k + 1)) = chk z := by
  rw [take_snoc h, ff_append, if_pos h0]
  show (if chk z = 0 then ff [] else chk z) = chk z
  by_cases hc : chk z = 0
  · rw [if_pos hc, hc]; rfl
  · rw [if_neg hc]
theorem ff_early {zs : List Int} {k : Nat} {z : Int} (h : zs[k]? = some z) (h0 : ff (zs.take k) = 0) (hc : chk z ≠ 0) : ff zs = chk z := by
  have h1 := ff_step h h0
  have h2 := ff_append (zs.take (k + 1)) (zs.drop (k + 1))
  rw [List.take_append_drop, h1, if_neg hc] at h2
  exact h2
theorem ff_prefix {zs : List Int} (k : Nat) (h : ff zs = 0) : ff (zs.take k) = 0 := by
  have h2 := ff_append (zs.take k) (zs.drop k)
  rw [List.take_append_drop, h] at h2
  by_cases h0 : ff (zs.take k) = 0
  · exact h0
  · rw [if_neg h0] at h2; omega
theorem ff_mem {zs : List Int} (h : ff zs = 0) {k : Nat} {z : Int} (hz : zs[k]? = some z) : 0 ≤ z ∧ z ≤ 1099511627775 := by
  have h1 := ff_step hz (ff_prefix k h)
  rw [ff_prefix (k + 1) h] at h1
  exact chk_zero h1.symm
theorem ff_pair (a b : Int) : ff [a, b] = if chk a = 0 then chk b else chk a := by
  show (if chk a = 0 then (if chk b = 0 then 0 else chk b) else chk a) = _
  by_cases h : chk b = 0
  · rw [if_pos h, h]
  · rw [if_neg h]
theorem ff_pair_zero {a b : Int} (h : ff [a, b] = 0) : (0 ≤ a ∧ a ≤ 1099511627775) ∧ 0 ≤ b ∧ b ≤ 1099511627775 := by
  exact ⟨ff_mem h (k := 0) rfl, ff_mem h (k := 1) rfl⟩
theorem ff_pair_ok {a b : Int} (a0 : 0 ≤ a) (a1 : a ≤ 1099511627775) (b0 : 0 ≤ b) (b1 : b ≤ 1099511627775) : ff [a, b] = 0 := by
  rw [ff_pair, chk_ok a0 a1, if_pos rfl, chk_ok b0 b1]

theorem total_append (l r : List Int) : total (l ++ r) = total l + total r := by
  induction l with
  | nil => simp [total]
  | cons n l ih => simp only [List.cons_append, total]; omega
theorem total_step {zs : List Int} {k : Nat} {z : Int} (h : zs[k]? = some z) : total (zs.take (k + 1)) = total (zs.take k) + z := by
  rw [take_snoc h, total_append]; simp [total]
theorem total_pos {zs : List Int} (h : ff zs = 0) : 0 ≤ total zs := by
  induction zs with
  | nil => exact Int.le_refl _
  | cons n l ih =>
    unfold ff at h
    by_cases hc : chk n = 0
    · rw [if_pos hc] at h
      have := chk_zero hc
      have := ih h
      simp only [total]; omega
    · rw [if_neg hc] at h; exact absurd h hc
theorem ff_drop {zs : List Int} (k : Nat) (h : ff zs = 0) : ff (zs.drop k) = 0 := by
  have h2 := ff_append (zs.take k) (zs.drop k)
  rw [List.take_append_drop, h, ff_prefix k h, if_pos rfl] at h2
  exact h2.symm
theorem total_prefix {zs : List Int} (k : Nat) (h : ff zs = 0) : total (zs.take k) ≤ total zs := by
  have h2 := total_append (zs.take k) (zs.drop k)
  rw [List.take_append_drop] at h2
  have := total_pos (ff_drop k h)
  omega

/-- What the calls come to: the number, and the error. -/
def addS (l : List Int) : Int := if ff l = 0 then (if 1099511627775 < total l then 0 else total l) else 0
def addE (l : List Int) : Int := if ff l = 0 then (if 1099511627775 < total l then 11 else 0) else ff l
def subS (a b : Int) : Int := if ff [a, b] = 0 then (if a < b then 0 else a - b) else 0
def subE (a b : Int) : Int := if ff [a, b] = 0 then (if a < b then 10 else 0) else ff [a, b]
def mulS (a b : Int) : Int := if ff [a, b] = 0 then (if 1099511627775 < a * b then 0 else a * b) else 0
def mulE (a b : Int) : Int := if ff [a, b] = 0 then (if 1099511627775 < a * b then 11 else 0) else ff [a, b]
def downS (a b : Int) : Int := if ff [a, b] = 0 then (if b = 0 then 0 else a / b) else 0
def downE (a b : Int) : Int := if ff [a, b] = 0 then (if b = 0 then 12 else 0) else ff [a, b]
def upS (a b : Int) : Int := if ff [a, b] = 0 then (if b = 0 then 0 else if a / b * b < a then a / b + 1 else a / b) else 0

theorem addS_bad {l : List Int} (h : ff l ≠ 0) : addS l = 0 := if_neg h
theorem addE_bad {l : List Int} (h : ff l ≠ 0) : addE l = ff l := if_neg h
theorem addS_over {l : List Int} (h : ff l = 0) (h1 : 1099511627775 < total l) : addS l = 0 := by unfold addS; rw [if_pos h, if_pos h1]
theorem addE_over {l : List Int} (h : ff l = 0) (h1 : 1099511627775 < total l) : addE l = 11 := by unfold addE; rw [if_pos h, if_pos h1]
theorem addS_fine {l : List Int} (h : ff l = 0) (h1 : total l ≤ 1099511627775) : addS l = total l := by unfold addS; rw [if_pos h, if_neg (by omega)]
theorem addE_fine {l : List Int} (h : ff l = 0) (h1 : total l ≤ 1099511627775) : addE l = 0 := by unfold addE; rw [if_pos h, if_neg (by omega)]
theorem subS_bad {a b : Int} (h : ff [a, b] ≠ 0) : subS a b = 0 := if_neg h
theorem subE_bad {a b : Int} (h : ff [a, b] ≠ 0) : subE a b = ff [a, b] := if_neg h
theorem subS_low {a b : Int} (h : ff [a, b] = 0) (h1 : a < b) : subS a b = 0 := by unfold subS; rw [if_pos h, if_pos h1]
theorem subE_low {a b : Int} (h : ff [a, b] = 0) (h1 : a < b) : subE a b = 10 := by unfold subE; rw [if_pos h, if_pos h1]
theorem subS_fine {a b : Int} (h : ff [a, b] = 0) (h1 : b ≤ a) : subS a b = a - b := by unfold subS; rw [if_pos h, if_neg (by omega)]
theorem subE_fine {a b : Int} (h : ff [a, b] = 0) (h1 : b ≤ a) : subE a b = 0 := by unfold subE; rw [if_pos h, if_neg (by omega)]
theorem mulS_bad {a b : Int} (h : ff [a, b] ≠ 0) : mulS a b = 0 := if_neg h
theorem mulE_bad {a b : Int} (h : ff [a, b] ≠ 0) : mulE a b = ff [a, b] := if_neg h
theorem mulS_over {a b : Int} (h : ff [a, b] = 0) (h1 : 1099511627775 < a * b) : mulS a b = 0 := by unfold mulS; rw [if_pos h, if_pos h1]
theorem mulE_over {a b : Int} (h : ff [a, b] = 0) (h1 : 1099511627775 < a * b) : mulE a b = 11 := by unfold mulE; rw [if_pos h, if_pos h1]
theorem mulS_fine {a b : Int} (h : ff [a, b] = 0) (h1 : a * b ≤ 1099511627775) : mulS a b = a * b := by unfold mulS; rw [if_pos h, if_neg (by omega)]
theorem mulE_fine {a b : Int} (h : ff [a, b] = 0) (h1 : a * b ≤ 1099511627775) : mulE a b = 0 := by unfold mulE; rw [if_pos h, if_neg (by omega)]
theorem downS_bad {a b : Int} (h : ff [a, b] ≠ 0) : downS a b = 0 := if_neg h
theorem downE_bad {a b : Int} (h : ff [a, b] ≠ 0) : downE a b = ff [a, b] := if_neg h
theorem downS_zero {a b : Int} (h : ff [a, b] = 0) (h1 : b = 0) : downS a b = 0 := by unfold downS; rw [if_pos h, if_pos h1]
theorem downE_zero {a b : Int} (h : ff [a, b] = 0) (h1 : b = 0) : downE a b = 12 := by unfold downE; rw [if_pos h, if_pos h1]
theorem downS_fine {a b : Int} (h : ff [a, b] = 0) (h1 : b ≠ 0) : downS a b = a / b := by unfold downS; rw [if_pos h, if_neg h1]
theorem downE_fine {a b : Int} (h : ff [a, b] = 0) (h1 : b ≠ 0) : downE a b = 0 := by unfold downE; rw [if_pos h, if_neg h1]
theorem upS_bad {a b : Int} (h : ff [a, b] ≠ 0) : upS a b = 0 := if_neg h
theorem upS_zero {a b : Int} (h : ff [a, b] = 0) (h1 : b = 0) : upS a b = 0 := by unfold upS; rw [if_pos h, if_pos h1]
theorem upS_more {a b : Int} (h : ff [a, b] = 0) (h1 : b ≠ 0) (h2 : a / b * b < a) : upS a b = a / b + 1 := by unfold upS; rw [if_pos h, if_neg h1, if_pos h2]
theorem upS_even {a b : Int} (h : ff [a, b] = 0) (h1 : b ≠ 0) (h2 : ¬ a / b * b < a) : upS a b = a / b := by unfold upS; rw [if_pos h, if_neg h1, if_neg h2]
/-- The guard of the product: asked by a quotient. -/
theorem mul_guard {a b : Int} (hb : 0 < b) : 1099511627775 / b < a ↔ 1099511627775 < a * b := by
  constructor
  · intro h
    exact (Int.ediv_lt_iff_lt_mul hb).mp h
  · intro h
    exact (Int.ediv_lt_iff_lt_mul hb).mpr h
theorem div_bounds {a b : Int} (ha : 0 ≤ a) (ha1 : a ≤ 1099511627775) (hb : 0 < b) : 0 ≤ a / b ∧ a / b ≤ 1099511627775 ∧ 0 ≤ a / b * b ∧ a / b * b ≤ a ∧ a - a / b * b < b := by
  have h1 : 0 ≤ a / b := Int.ediv_nonneg ha (by omega)
  have h2 : a / b ≤ a := Int.ediv_le_self b ha
  have h3 : a / b * b ≤ a := Int.ediv_mul_le a (by omega)
  have h4 : 0 ≤ a / b * b := Int.mul_nonneg h1 (by omega)
  have h5 : a < (a / b + 1) * b := Int.lt_ediv_add_one_mul_self a hb
  have h6 : (a / b + 1) * b = a / b * b + b := by rw [Int.add_mul, Int.one_mul]
  omega
end Go.Proofs.YtohgdeddepfanaaDoor
