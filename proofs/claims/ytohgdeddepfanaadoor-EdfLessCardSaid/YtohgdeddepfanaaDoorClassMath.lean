/- What the shape of a task is, and what it tells: plain mathematics, in the seat YtohgdeddepfanaaDoor. No statement is proved here. -/
import Derived.Test.YtohgdeddepfanaaDoorNumMath
namespace Go.Proofs.YtohgdeddepfanaaDoor
open Go Go.RowKit

structure Shp where
  t : Int
  l : Int
  m : Int
  d : Int
  p : Int
def Shp.val (s : Shp) : Value := .agg #[.int .i64 s.t, .int .i64 s.l, .int .i64 s.m, .int .i64 s.d, .int .i64 s.p]
def isP (n : Int) : Bool := (List.range 13).any fun k => decide (n = ((2 ^ k : Nat) : Int))
theorem isP_iff {n : Int} : isP n = true ↔ ∃ k : Nat, k < 13 ∧ n = ((2 ^ k : Nat) : Int) := by
  unfold isP
  rw [List.any_eq_true]
  constructor
  · rintro ⟨k, hk, e⟩
    exact ⟨k, List.mem_range.mp hk, of_decide_eq_true e⟩
  · rintro ⟨k, hk, e⟩
    exact ⟨k, List.mem_range.mpr hk, decide_eq_true e⟩
theorem isP_le {n : Int} (h : isP n = true) : 1 ≤ n ∧ n ≤ 4096 := by
  obtain ⟨k, hk, rfl⟩ := isP_iff.mp h
  have : k = 0 ∨ k = 1 ∨ k = 2 ∨ k = 3 ∨ k = 4 ∨ k = 5 ∨ k = 6 ∨ k = 7 ∨ k = 8 ∨ k = 9 ∨ k = 10 ∨ k = 11 ∨ k = 12 := by omega
  rcases this with rfl | rfl | rfl | rfl | rfl | rfl | rfl | rfl | rfl | rfl | rfl | rfl | rfl <;> decide
/-- Of a power of two: it may be a period just if it is at most 4096. -/
theorem isP_pow {k : Nat} : isP ((2 ^ k : Nat) : Int) = decide (((2 ^ k : Nat) : Int) ≤ 4096) := by
  by_cases h : k < 13
  · have h1 := isP_iff.mpr ⟨k, h, rfl⟩
    rw [h1, decide_eq_true (isP_le h1).2]
  · have h2 : (2 : Nat) ^ 13 ≤ 2 ^ k := Nat.pow_le_pow_right (by omega) (by omega)
    have h3 : ¬ (((2 ^ k : Nat) : Int) ≤ 4096) := by
      have : (2 : Nat) ^ 13 = 8192 := by decide
      omega
    rw [decide_eq_false h3]
    by_cases q : isP ((2 ^ k : Nat) : Int) = true
    · exact absurd (isP_le q).2 h3
    · simpa using q
theorem isP_no {n : Int} (h : ∀ k : Nat, k < 40 → n ≠ ((2 ^ k : Nat) : Int)) : isP n = false := by
  by_cases q : isP n = true
  · obtain ⟨k, hk, e⟩ := isP_iff.mp q
    exact absurd e (h k (by omega))
  · simpa using q
def Shp.Ok (s : Shp) : Prop := (1 ≤ s.t ∧ s.t ≤ 4096) ∧ (1 ≤ s.l ∧ s.l ≤ s.t) ∧ (1 ≤ s.m ∧ s.m ≤ s.l) ∧ isP s.p = true ∧ 1 ≤ s.d ∧ s.d ≤ s.p
instance (s : Shp) : Decidable s.Ok := by unfold Shp.Ok; infer_instance
theorem Shp.Ok.le {s : Shp} (h : s.Ok) : s.p ≤ 4096 := (isP_le h.2.2.2.1).2
def chkS (s : Shp) : Int := if s.Ok then 0 else 140
theorem chkS_ok {s : Shp} (h : s.Ok) : chkS s = 0 := if_pos h
theorem chkS_no {s : Shp} (h : ¬ s.Ok) : chkS s = 140 := if_neg h
/-- How many cores, by the quotient; and what it tells. -/
def manyS (s : Shp) : Int := upS (s.t - s.l) (s.d - s.l)
def coresH (s : Shp) : Int := if s.d ≤ s.l then 0 else if 8 < manyS s then 0 else manyS s
def faultH (s : Shp) : Int := if s.d ≤ s.l then 141 else if 8 < manyS s then 142 else 0
def coresS (s : Shp) : Int := if ¬ s.Ok then 0 else if s.d < s.t then coresH s else 1
def faultS (s : Shp) : Int := if ¬ s.Ok then 140 else if s.d < s.t then faultH s else 0
def boundS (s : Shp) (m : Int) : Int := if s.Ok ∧ 1 ≤ m ∧ m ≤ 8 then (s.t + (m - 1) * s.l) / m else 0
def heavyS (s : Shp) : Bool := decide (s.Ok ∧ s.d < s.t)
/-- The quotient is the least number of cores. -/
theorem many_spec {s : Shp} (h : s.Ok) (hd : s.d < s.t) (hl : s.l < s.d) :
    2 ≤ manyS s ∧ s.t - s.l ≤ manyS s * (s.d - s.l) ∧ (manyS s - 1) * (s.d - s.l) < s.t - s.l := by
  obtain ⟨⟨t0, t1⟩, ⟨l0, l1⟩, ⟨m0, m1⟩, -, d0, d1⟩ := h
  have hf : ff [s.t - s.l, s.d - s.l] = 0 := ff_pair_ok (by omega) (by omega) (by omega) (by omega)
  have hb0 : s.d - s.l ≠ 0 := by omega
  obtain ⟨a, ha⟩ : ∃ a, a = s.t - s.l := ⟨_, rfl⟩
  obtain ⟨b, hb⟩ : ∃ b, b = s.d - s.l := ⟨_, rfl⟩
  unfold manyS
  rw [← ha, ← hb] at hf ⊢
  rw [← hb] at hb0
  have hab : b < a := by omega
  have hbp : 0 < b := by omega
  obtain ⟨q0, q1, q2, q3, q4⟩ := div_bounds (a := a) (b := b) (by omega) (by omega) hbp
  by_cases hm : a / b * b < a
  · rw [upS_more hf hb0 hm]
    have e1 : (a / b + 1) * b = a / b * b + b := by rw [Int.add_mul, Int.one_mul]
    have q5 : 1 ≤ a / b := by
      by_cases hq : 1 ≤ a / b
      · exact hq
      · have : a / b = 0 := by omega
        rw [this] at q4
        omega
    refine ⟨by omega, by omega, ?_⟩
    have e2 : a / b + 1 - 1 = a / b := by omega
    rw [e2]
    exact hm
  · rw [upS_even hf hb0 hm]
    have e3 : a / b * b = a := by omega
    have q5 : 2 ≤ a / b := by
      by_cases hq : 2 ≤ a / b
      · exact hq
      · have : a / b = 0 ∨ a / b = 1 := by omega
        rcases this with h0 | h0 <;> rw [h0] at e3 <;> omega
    refine ⟨q5, by omega, ?_⟩
    rw [Int.sub_mul, Int.one_mul]
    omega
end Go.Proofs.YtohgdeddepfanaaDoor
