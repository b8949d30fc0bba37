/- The walk of NumRises in the seat YtcphelemphchbaaDoor: at any four numbers it answers true. No statement is proved here. -/
import Derived.Test.YtcphelemphchbaaDoorNumAwake
namespace Go.Proofs.YtcphelemphchbaaDoor
open Go.RowKit

def UpC (a b s e : Int) : Prop := ∀ W : World, Calls Tryd.prog 23 #[.int .i64 a, .int .i64 b] W fun E w' => E = .returned (.tuple #[.int .i64 s, .int .i64 e]) ∧ Below W.heap.size W w'
def DownC (a b s e : Int) : Prop := ∀ W : World, Calls Tryd.prog 15 #[.int .i64 a, .int .i64 b] W fun E w' => E = .returned (.tuple #[.int .i64 s, .int .i64 e]) ∧ Below W.heap.size W w'

set_option maxHeartbeats 2000000 in
/-- The walk, its tests decided by what the context holds. -/
theorem rises_core (a c b d p e q f x y h : Int) (w : World) (hT : Hid (Tab64 w))
    (C1 : Hid (UpC a b p e)) (C2 : Hid (UpC c b q f)) (C3 : Hid (DownC a b x e)) (C4 : Hid (DownC a d y h))
    (x0 : 0 ≤ x) (x1 : x ≤ 1099511627775)
    (h1 : (e == 0) = false ∧ (e != 0) = true ∨ ((e == 0) = true ∧ (e != 0) = false ∧ x ≤ p ∧ p ≤ x + 1 ∧ ((f == 0) = false ∨ (f == 0) = true ∧ c < a ∨ (f == 0) = true ∧ a ≤ c ∧ p ≤ q) ∧ ((h == 0) = false ∨ (h == 0) = true ∧ d < b ∨ (h == 0) = true ∧ b ≤ d ∧ y ≤ x))) :
    Calls Tryd.prog 9 #[.int .i64 a, .int .i64 c, .int .i64 b, .int .i64 d] w fun E w' => E = .returned (.bool true) ∧ Below w.heap.size w w' := by
  rcases h1 with ⟨n1, n2⟩ | ⟨n1, n2, n3, n4, (m1 | ⟨m1, m2⟩ | ⟨m1, m2, m3⟩), (k1 | ⟨k1, k2⟩ | ⟨k1, k2, k3⟩)⟩
  all_goals
    go_enter Tryd.func9, Tryd.ntmps9
    go_wp2_with fail
    refine (awake_any _ hT.out).mono ?_
    rintro e' w1 ⟨rfl, b1⟩
    have HB1 := Lib.hid b1
    clear b1
    go_wp2_with fail
    refine (C1.out w1).mono ?_
    rintro e' w2 ⟨rfl, b2⟩
    have HB2 := Lib.hid (HB1.out.trans (b2.mono HB1.out.size))
    clear b2
    go_wp2_with fail
    refine (C2.out w2).mono ?_
    rintro e' w3 ⟨rfl, b3⟩
    have HB3 := Lib.hid (HB2.out.trans (b3.mono HB2.out.size))
    clear b3
    go_wp2_with fail
    refine (C3.out w3).mono ?_
    rintro e' w4 ⟨rfl, b4⟩
    have HB4 := Lib.hid (HB3.out.trans (b4.mono HB3.out.size))
    clear b4
    go_wp2_with fail
    refine (C4.out w4).mono ?_
    rintro e' w5 ⟨rfl, b5⟩
    have HB5 := Lib.hid (HB4.out.trans (b5.mono HB4.out.size))
    clear b5
    go_wp2
    go_ret
    exact ⟨by simp, HB5.out⟩

theorem downE_ok {a b : Int} (h : downE a b = 0) : ff [a, b] = 0 ∧ b ≠ 0 := by
  by_cases h1 : ff [a, b] = 0
  · by_cases h2 : b = 0
    · rw [downE_zero h1 h2] at h; omega
    · exact ⟨h1, h2⟩
  · rw [downE_bad h1] at h; exact absurd h h1
theorem upS_ok {a b : Int} (h : downE a b = 0) : upS a b * b ≥ a ∧ (upS a b - 1) * b < a ∧ 0 < b ∧ downS a b = a / b ∧ a / b ≤ upS a b ∧ upS a b ≤ a / b + 1 ∧ 0 ≤ a / b ∧ a / b ≤ 1099511627775 := by
  obtain ⟨h1, h2⟩ := downE_ok h
  obtain ⟨⟨a0, a1⟩, b0, b1⟩ := ff_pair_zero h1
  obtain ⟨d0, d1, d2, d3, d4⟩ := div_bounds a0 a1 (b := b) (by omega)
  have hd := downS_fine h1 h2
  by_cases h3 : a / b * b < a
  · rw [upS_more h1 h2 h3, hd]
    have e1 : (a / b + 1) * b = a / b * b + b := by rw [Int.add_mul, Int.one_mul]
    have e2 : (a / b + 1 - 1) * b = a / b * b := by rw [Int.add_sub_cancel]
    exact ⟨by omega, by omega, by omega, rfl, by omega, by omega, d0, d1⟩
  · rw [upS_even h1 h2 h3, hd]
    have e1 : (a / b - 1) * b = a / b * b - b := by rw [Int.sub_mul, Int.one_mul]
    exact ⟨by omega, by omega, by omega, rfl, by omega, by omega, d0, d1⟩
/-- A greater number by the same one isn't less. -/
theorem up_mono {a c b : Int} (h : downE a b = 0) (h' : downE c b = 0) (hac : a ≤ c) : upS a b ≤ upS c b := by
  obtain ⟨_, l2, l3, _⟩ := upS_ok h
  obtain ⟨r1, _⟩ := upS_ok h'
  have h5 : (upS a b - 1) * b < upS c b * b := by omega
  have h6 := Int.lt_of_mul_lt_mul_right h5 (by omega)
  omega
/-- By a greater one it isn't more. -/
theorem down_anti {a b d : Int} (h : downE a b = 0) (h' : downE a d = 0) (hbd : b ≤ d) : downS a d ≤ downS a b := by
  obtain ⟨h1, h2⟩ := downE_ok h
  obtain ⟨h3, h4⟩ := downE_ok h'
  obtain ⟨⟨a0, a1⟩, b0, b1⟩ := ff_pair_zero h1
  obtain ⟨_, d0, d1⟩ := ff_pair_zero h3
  rw [downS_fine h1 h2, downS_fine h3 h4]
  obtain ⟨p0, p1, p2, p3, p4⟩ := div_bounds a0 a1 (b := d) (by omega)
  have h5 : a / d * b ≤ a / d * d := Int.mul_le_mul_of_nonneg_left hbd p0
  exact (Int.le_ediv_iff_mul_le (by omega)).mpr (by omega)
theorem downS_range (a b : Int) : 0 ≤ downS a b ∧ downS a b ≤ 1099511627775 := by
  by_cases h : downE a b = 0
  · obtain ⟨_, _, _, h4, _, _, h7, h8⟩ := upS_ok h
    rw [h4]; omega
  · by_cases h1 : ff [a, b] = 0
    · by_cases h2 : b = 0
      · rw [downS_zero h1 h2]; omega
      · exact absurd (downE_fine h1 h2) h
    · rw [downS_bad h1]; omega
theorem walk_NumRises (w : World) (a : Int) (_ : (Lit.int .i64 a).wf = true) (c : Int) (_ : (Lit.int .i64 c).wf = true) (b : Int) (_ : (Lit.int .i64 b).wf = true) (d : Int) (_ : (Lit.int .i64 d).wf = true) (hT : Tab64 w) :
    Calls Tryd.prog 9 #[.int .i64 a, .int .i64 c, .int .i64 b, .int .i64 d] w fun E w' => E = .returned (.bool true) ∧ Below w.heap.size w w' := by
  refine rises_core a c b d _ _ _ _ _ _ _ w (Lib.hid hT) (Lib.hid fun W => up_any a b W) (Lib.hid fun W => up_any c b W) (Lib.hid fun W => down_any a b W) (Lib.hid fun W => down_any a d W) (downS_range a b).1 (downS_range a b).2 ?_
  by_cases he : downE a b = 0
  · refine .inr ⟨by simpa using he, by simpa using he, ?_, ?_, ?_, ?_⟩
    · obtain ⟨_, _, _, h4, h5, _⟩ := upS_ok he
      rw [h4]; exact h5
    · obtain ⟨_, _, _, h4, _, h6, _⟩ := upS_ok he
      rw [h4]; exact h6
    · by_cases hf : downE c b = 0
      · by_cases hac : a ≤ c
        · exact .inr (.inr ⟨by simpa using hf, hac, up_mono he hf hac⟩)
        · exact .inr (.inl ⟨by simpa using hf, by omega⟩)
      · exact .inl (by simpa using hf)
    · by_cases hh : downE a d = 0
      · by_cases hbd : b ≤ d
        · exact .inr (.inr ⟨by simpa using hh, hbd, down_anti he hh hbd⟩)
        · exact .inr (.inl ⟨by simpa using hh, by omega⟩)
      · exact .inl (by simpa using hh)
  · exact .inl ⟨by simpa using he, by simpa using he⟩
end Go.Proofs.YtcphelemphchbaaDoor
