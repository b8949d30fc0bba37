/- The walk of NumOrder in the seat YtcphelemphchbaaDoor: at any three numbers it answers true. No statement is proved here. -/
import Derived.Test.YtcphelemphchbaaDoorNumAwake
import Derived.Test.YtcphelemphchbaaDoorRefMul
namespace Go.Proofs.YtcphelemphchbaaDoor
open Go.RowKit

/-- Add's contract at a list of two just laid, and Mul's, with their answers under names. -/
def AddC (a b s e : Int) : Prop := ∀ W : World, Calls Tryd.prog 11 #[.slice (some ⟨W.heap.size, 0, none⟩) 2 2] (W.alloc (.cells #[.int .i64 a, .int .i64 b] 3)) fun E w' => E = .returned (.tuple #[.int .i64 s, .int .i64 e]) ∧ Below W.heap.size W w'
def MulC (a b s e : Int) : Prop := ∀ W : World, Calls Tryd.prog 13 #[.int .i64 a, .int .i64 b] W fun E w' => E = .returned (.tuple #[.int .i64 s, .int .i64 e]) ∧ Below W.heap.size W w'
def AllC (a b e : Int) : Prop := ∀ W : World, Calls Tryd.prog 22 #[.slice (some ⟨W.heap.size, 0, none⟩) 2 2] (W.alloc (.cells #[.int .i64 a, .int .i64 b] 3)) fun E w' => E = .returned (.int .i64 e) ∧ (W.alloc (.cells #[.int .i64 a, .int .i64 b] 3)) = w'

set_option maxHeartbeats 1000000 in
/-- The walk, its tests decided by what the context holds: c is the first error of a and b; r says whether the two orders part; v whether the last line is true by its first two parts. -/
theorem order_core (a b c k s e t f p g q h x i y j z kk v m : Int) (w : World) (hT : Hid (Tab64 w))
    (C1 : Hid (AddC a b s e)) (C2 : Hid (AddC b a t f)) (C3 : Hid (MulC a b p g)) (C4 : Hid (MulC b a q h)) (C5 : Hid (AllC a b k)) (C6 : Hid (MulC s c x i)) (C7 : Hid (MulC a c y j)) (C8 : Hid (MulC b c z kk)) (C9 : Hid (AddC y z v m))
    (h1 : (k == 0) = false ∨ (k == 0) = true ∧ (s != t) = false ∧ (e != f) = false ∧ (p != q) = false ∧ (g != h) = false)
    (h2 : (e != 0) = true ∨ (e != 0) = false ∧ (i != 0) = true ∨ (e != 0) = false ∧ (i != 0) = false ∧ (j == 0) = true ∧ (kk == 0) = true ∧ (m == 0) = true ∧ (v == x) = true) :
    Calls Tryd.prog 6 #[.int .i64 a, .int .i64 b, .int .i64 c] w fun E w' => E = .returned (.bool true) ∧ Below w.heap.size w w' := by
  rcases h1 with g1 | ⟨g1, g2, g3, g4, g5⟩
  all_goals
    rcases h2 with n1 | ⟨n1, n2⟩ | ⟨n1, n2, n3, n4, n5, n6⟩
    all_goals
      go_enter Tryd.func6, Tryd.ntmps6
      go_wp2_with fail
      refine (awake_any _ hT.out).mono ?_
      rintro e' w1 ⟨rfl, b1⟩
      have HB1 := Lib.hid b1
      clear b1
      go_wp2_with fail
      refine (C1.out w1).mono ?_
      rintro e' w2 ⟨rfl, b2⟩
      have HB2 := Lib.hid (HB1.out.trans (b2.mono HB1.out.size))
      clear b2
      go_wp2_with fail
      refine (C2.out w2).mono ?_
      rintro e' w3 ⟨rfl, b3⟩
      have HB3 := Lib.hid (HB2.out.trans (b3.mono HB2.out.size))
      clear b3
      go_wp2_with fail
      refine (C3.out w3).mono ?_
      rintro e' w4 ⟨rfl, b4⟩
      have HB4 := Lib.hid (HB3.out.trans (b4.mono HB3.out.size))
      clear b4
      go_wp2_with fail
      refine (C4.out w4).mono ?_
      rintro e' w5 ⟨rfl, b5⟩
      have HB5 := Lib.hid (HB4.out.trans (b5.mono HB4.out.size))
      clear b5
      go_wp2_with fail
      refine (C5.out w5).mono ?_
      rintro e' w6 ⟨rfl, hw6⟩
      have HB6 : Hid (Below w.heap.size w w6) := Lib.hid (by rw [← hw6]; exact HB5.out.trans ((below_alloc _).mono HB5.out.size))
      clear hw6
      go_wp2_with fail
      refine (C6.out w6).mono ?_
      rintro e' w7 ⟨rfl, b7⟩
      have HB7 := Lib.hid (HB6.out.trans (b7.mono HB6.out.size))
      clear b7
      go_wp2_with fail
      refine (C7.out w7).mono ?_
      rintro e' w8 ⟨rfl, b8⟩
      have HB8 := Lib.hid (HB7.out.trans (b8.mono HB7.out.size))
      clear b8
      go_wp2_with fail
      refine (C8.out w8).mono ?_
      rintro e' w9 ⟨rfl, b9⟩
      have HB9 := Lib.hid (HB8.out.trans (b9.mono HB8.out.size))
      clear b9
      go_wp2_with fail
      refine (C9.out w9).mono ?_
      rintro e' w10 ⟨rfl, b10⟩
      have HB10 := Lib.hid (HB9.out.trans (b10.mono HB9.out.size))
      clear b10
      go_wp2
      go_ret
      exact ⟨rfl, HB10.out⟩

theorem add_c (a b : Int) : AddC a b (addS [a, b]) (addE [a, b]) := fun W => add_new2 a b W
theorem mul_c (a b : Int) : MulC a b (mulS a b) (mulE a b) := fun W => mul_any a b W
theorem all_c (a b : Int) : AllC a b (ff [a, b]) := fun W => all_pair a b W
theorem total_two (a b : Int) : total [a, b] = a + b := by simp [total]
theorem ff_swap {a b : Int} (h : ff [a, b] = 0) : ff [b, a] = 0 := by
  obtain ⟨⟨a0, a1⟩, b0, b1⟩ := ff_pair_zero h
  exact ff_pair_ok b0 b1 a0 a1
theorem addS_swap {a b : Int} (h : ff [a, b] = 0) : addS [a, b] = addS [b, a] := by
  unfold addS; rw [h, ff_swap h, total_two, total_two, Int.add_comm]
theorem addE_swap {a b : Int} (h : ff [a, b] = 0) : addE [a, b] = addE [b, a] := by
  unfold addE; rw [h, ff_swap h, total_two, total_two, Int.add_comm]
theorem mulS_swap {a b : Int} (h : ff [a, b] = 0) : mulS a b = mulS b a := by
  unfold mulS; rw [h, ff_swap h, Int.mul_comm]
theorem mulE_swap {a b : Int} (h : ff [a, b] = 0) : mulE a b = mulE b a := by
  unfold mulE; rw [h, ff_swap h, Int.mul_comm]
theorem mulE_zero {a b : Int} (h : mulE a b = 0) : ff [a, b] = 0 ∧ a * b ≤ 1099511627775 := by
  by_cases h1 : ff [a, b] = 0
  · by_cases h2 : 1099511627775 < a * b
    · rw [mulE_over h1 h2] at h; omega
    · exact ⟨h1, by omega⟩
  · rw [mulE_bad h1] at h; exact absurd h h1
theorem addE_zero {a b : Int} (h : addE [a, b] = 0) : ff [a, b] = 0 ∧ a + b ≤ 1099511627775 := by
  by_cases h1 : ff [a, b] = 0
  · by_cases h2 : 1099511627775 < total [a, b]
    · rw [addE_over h1 h2] at h; omega
    · exact ⟨h1, by rw [total_two] at h2; omega⟩
  · rw [addE_bad h1] at h; exact absurd h h1
/-- A product of a sum is the sum of products, where all may be. -/
theorem distrib {a b c : Int} (he : addE [a, b] = 0) (hi : mulE (addS [a, b]) c = 0) :
    mulE a c = 0 ∧ mulE b c = 0 ∧ addE [mulS a c, mulS b c] = 0 ∧ addS [mulS a c, mulS b c] = mulS (addS [a, b]) c := by
  obtain ⟨h1, h2⟩ := addE_zero he
  obtain ⟨⟨a0, a1⟩, b0, b1⟩ := ff_pair_zero h1
  have hs : addS [a, b] = a + b := by rw [addS_fine h1 (by rw [total_two]; omega), total_two]
  rw [hs] at hi ⊢
  obtain ⟨h3, h4⟩ := mulE_zero hi
  obtain ⟨_, c0, c1⟩ := ff_pair_zero h3
  have e1 : (a + b) * c = a * c + b * c := Int.add_mul a b c
  have p1 : 0 ≤ a * c := Int.mul_nonneg a0 c0
  have p2 : 0 ≤ b * c := Int.mul_nonneg b0 c0
  have ga := ff_pair_ok a0 a1 c0 c1
  have gb := ff_pair_ok b0 b1 c0 c1
  have gp : ff [a * c, b * c] = 0 := ff_pair_ok p1 (by omega) p2 (by omega)
  rw [mulS_fine h3 h4, mulS_fine ga (by omega), mulS_fine gb (by omega), mulE_fine ga (by omega), mulE_fine gb (by omega), addE_fine gp (by rw [total_two]; omega), addS_fine gp (by rw [total_two]; omega), total_two]
  exact ⟨rfl, rfl, rfl, by omega⟩
theorem walk_NumOrder (w : World) (a : Int) (_ : (Lit.int .i64 a).wf = true) (b : Int) (_ : (Lit.int .i64 b).wf = true) (c : Int) (_ : (Lit.int .i64 c).wf = true) (hT : Tab64 w) :
    Calls Tryd.prog 6 #[.int .i64 a, .int .i64 b, .int .i64 c] w fun E w' => E = .returned (.bool true) ∧ Below w.heap.size w w' := by
  refine order_core a b c _ _ _ _ _ _ _ _ _ _ _ _ _ _ _ _ _ w (Lib.hid hT) (Lib.hid (add_c a b)) (Lib.hid (add_c b a)) (Lib.hid (mul_c a b)) (Lib.hid (mul_c b a)) (Lib.hid (all_c a b)) (Lib.hid (mul_c _ c)) (Lib.hid (mul_c a c)) (Lib.hid (mul_c b c)) (Lib.hid (add_c _ _)) ?_ ?_
  · by_cases h : ff [a, b] = 0
    · exact .inr ⟨by simpa using h, by simpa using addS_swap h, by simpa using addE_swap h, by simpa using mulS_swap h, by simpa using mulE_swap h⟩
    · exact .inl (by simpa using h)
  · by_cases he : addE [a, b] = 0
    · by_cases hi : mulE (addS [a, b]) c = 0
      · obtain ⟨d1, d2, d3, d4⟩ := distrib he hi
        exact .inr (.inr ⟨by simpa using he, by simpa using hi, by simpa using d1, by simpa using d2, by simpa using d3, by simpa using d4⟩)
      · exact .inr (.inl ⟨by simpa using he, by simpa using hi⟩)
    · exact .inl (by simpa using he)
end Go.Proofs.YtcphelemphchbaaDoor
