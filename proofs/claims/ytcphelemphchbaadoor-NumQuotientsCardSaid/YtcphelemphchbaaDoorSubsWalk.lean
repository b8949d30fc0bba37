/- The walks of NumSubs and NumQuotients in the seat YtcphelemphchbaaDoor: at any two numbers they answer true. No statement is proved here. -/
import Derived.Test.YtcphelemphchbaaDoorNumAwake
import Derived.Test.YtcphelemphchbaaDoorRefMul
namespace Go.Proofs.YtcphelemphchbaaDoor
open Go.RowKit

theorem subs_bad (a b c : Int) (w : World) (hT : Hid (Tab64 w)) (hc : (c != 0) = true)
    (C1 : Hid (∀ W : World, Calls Tryd.prog 21 #[.int .i64 a, .int .i64 b] W fun e w' => e = .returned (.tuple #[.int .i64 0, .int .i64 c]) ∧ Below W.heap.size W w'))
    (C2 : Hid (∀ W : World, Calls Tryd.prog 22 #[.slice (some ⟨W.heap.size, 0, none⟩) 2 2] (W.alloc (.cells #[.int .i64 a, .int .i64 b] 3)) fun e w' => e = .returned (.int .i64 c) ∧ (W.alloc (.cells #[.int .i64 a, .int .i64 b] 3)) = w')) :
    Calls Tryd.prog 4 #[.int .i64 a, .int .i64 b] w fun e w' => e = .returned (.bool true) ∧ Below w.heap.size w w' := by
  go_enter Tryd.func4, Tryd.ntmps4
  go_wp2_with fail
  refine (awake_any _ hT.out).mono ?_
  rintro e w1 ⟨rfl, b1⟩
  have HB1 := Lib.hid b1
  clear b1
  go_wp2_with fail
  refine (C1.out w1).mono ?_
  rintro e w2 ⟨rfl, b2⟩
  have HB2 := Lib.hid (HB1.out.trans (b2.mono HB1.out.size))
  clear b2
  go_wp2_with fail
  refine (C2.out w2).mono ?_
  rintro e w3 ⟨rfl, rfl⟩
  go_wp2
  go_ret
  exact ⟨by simp, HB2.out.trans ((below_alloc _).mono HB2.out.size)⟩
theorem subs_low (a b : Int) (w : World) (hT : Hid (Tab64 w)) (hab : a < b)
    (C1 : Hid (∀ W : World, Calls Tryd.prog 21 #[.int .i64 a, .int .i64 b] W fun e w' => e = .returned (.tuple #[.int .i64 0, .int .i64 10]) ∧ Below W.heap.size W w'))
    (C2 : Hid (∀ W : World, Calls Tryd.prog 22 #[.slice (some ⟨W.heap.size, 0, none⟩) 2 2] (W.alloc (.cells #[.int .i64 a, .int .i64 b] 3)) fun e w' => e = .returned (.int .i64 0) ∧ (W.alloc (.cells #[.int .i64 a, .int .i64 b] 3)) = w')) :
    Calls Tryd.prog 4 #[.int .i64 a, .int .i64 b] w fun e w' => e = .returned (.bool true) ∧ Below w.heap.size w w' := by
  go_enter Tryd.func4, Tryd.ntmps4
  go_wp2_with fail
  refine (awake_any _ hT.out).mono ?_
  rintro e w1 ⟨rfl, b1⟩
  have HB1 := Lib.hid b1
  clear b1
  go_wp2_with fail
  refine (C1.out w1).mono ?_
  rintro e w2 ⟨rfl, b2⟩
  have HB2 := Lib.hid (HB1.out.trans (b2.mono HB1.out.size))
  clear b2
  go_wp2_with fail
  refine (C2.out w2).mono ?_
  rintro e w3 ⟨rfl, rfl⟩
  go_wp2
  go_ret
  exact ⟨rfl, HB2.out.trans ((below_alloc _).mono HB2.out.size)⟩
theorem subs_fine (a b d : Int) (w : World) (hT : Hid (Tab64 w)) (hab : b ≤ a)
    (C1 : Hid (∀ W : World, Calls Tryd.prog 21 #[.int .i64 a, .int .i64 b] W fun e w' => e = .returned (.tuple #[.int .i64 d, .int .i64 0]) ∧ Below W.heap.size W w'))
    (C2 : Hid (∀ W : World, Calls Tryd.prog 22 #[.slice (some ⟨W.heap.size, 0, none⟩) 2 2] (W.alloc (.cells #[.int .i64 a, .int .i64 b] 3)) fun e w' => e = .returned (.int .i64 0) ∧ (W.alloc (.cells #[.int .i64 a, .int .i64 b] 3)) = w'))
    (C3 : Hid (∀ (o : Obj) (W : World), Calls Tryd.prog 11 #[.slice (some ⟨W.heap.size + 1, 0, none⟩) 2 2] ((W.alloc o).alloc (.cells #[.int .i64 b, .int .i64 d] 3)) fun e w' => e = .returned (.tuple #[.int .i64 a, .int .i64 0]) ∧ Below W.heap.size W w')) :
    Calls Tryd.prog 4 #[.int .i64 a, .int .i64 b] w fun e w' => e = .returned (.bool true) ∧ Below w.heap.size w w' := by
  go_enter Tryd.func4, Tryd.ntmps4
  go_wp2_with fail
  refine (awake_any _ hT.out).mono ?_
  rintro e w1 ⟨rfl, b1⟩
  have HB1 := Lib.hid b1
  clear b1
  go_wp2_with fail
  refine (C1.out w1).mono ?_
  rintro e w2 ⟨rfl, b2⟩
  have HB2 := Lib.hid (HB1.out.trans (b2.mono HB1.out.size))
  clear b2
  go_wp2_with fail
  refine (C2.out w2).mono ?_
  rintro e w3 ⟨rfl, rfl⟩
  go_wp2_with fail
  refine (C3.out _ w2).mono ?_
  rintro e w4 ⟨rfl, b4⟩
  have HB4 := Lib.hid (HB2.out.trans (b4.mono HB2.out.size))
  clear b4
  go_wp2
  go_ret
  exact ⟨by simp, HB4.out⟩
theorem add_newer2 (a b : Int) (o : Obj) (w : World) : Calls Tryd.prog 11 #[.slice (some ⟨w.heap.size + 1, 0, none⟩) 2 2] ((w.alloc o).alloc (.cells #[.int .i64 a, .int .i64 b] 3)) fun e w' =>
    e = .returned (.tuple #[.int .i64 (addS [a, b]), .int .i64 (addE [a, b])]) ∧ Below w.heap.size w w' := by
  have h := add_new2 a b (w.alloc o)
  rw [show (w.alloc o).heap.size = w.heap.size + 1 by simp] at h
  exact h.mono fun _ _ ⟨he, hb⟩ => ⟨he, (below_alloc o).trans (hb.mono (by omega))⟩
theorem total_pair (a b : Int) : total [a, b] = a + b := by simp [total]
theorem walk_NumSubs (w : World) (a : Int) (_ : (Lit.int .i64 a).wf = true) (b : Int) (_ : (Lit.int .i64 b).wf = true) (hT : Tab64 w) :
    Calls Tryd.prog 4 #[.int .i64 a, .int .i64 b] w fun e w' => e = .returned (.bool true) ∧ Below w.heap.size w w' := by
  have c1 := fun W => sub_any a b W
  have c2 := fun W => all_pair a b W
  by_cases h : ff [a, b] = 0
  · obtain ⟨⟨a0, a1⟩, b0, b1⟩ := ff_pair_zero h
    by_cases h1 : a < b
    · simp only [subS_low h h1, subE_low h h1] at c1
      simp only [h] at c2
      exact subs_low a b w (Lib.hid hT) h1 (Lib.hid c1) (Lib.hid c2)
    · have h2 : b ≤ a := by omega
      simp only [subS_fine h h2, subE_fine h h2] at c1
      simp only [h] at c2
      have c3 := fun o W => add_newer2 b (a - b) o W
      have g : ff [b, a - b] = 0 := ff_pair_ok b0 b1 (by omega) (by omega)
      have g1 : total [b, a - b] = a := by rw [total_pair]; omega
      simp only [addS_fine g (by omega), addE_fine g (by omega), g1] at c3
      exact subs_fine a b (a - b) w (Lib.hid hT) h2 (Lib.hid c1) (Lib.hid c2) (Lib.hid c3)
  · simp only [subS_bad h, subE_bad h] at c1
    exact subs_bad a b (ff [a, b]) w (Lib.hid hT) (by simpa using h) (Lib.hid c1) (Lib.hid c2)

theorem quot_bad (a b c : Int) (w : World) (hT : Hid (Tab64 w)) (hc : (c != 0) = true)
    (C1 : Hid (∀ W : World, Calls Tryd.prog 15 #[.int .i64 a, .int .i64 b] W fun e w' => e = .returned (.tuple #[.int .i64 0, .int .i64 c]) ∧ Below W.heap.size W w'))
    (C2 : Hid (∀ W : World, Calls Tryd.prog 23 #[.int .i64 a, .int .i64 b] W fun e w' => e = .returned (.tuple #[.int .i64 0, .int .i64 c]) ∧ Below W.heap.size W w')) :
    Calls Tryd.prog 5 #[.int .i64 a, .int .i64 b] w fun e w' => e = .returned (.bool true) ∧ Below w.heap.size w w' := by
  go_enter Tryd.func5, Tryd.ntmps5
  go_wp2_with fail
  refine (awake_any _ hT.out).mono ?_
  rintro e w1 ⟨rfl, b1⟩
  have HB1 := Lib.hid b1
  clear b1
  go_wp2_with fail
  refine (C1.out w1).mono ?_
  rintro e w2 ⟨rfl, b2⟩
  have HB2 := Lib.hid (HB1.out.trans (b2.mono HB1.out.size))
  clear b2
  go_wp2_with fail
  refine (C2.out w2).mono ?_
  rintro e w3 ⟨rfl, b3⟩
  have HB3 := Lib.hid (HB2.out.trans (b3.mono HB2.out.size))
  clear b3
  go_wp2
  go_ret
  exact ⟨by simp, HB3.out⟩
theorem quot_fine (a b q u p : Int) (w : World) (hT : Hid (Tab64 w)) (hp : p ≤ a) (hr : a - p < b) (hb : b ≤ 1099511627775) (_ : 0 ≤ p) (_ : a ≤ 1099511627775) (q0 : 0 ≤ q) (q1 : q ≤ 1099511627775)
    (hu : (p == a) = true ∧ (u == q) = true ∨ (p == a) = false ∧ p < a ∧ (u == q + 1) = true)
    (C1 : Hid (∀ W : World, Calls Tryd.prog 15 #[.int .i64 a, .int .i64 b] W fun e w' => e = .returned (.tuple #[.int .i64 q, .int .i64 0]) ∧ Below W.heap.size W w'))
    (C2 : Hid (∀ W : World, Calls Tryd.prog 23 #[.int .i64 a, .int .i64 b] W fun e w' => e = .returned (.tuple #[.int .i64 u, .int .i64 0]) ∧ Below W.heap.size W w'))
    (C3 : Hid (∀ W : World, Calls Tryd.prog 13 #[.int .i64 q, .int .i64 b] W fun e w' => e = .returned (.tuple #[.int .i64 p, .int .i64 0]) ∧ Below W.heap.size W w')) :
    Calls Tryd.prog 5 #[.int .i64 a, .int .i64 b] w fun e w' => e = .returned (.bool true) ∧ Below w.heap.size w w' := by
  go_enter Tryd.func5, Tryd.ntmps5
  go_wp2_with fail
  refine (awake_any _ hT.out).mono ?_
  rintro e w1 ⟨rfl, b1⟩
  have HB1 := Lib.hid b1
  clear b1
  go_wp2_with fail
  refine (C1.out w1).mono ?_
  rintro e w2 ⟨rfl, b2⟩
  have HB2 := Lib.hid (HB1.out.trans (b2.mono HB1.out.size))
  clear b2
  go_wp2_with fail
  refine (C2.out w2).mono ?_
  rintro e w3 ⟨rfl, b3⟩
  have HB3 := Lib.hid (HB2.out.trans (b3.mono HB2.out.size))
  clear b3
  go_wp2_with fail
  refine (C3.out w3).mono ?_
  rintro e w4 ⟨rfl, b4⟩
  have HB4 := Lib.hid (HB3.out.trans (b4.mono HB3.out.size))
  clear b4
  rcases hu with ⟨h1, h2⟩ | ⟨h1, h2, h3⟩
  · go_wp2
    go_ret
    exact ⟨rfl, HB4.out⟩
  · go_wp2
    go_ret
    exact ⟨rfl, HB4.out⟩
theorem walk_NumQuotients (w : World) (a : Int) (_ : (Lit.int .i64 a).wf = true) (b : Int) (_ : (Lit.int .i64 b).wf = true) (hT : Tab64 w) :
    Calls Tryd.prog 5 #[.int .i64 a, .int .i64 b] w fun e w' => e = .returned (.bool true) ∧ Below w.heap.size w w' := by
  have c1 := fun W => down_any a b W
  have c2 := fun W => up_any a b W
  by_cases h : ff [a, b] = 0
  · obtain ⟨⟨a0, a1⟩, b0, b1⟩ := ff_pair_zero h
    by_cases hz : b = 0
    · simp only [downS_zero h hz, downE_zero h hz] at c1
      simp only [upS_zero h hz, downE_zero h hz] at c2
      exact quot_bad a b 12 w (Lib.hid hT) (by decide) (Lib.hid c1) (Lib.hid c2)
    · obtain ⟨d0, d1, d2, d3, d4⟩ := div_bounds a0 a1 (b := b) (by omega)
      have g : ff [a / b, b] = 0 := ff_pair_ok d0 d1 b0 b1
      have c3 := fun W => mul_any (a / b) b W
      simp only [mulS_fine g (show a / b * b ≤ 1099511627775 by omega), mulE_fine g (show a / b * b ≤ 1099511627775 by omega)] at c3
      simp only [downS_fine h hz, downE_fine h hz] at c1
      by_cases h1 : a / b * b < a
      · simp only [upS_more h hz h1, downE_fine h hz] at c2
        exact quot_fine a b (a / b) (a / b + 1) (a / b * b) w (Lib.hid hT) d3 d4 b1 d2 a1 d0 d1 (.inr ⟨by rw [beq_eq_false_iff_ne]; omega, h1, by rw [beq_iff_eq]⟩) (Lib.hid c1) (Lib.hid c2) (Lib.hid c3)
      · simp only [upS_even h hz h1, downE_fine h hz] at c2
        exact quot_fine a b (a / b) (a / b) (a / b * b) w (Lib.hid hT) d3 d4 b1 d2 a1 d0 d1 (.inl ⟨by rw [beq_iff_eq]; omega, by rw [beq_iff_eq]⟩) (Lib.hid c1) (Lib.hid c2) (Lib.hid c3)
  · simp only [downS_bad h, downE_bad h] at c1
    simp only [upS_bad h, downE_bad h] at c2
    exact quot_bad a b (ff [a, b]) w (Lib.hid hT) (by simpa using h) (Lib.hid c1) (Lib.hid c2)
end Go.Proofs.YtcphelemphchbaaDoor
