/- The contracts of num.Add, Sub, Mul, Down and Up in the seat YtohgdeddepfanaaDoor: each comes to what the plain arithmetic says, and nothing that was there has turned. No statement is proved here. -/
import Derived.Test.YtohgdeddepfanaaDoorNumFirst
namespace Go.Proofs.YtohgdeddepfanaaDoor
open Go.RowKit

theorem first_pair (a b : Int) (w : World) : Calls Tryd.prog 67 #[.slice (some ⟨w.heap.size, 0, none⟩) 2 2] (w.alloc (.cells #[.int .i64 a, .int .i64 b] 3)) fun e w' =>
    e = .returned (.int .i64 (ff [a, b])) ∧ Below w.heap.size w w' :=
  (first_any (some ⟨w.heap.size, 0, none⟩) 2 [a, b] (w.alloc (.cells #[.int .i64 a, .int .i64 b] 3)) (by simp) ((Ints.new2 w _ a b).more (by simp))).mono
    fun _ _ ⟨he, hb⟩ => ⟨he, (below_alloc _).trans (hb.mono (by simp))⟩

theorem sub_any (a b : Int) (w : World) : Calls Tryd.prog 65 #[.int .i64 a, .int .i64 b] w fun e w' =>
    e = .returned (.tuple #[.int .i64 (subS a b), .int .i64 (subE a b)]) ∧ Below w.heap.size w w' := by
  by_cases h : ff [a, b] = 0
  · obtain ⟨⟨a0, a1⟩, b0, b1⟩ := ff_pair_zero h
    have C := Lib.hid (first_pair a b w)
    rw [h] at C
    by_cases h1 : a < b
    · rw [subS_low h h1, subE_low h h1]
      clear h
      go_enter Tryd.func65, Tryd.ntmps65
      go_wp2_with fail
      refine C.out.mono ?_
      rintro e w' ⟨rfl, hb⟩
      go_wp2
      go_ret2
      exact ⟨rfl, hb⟩
    · have h2 : b ≤ a := by omega
      rw [subS_fine h h2, subE_fine h h2]
      clear h h1
      go_enter Tryd.func65, Tryd.ntmps65
      go_wp2_with fail
      refine C.out.mono ?_
      rintro e w' ⟨rfl, hb⟩
      go_wp2
      go_ret2
      exact ⟨rfl, hb⟩
  · rw [subS_bad h, subE_bad h]
    have C := Lib.hid (first_pair a b w)
    obtain ⟨c, hc⟩ : ∃ c, c = ff [a, b] := ⟨_, rfl⟩
    rw [← hc] at C h ⊢
    have hb : (c != 0) = true := by simpa using h
    clear h hc
    go_enter Tryd.func65, Tryd.ntmps65
    go_wp2_with fail
    refine C.out.mono ?_
    rintro e w' ⟨rfl, hbel⟩
    go_wp2
    go_ret2
    exact ⟨rfl, hbel⟩

theorem ndown_any (a b : Int) (w : World) : Calls Tryd.prog 68 #[.int .i64 a, .int .i64 b] w fun e w' =>
    e = .returned (.tuple #[.int .i64 (downS a b), .int .i64 (downE a b)]) ∧ Below w.heap.size w w' := by
  by_cases h : ff [a, b] = 0
  · obtain ⟨⟨a0, a1⟩, b0, b1⟩ := ff_pair_zero h
    have C := Lib.hid (first_pair a b w)
    rw [h] at C
    by_cases hz : b = 0
    · rw [downS_zero h hz, downE_zero h hz]
      subst hz
      clear h
      go_enter Tryd.func68, Tryd.ntmps68
      go_wp2_with fail
      refine C.out.mono ?_
      rintro e w' ⟨rfl, hb⟩
      go_wp2
      go_ret2
      exact ⟨rfl, hb⟩
    · have hbp : 1 ≤ b := by omega
      have hbz : (b == 0) = false := by simpa using hz
      rw [downS_fine h hz, downE_fine h hz]
      obtain ⟨q0, q1, _⟩ := div_bounds a0 a1 (b := b) (by omega)
      clear h hz
      go_enter Tryd.func68, Tryd.ntmps68
      go_wp2_with fail
      refine C.out.mono ?_
      rintro e w' ⟨rfl, hb⟩
      go_wp2
      go_ret2
      exact ⟨rfl, hb⟩
  · rw [downS_bad h, downE_bad h]
    have C := Lib.hid (first_pair a b w)
    obtain ⟨c, hc⟩ : ∃ c, c = ff [a, b] := ⟨_, rfl⟩
    rw [← hc] at C h ⊢
    have hb : (c != 0) = true := by simpa using h
    clear h hc
    go_enter Tryd.func68, Tryd.ntmps68
    go_wp2_with fail
    refine C.out.mono ?_
    rintro e w' ⟨rfl, hbel⟩
    go_wp2
    go_ret2
    exact ⟨rfl, hbel⟩

theorem up_any (a b : Int) (w : World) : Calls Tryd.prog 66 #[.int .i64 a, .int .i64 b] w fun e w' =>
    e = .returned (.tuple #[.int .i64 (upS a b), .int .i64 (downE a b)]) ∧ Below w.heap.size w w' := by
  have C := Lib.hid (ndown_any a b w)
  by_cases h : ff [a, b] = 0
  · obtain ⟨⟨a0, a1⟩, b0, b1⟩ := ff_pair_zero h
    by_cases hz : b = 0
    · rw [upS_zero h hz, downE_zero h hz]
      rw [downS_zero h hz, downE_zero h hz] at C
      clear h hz
      go_enter Tryd.func66, Tryd.ntmps66
      go_wp2_with fail
      refine C.out.mono ?_
      rintro e w' ⟨rfl, hb⟩
      go_wp2
      go_ret2
      exact ⟨rfl, hb⟩
    · have hd := div_bounds a0 a1 (b := b) (by omega)
      rw [downS_fine h hz, downE_fine h hz] at C
      by_cases h1 : a / b * b < a
      · rw [upS_more h hz h1, downE_fine h hz]
        obtain ⟨q, hq⟩ : ∃ q, q = a / b := ⟨_, rfl⟩
        rw [← hq] at C hd h1 ⊢
        obtain ⟨q0, q1, q2, q3, q4⟩ := hd
        clear h hz hq
        go_enter Tryd.func66, Tryd.ntmps66
        go_wp2_with fail
        refine C.out.mono ?_
        rintro e w' ⟨rfl, hb⟩
        go_wp2
        go_ret2
        exact ⟨rfl, hb⟩
      · rw [upS_even h hz h1, downE_fine h hz]
        obtain ⟨q, hq⟩ : ∃ q, q = a / b := ⟨_, rfl⟩
        rw [← hq] at C hd h1 ⊢
        obtain ⟨q0, q1, q2, q3, q4⟩ := hd
        clear h hz hq
        go_enter Tryd.func66, Tryd.ntmps66
        go_wp2_with fail
        refine C.out.mono ?_
        rintro e w' ⟨rfl, hb⟩
        go_wp2
        go_ret2
        exact ⟨rfl, hb⟩
  · rw [upS_bad h, downE_bad h]
    rw [downS_bad h, downE_bad h] at C
    obtain ⟨c, hc⟩ : ∃ c, c = ff [a, b] := ⟨_, rfl⟩
    rw [← hc] at C h ⊢
    have hb : (c == 0) = false := by simpa using h
    clear h hc
    go_enter Tryd.func66, Tryd.ntmps66
    go_wp2_with fail
    refine C.out.mono ?_
    rintro e w' ⟨rfl, hbel⟩
    go_wp2
    go_ret2
    exact ⟨rfl, hbel⟩
end Go.Proofs.YtohgdeddepfanaaDoor
