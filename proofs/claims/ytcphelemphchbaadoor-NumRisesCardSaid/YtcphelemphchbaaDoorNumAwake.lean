/- The contract of awake (what the chapter's examples fix) of trefoillaw01 in the seat YtcphelemphchbaaDoor: it answers true. No statement is proved here. -/
import Derived.Test.YtcphelemphchbaaDoorNumCode
import Derived.Test.YtcphelemphchbaaDoorNumAdd
import Derived.Test.YtcphelemphchbaaDoorNumTwo
namespace Go.Proofs.YtcphelemphchbaaDoor
open Go.RowKit

theorem cell_lt {w : World} {b off : Nat} {v : Value} (h : w.cell? ⟨b, off, none⟩ = some v) : b < w.heap.size := by
  rcases Nat.lt_or_ge b w.heap.size with hlt | hge
  · exact hlt
  · unfold World.cell? at h
    simp [Array.getElem?_eq_none hge] at h
theorem Tab64.lt {w : World} (h : Tab64 w) : 1 < w.heap.size := cell_lt (h 0 (by decide))
theorem add_new2 (a b : Int) (w : World) : Calls Tryd.prog 11 #[.slice (some ⟨w.heap.size, 0, none⟩) 2 2] (w.alloc (.cells #[.int .i64 a, .int .i64 b] 3)) fun e w' =>
    e = .returned (.tuple #[.int .i64 (addS [a, b]), .int .i64 (addE [a, b])]) ∧ Below w.heap.size w w' :=
  (add_any (some ⟨w.heap.size, 0, none⟩) 2 [a, b] (w.alloc (.cells #[.int .i64 a, .int .i64 b] 3)) (by simp) ((Ints.new2 w _ a b).more (by simp))).mono
    fun _ _ ⟨he, hb⟩ => ⟨he, (below_alloc _).trans (hb.mono (by simp))⟩
theorem add_new3 (a b c : Int) (w : World) : Calls Tryd.prog 11 #[.slice (some ⟨w.heap.size, 0, none⟩) 3 3] (w.alloc (.cells #[.int .i64 a, .int .i64 b, .int .i64 c] 3)) fun e w' =>
    e = .returned (.tuple #[.int .i64 (addS [a, b, c]), .int .i64 (addE [a, b, c])]) ∧ Below w.heap.size w w' :=
  (add_any (some ⟨w.heap.size, 0, none⟩) 3 [a, b, c] (w.alloc (.cells #[.int .i64 a, .int .i64 b, .int .i64 c] 3)) (by simp) ((Ints.new3 w _ a b c).more (by simp))).mono
    fun _ _ ⟨he, hb⟩ => ⟨he, (below_alloc _).trans (hb.mono (by simp))⟩

theorem awake_any (w : World) (hT : Tab64 w) :
    Calls Tryd.prog 10 #[] w fun e w' => e = .returned (.bool true) ∧ Below w.heap.size w w' := by
  have HT := Lib.hid hT
  clear hT
  have c1 : chk (-1) = 10 := by decide
  have c2 : chk 1 = 0 := by decide
  have d1 : downS 7 2 = 3 := by decide
  have d2 : downE 7 2 = 0 := by decide
  have d3 : upS 7 2 = 4 := by decide
  have d4 : addE [549755813888, 549755813888] = 11 := by decide
  have d5 : addS [1, 2, 3] = 6 := by decide
  have d6 : addE [1, 2, 3] = 0 := by decide
  have d7 : mulS 6 7 = 42 := by decide
  have d8 : mulE 6 7 = 0 := by decide
  have d9 : subS 5 3 = 2 := by decide
  have d0 : subE 5 3 = 0 := by decide
  go_enter Tryd.func10, Tryd.ntmps10
  go_wp2_with fail
  refine (down_any 7 2 _).mono ?_
  rintro e w1 ⟨rfl, b1⟩
  go_wp2_with fail
  refine (up_any 7 2 _).mono ?_
  rintro e w2 ⟨rfl, b2⟩
  go_wp2_with fail
  refine (add_new2 549755813888 549755813888 _).mono ?_
  rintro e w3 ⟨rfl, b3⟩
  go_wp2_with fail
  refine (add_new3 1 2 3 _).mono ?_
  rintro e w4 ⟨rfl, b4⟩
  go_wp2_with fail
  refine (mul_any 6 7 _).mono ?_
  rintro e w5 ⟨rfl, b5⟩
  go_wp2_with fail
  refine (sub_any 5 3 _).mono ?_
  rintro e w6 ⟨rfl, b6⟩
  have B1 := b1
  have B2 := B1.trans (b2.mono B1.size)
  have B3 := B2.trans (b3.mono B2.size)
  have B4 := B3.trans (b4.mono B3.size)
  have B5 := B4.trans (b5.mono B4.size)
  have B6 := B5.trans (b6.mono B5.size)
  have HT6 := Lib.hid (HT.out.below B6 HT.out.lt)
  clear b1 b2 b3 b4 b5 b6 B1 B2 B3 B4 B5
  go_wp2_with fail
  refine (two_yes 3 (by omega) _ HT6.out).mono ?_
  rintro e w7 ⟨rfl, rfl⟩
  go_wp2_with (go_at_call 19; refine (check_any _ _).mono ?_; rintro e w' ⟨rfl, rfl⟩)
  go_ret
  exact ⟨rfl, B6⟩
end Go.Proofs.YtcphelemphchbaaDoor
