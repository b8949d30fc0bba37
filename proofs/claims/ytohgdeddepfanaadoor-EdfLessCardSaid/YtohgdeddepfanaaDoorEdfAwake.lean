/- The contract of awake of trefoillaw15, in the seat YtohgdeddepfanaaDoor. No statement is proved here. -/
import Derived.Test.YtohgdeddepfanaaDoorEdfFits
set_option linter.unusedVariables false
set_option linter.unusedSimpArgs false
namespace Go.Proofs.YtohgdeddepfanaaDoor
open Go Go.RowKit

theorem Shps.of_row {w : World} {g : Nat} {t : TypeId} {es : List Shp} (h : RowV g t (flatS es) w) : Shps w w.heap.size (some ⟨g, 0, none⟩) es := fun _ => by
  refine ⟨g, 0, rfl, h.lt, fun k e he => ?_⟩
  have cc : ∀ j, j < 5 → ∀ u, (shpC e)[j]? = some u → w.cell? ⟨g, 0 + k * 5 + j, none⟩ = some u := fun j hj u hu => by
    rw [Nat.zero_add]
    exact h.cell ((flatS_at he j hj).trans hu)
  exact ⟨⟨cc 0 (by decide) _ rfl, cc 1 (by decide) _ rfl⟩, cc 2 (by decide) _ rfl, cc 3 (by decide) _ rfl, cc 4 (by decide) _ rfl⟩
theorem RowV.shps_via {w W : World} {g : Nat} {t : TypeId} {es : List Shp} (h : RowV g t (flatS es) w) (b : Below w.heap.size w W) : Shps W W.heap.size (some ⟨g, 0, none⟩) es := Shps.of_row (h.below b h.lt)
def exL : List Shp := [⟨2, 2, 2, 4, 4⟩, ⟨4, 4, 2, 8, 8⟩]
def exM : List Shp := [⟨2, 2, 2, 4, 4⟩, ⟨4, 4, 3, 8, 8⟩]
theorem exL_may : MayE exL := by decide
theorem exM_may : MayE exM := by decide
theorem exL_hor : horE exL = 8 := by decide
theorem exM_hor : horE exM = 8 := by decide
theorem exL_fit : FitE exL := by
  refine ⟨exL_may, fun t h1 h2 => ?_⟩
  rw [exL_hor] at h2
  have : t = 1 ∨ t = 2 ∨ t = 3 ∨ t = 4 ∨ t = 5 ∨ t = 6 ∨ t = 7 ∨ t = 8 := by omega
  unfold AtE
  rcases this with rfl | rfl | rfl | rfl | rfl | rfl | rfl | rfl <;> decide
theorem exM_fit : ¬ FitE exM := fun h => by
  have := h.2 4 (by decide) (by rw [exM_hor]; decide)
  unfold AtE at this
  revert this
  decide
theorem nil_may : MayE [] := by decide
theorem nil_fit : FitE [] := ⟨nil_may, fun t h1 h2 => .inl rfl⟩
theorem exL_at : atE exL 8 = 0 ∧ atE exL 4 = 0 ∧ atE exL (-1) = 151 ∧ demV exL 8 = 8 ∧ blkV exL 4 = 2 ∧ demV exL (-1) = 0 := by decide
set_option maxRecDepth 100000 in
set_option maxHeartbeats 16000000 in
theorem awake15_any (w : World) (hT : DTab w) : Calls Tryd.prog 9 #[] w fun e w' => e = .returned (.bool true) ∧ Below w.heap.size w w' := by
  have TT := Lib.hid (fun W (b : Below w.heap.size w W) => (hT.via b : DTab W))
  clear hT
  obtain ⟨e1, e2, e3, e4, e5, e6⟩ := exL_at
  have KD1 := Lib.hid (fun A c W h1 (h2 : Shps W W.heap.size A exL) => eDemand_any (A := A) (n := 2) (c := c) (es := exL) 8 W h1 rfl (by decide) h2)
  have KD2 := Lib.hid (fun A c W h1 (h2 : Shps W W.heap.size A exL) => eDemand_any (A := A) (n := 2) (c := c) (es := exL) (-1) W h1 rfl (by decide) h2)
  have KB := Lib.hid (fun A c W h1 (h2 : Shps W W.heap.size A exL) => eBlock_any (A := A) (n := 2) (c := c) (es := exL) 4 W h1 rfl (by decide) h2)
  have KF1 := Lib.hid (fun A c W h1 (h2 : Shps W W.heap.size A exL) => efits_any (A := A) (n := 2) (c := c) (es := exL) true ⟨fun _ => exL_fit, fun _ => rfl⟩ W h1 rfl (by decide) h2)
  have KF2 := Lib.hid (fun A c W h1 (h2 : Shps W W.heap.size A exM) => efits_any (A := A) (n := 2) (c := c) (es := exM) false ⟨fun q => Bool.noConfusion q, fun q => absurd q exM_fit⟩ W h1 rfl (by decide) h2)
  have KF3 := Lib.hid (fun A c W h1 => efits_any (A := A) (n := 0) (c := c) (es := []) true ⟨fun _ => nil_fit, fun _ => rfl⟩ W h1 rfl (by decide) (Shps.nil _ _ _))
  have KC := Lib.hid (fun A c W h1 (h2 : Shps W W.heap.size A exM) => echeck_any (A := A) (n := 2) (c := c) (es := exM) W h1 rfl (by decide) h2)
  have KH := Lib.hid (fun A c W h1 (h2 : Shps W W.heap.size A exL) => ehor_any (A := A) (n := 2) (c := c) (es := exL) W h1 rfl (by decide) h2)
  rw [e1, e4] at KD1
  rw [e3, e6] at KD2
  rw [e2, e5] at KB
  rw [chkE_ok exM_may] at KC
  rw [exL_hor] at KH
  clear e1 e2 e3 e4 e5 e6
  obtain ⟨w1, hw1⟩ : ∃ w1, w1 = w.alloc (.cells #[.int .i64 2, .int .i64 2, .int .i64 2, .int .i64 4, .int .i64 4, .int .i64 4, .int .i64 4, .int .i64 2, .int .i64 8, .int .i64 8] 34) := ⟨_, rfl⟩
  obtain ⟨w2, hw2⟩ : ∃ w2, w2 = w1.alloc (.cells #[.int .i64 2, .int .i64 2, .int .i64 2, .int .i64 4, .int .i64 4, .int .i64 4, .int .i64 4, .int .i64 3, .int .i64 8, .int .i64 8] 34) := ⟨_, rfl⟩
  have r1 : RowV w.heap.size 34 (flatS exL) w1 := by rw [hw1]; exact RowV.new w 34 (flatS exL)
  have r2 : RowV w1.heap.size 34 (flatS exM) w2 := by rw [hw2]; exact RowV.new w1 34 (flatS exM)
  have b1 : Below w.heap.size w w1 := by rw [hw1]; exact below_alloc _
  have b12 : Below w1.heap.size w1 w2 := by rw [hw2]; exact below_alloc _
  have hs1 : w1.heap.size = w.heap.size + 1 := by rw [hw1]; simp
  have L1 := Lib.hid (fun W (b : Below w2.heap.size w2 W) => r1.shps_via (b12.trans (b.mono b12.size)))
  have M1 := Lib.hid (fun W (b : Below w2.heap.size w2 W) => r2.shps_via b)
  have B0 := Lib.hid (b1.trans (b12.mono b1.size))
  rw [hs1] at M1
  have HW : Hid (w2 = (w.alloc (.cells #[.int .i64 2, .int .i64 2, .int .i64 2, .int .i64 4, .int .i64 4, .int .i64 4, .int .i64 4, .int .i64 2, .int .i64 8, .int .i64 8] 34)).alloc (.cells #[.int .i64 2, .int .i64 2, .int .i64 2, .int .i64 4, .int .i64 4, .int .i64 4, .int .i64 4, .int .i64 3, .int .i64 8, .int .i64 8] 34)) := Lib.hid (by rw [hw2, hw1])
  clear r1 r2 b1 b12 hs1 hw2 hw1
  have BB := Lib.hid (Below.refl w2.heap.size w2)
  go_enter Tryd.func9, Tryd.ntmps9
  go_wp2_with fail
  rw [← HW.out]
  refine (KD1.out _ _ _ (TT.out _ (B0.out.trans (BB.out.mono B0.out.size))) (L1.out _ BB.out)).mono ?_
  rintro e w3 ⟨rfl, b⟩
  have BB := Lib.hid (BB.out.trans (b.mono BB.out.size))
  clear b KD1
  go_wp2_with fail
  refine (KB.out _ _ _ (TT.out _ (B0.out.trans (BB.out.mono B0.out.size))) (L1.out _ BB.out)).mono ?_
  rintro e w4 ⟨rfl, b⟩
  have BB := Lib.hid (BB.out.trans (b.mono BB.out.size))
  clear b KB
  go_wp2_with fail
  refine (KD2.out _ _ _ (TT.out _ (B0.out.trans (BB.out.mono B0.out.size))) (L1.out _ BB.out)).mono ?_
  rintro e w5 ⟨rfl, b⟩
  have BB := Lib.hid (BB.out.trans (b.mono BB.out.size))
  clear b KD2
  go_wp2_with fail
  refine (KF1.out _ _ _ (TT.out _ (B0.out.trans (BB.out.mono B0.out.size))) (L1.out _ BB.out)).mono ?_
  rintro e w6 ⟨rfl, b⟩
  have BB := Lib.hid (BB.out.trans (b.mono BB.out.size))
  clear b KF1
  go_wp2_with fail
  refine (KF2.out _ _ _ (TT.out _ (B0.out.trans (BB.out.mono B0.out.size))) (M1.out _ BB.out)).mono ?_
  rintro e w7 ⟨rfl, b⟩
  have BB := Lib.hid (BB.out.trans (b.mono BB.out.size))
  clear b KF2
  go_wp2_with fail
  refine (KC.out _ _ _ (TT.out _ (B0.out.trans (BB.out.mono B0.out.size))) (M1.out _ BB.out)).mono ?_
  rintro e w8 ⟨rfl, b⟩
  have BB := Lib.hid (BB.out.trans (b.mono BB.out.size))
  clear b KC
  go_wp2_with fail
  refine (KH.out _ _ _ (TT.out _ (B0.out.trans (BB.out.mono B0.out.size))) (L1.out _ BB.out)).mono ?_
  rintro e w9 ⟨rfl, b⟩
  have BB := Lib.hid (BB.out.trans (b.mono BB.out.size))
  clear b KH
  go_wp2_with fail
  refine (KF3.out _ _ _ (TT.out _ (B0.out.trans (BB.out.mono B0.out.size)))).mono ?_
  rintro e w10 ⟨rfl, b⟩
  have BB := Lib.hid (BB.out.trans (b.mono BB.out.size))
  clear b KF3
  go_wp2
  go_ret
  exact ⟨rfl, B0.out.trans (BB.out.mono B0.out.size)⟩
end Go.Proofs.YtohgdeddepfanaaDoor
