/- The walk of the law ClassShapes, in the seat YtfahabphncmbfaaGreatDoor (printed by class/mk_shapes.py). No statement is proved here. -/
import Derived.Test.YtfahabphncmbfaaGreatDoorZM26
import Derived.Test.YtfahabphncmbfaaGreatDoorZM22
set_option linter.unusedSimpArgs false
set_option linter.unusedVariables false
set_option linter.unusedSimpArgs false
namespace Go.Proofs.YtfahabphncmbfaaGreatDoor
open Go Go.RowKit

/-- The task in its box; two shapes in theirs. -/
structure BxSs (w : World) (s : Sh) (T : Task) (g : Nat) (u : Shp) (z : World) : Prop where
  b : Bx1D w s T z
  r : RowV g 67 [.int .i64 u.t, .int .i64 u.l, .int .i64 u.m, .int .i64 u.d, .int .i64 u.p] z
theorem BxSs.next {w : World} {s : Sh} {T : Task} {g : Nat} {u : Shp} {z z' : World} (h : BxSs w s T g u z) (hb : Below z.heap.size z z') : BxSs w s T g u z' := ⟨h.b.next hb, h.r.below hb h.r.lt⟩
theorem BxSs.cells {w : World} {s : Sh} {T : Task} {g : Nat} {u : Shp} {z : World} (h : BxSs w s T g u z) : (z.cell? ⟨g, 0, none⟩ = some (.int .i64 u.t) ∧ z.cell? ⟨g, 1, none⟩ = some (.int .i64 u.l)) ∧ z.cell? ⟨g, 2, none⟩ = some (.int .i64 u.m) ∧ z.cell? ⟨g, 3, none⟩ = some (.int .i64 u.d) ∧ z.cell? ⟨g, 4, none⟩ = some (.int .i64 u.p) :=
  ⟨⟨h.r.cell (j := 0) rfl, h.r.cell (j := 1) rfl⟩, h.r.cell (j := 2) rfl, h.r.cell (j := 3) rfl, h.r.cell (j := 4) rfl⟩
theorem BxSs.start {w : World} {s : Sh} {T : Task} {u : Shp} {z : World} (h : Bx1D w s T z) : BxSs w s T z.heap.size u (z.alloc (.cells #[.int .i64 u.t, .int .i64 u.l, .int .i64 u.m, .int .i64 u.d, .int .i64 u.p] 67)) := ⟨h.next (below_alloc _), RowV.new z _ _⟩
set_option maxRecDepth 100000 in
set_option maxHeartbeats 4000000 in
theorem shapes_many (w : World) (s : Sh) (T : Task) (hT : DTab w) (h : InD w s T) (f : ¬ FewD T) :
    Calls Tryz.prog 6 #[s.arg T.period T.deadline] w fun e w' => e = .returned (.bool true) ∧ Below w.heap.size w w' := by
  have HTW := Lib.hid (fun W (h : Below w.heap.size w W) => DTab.via hT h)
  have B0 := Lib.hid (Bx1T.start h.t)
  have F1 := Lib.hid f
  clear h hT f
  go_enter Tryz.func6, Tryz.ntmps6
  go_wp2_with fail
  refine (awake14_any _ (HTW.out _ B0.out.bel)).mono ?_
  rintro e w1 ⟨rfl, b1⟩
  have B1 := Lib.hid (B0.out.next b1)
  clear b1
  obtain ⟨c1, c2, c3, c4, c5, c6⟩ := B1.out.c
  go_wp2_with fail
  refine (few_n B1.out.t F1.out).mono ?_
  rintro e w2 ⟨rfl, b2⟩
  have B2 := Lib.hid (B1.out.next b2)
  clear b2 c1 c2 c3 c4 c5 c6
  go_wp2_with fail
  refine (awake14_any _ (HTW.out _ B2.out.bel)).mono ?_
  rintro e w3 ⟨rfl, b3⟩
  have B3 := Lib.hid (B2.out.next b3)
  clear b3
  go_wp2_with fail
  go_ret
  exact ⟨rfl, B3.out.bel⟩
set_option maxRecDepth 100000 in
set_option maxHeartbeats 16000000 in
theorem shapes_few (w : World) (s : Sh) (T : Task) (hT : DTab w) (h : InD w s T) (f : FewD T) :
    Calls Tryz.prog 6 #[s.arg T.period T.deadline] w fun e w' => e = .returned (.bool true) ∧ Below w.heap.size w w' := by
  have HTW := Lib.hid (fun W (h : Below w.heap.size w W) => DTab.via hT h)
  have B0 := Lib.hid ((Bx1T.start h.t).few h hT f)
  have F1 := Lib.hid f
  clear h hT f
  obtain ⟨P, np, pc, E, ne, ec, F, nf, fc, R, nr, rc⟩ := s
  obtain ⟨x, hx⟩ : ∃ r, r = lowX T := ⟨_, rfl⟩
  obtain ⟨u, hu⟩ : ∃ r, r = shapeT T := ⟨_, rfl⟩
  have CL := Lib.hid (fun W s (h : IsD W s T) => cshape_any s T W h)
  have CR := Lib.hid (fun W s (h : IsD W s T) => rshape_any s T W h)
  have HCH := Lib.hid (fun W (b : Below w.heap.size w W) => clcheck_any u W (HTW.out W b))
  have HOK := Lib.hid (fun (h : x = 0) => (show u.Ok by rw [hu]; exact shape_ok (lowX_zero.mp (hx ▸ h))))
  rw [← hx, ← hu] at CL CR
  clear hx hu
  obtain ⟨ut, ul, um, ud, up⟩ := u
  have EQ := shp_eql_self ut ul um ud up
  have EG := fun o1 o2 xs ys W => shp_guard .eql o1 o2 xs ys W
  unfold Shp.val at CL CR HCH
  dsimp only at CL CR HCH
  by_cases h0 : x = 0
  · subst h0
    have hok := HOK.out rfl
    rw [chkS_ok hok] at HCH
    clear hok HOK
    go_enter Tryz.func6, Tryz.ntmps6
    go_wp2_with fail
    refine (awake14_any _ (HTW.out _ B0.out.bel)).mono ?_
    rintro e w1 ⟨rfl, b1⟩
    have B1 := Lib.hid (B0.out.next b1)
    clear b1
    obtain ⟨c1, c2, c3, c4, c5, c6⟩ := B1.out.c
    go_wp2_with fail
    refine (few_d B1.out.d.t F1.out).mono ?_
    rintro e w2 ⟨rfl, b2⟩
    have B2 := Lib.hid (B1.out.next b2)
    clear b2 c1 c2 c3 c4 c5 c6
    obtain ⟨c1, c2, c3, c4, c5, c6⟩ := B2.out.c
    go_wp2_with fail
    refine (own_d B2.out.d).mono ?_
    rintro e w3 ⟨s', rfl, hs', b3⟩
    have B3 := Lib.hid (B2.out.next b3)
    have HS := Lib.hid hs'
    clear b3 hs' c1 c2 c3 c4 c5 c6
    go_wp2_with fail
    refine (CL.out _ _ HS.out).mono ?_
    rintro e w4 ⟨rfl, b4⟩
    obtain ⟨w5, hw5⟩ : ∃ w5, w5 = w4.alloc (.cells #[.int .i64 ut, .int .i64 ul, .int .i64 um, .int .i64 ud, .int .i64 up] 67) := ⟨_, rfl⟩
    have hBL := BxSs.start (u := ⟨ut, ul, um, ud, up⟩) (B3.out.next b4)
    dsimp only at hBL
    rw [← hw5] at hBL
    have HW := Lib.hid hw5
    have B5 := Lib.hid hBL
    obtain ⟨c1, c2, c3, c4, c5, c6⟩ := hBL.b.c
    rw [hw5] at c1 c2 c3 c4 c5 c6
    clear hw5 hBL b4 B0 B1 B2 B3 CL HS F1
    simp only at c1 c2 c3 c4 c5 c6
    go_wp2_with fail
    rw [← HW.out]
    clear HW c1 c2 c3 c4 c5 c6
    refine (CR.out _ _ B5.out.b.d).mono ?_
    rintro e w6 ⟨rfl, b7⟩
    obtain ⟨w7, hw7⟩ : ∃ w7, w7 = w6.alloc (.cells #[.int .i64 ut, .int .i64 ul, .int .i64 um, .int .i64 ud, .int .i64 up] 67) := ⟨_, rfl⟩
    have hBM := BxSs.start (u := ⟨ut, ul, um, ud, up⟩) ((B5.out.next b7).b)
    dsimp only at hBM
    have hB7 := (B5.out.next b7).next (below_alloc (.cells #[.int .i64 ut, .int .i64 ul, .int .i64 um, .int .i64 ud, .int .i64 up] 67))
    obtain ⟨⟨e0, e1⟩, e2, e3, e4⟩ := hBM.cells
    obtain ⟨⟨d0, d1⟩, d2, d3, d4⟩ := hB7.cells
    dsimp only at e0 e1 e2 e3 e4 d0 d1 d2 d3 d4
    have B7 := Lib.hid hB7
    clear hw7 hBM hB7 b7 B5 CR
    go_wp2_with fail
    clear e0 e1 e2 e3 e4 d0 d1 d2 d3 d4
    refine (HCH.out _ B7.out.b.bel).mono ?_
    rintro e w8 ⟨rfl, b8⟩
    have B8 := Lib.hid (B7.out.b.next b8)
    clear b8
    go_wp2
    go_ret
    exact ⟨rfl, B8.out.bel⟩
  · have h0b : (x != 0) = true := bne_iff_ne.mpr h0
    have h0c : (x == 0) = false := by simpa using h0
    clear HOK HCH
    go_enter Tryz.func6, Tryz.ntmps6
    go_wp2_with fail
    refine (awake14_any _ (HTW.out _ B0.out.bel)).mono ?_
    rintro e w1 ⟨rfl, b1⟩
    have B1 := Lib.hid (B0.out.next b1)
    clear b1
    obtain ⟨c1, c2, c3, c4, c5, c6⟩ := B1.out.c
    go_wp2_with fail
    refine (few_d B1.out.d.t F1.out).mono ?_
    rintro e w2 ⟨rfl, b2⟩
    have B2 := Lib.hid (B1.out.next b2)
    clear b2 c1 c2 c3 c4 c5 c6
    obtain ⟨c1, c2, c3, c4, c5, c6⟩ := B2.out.c
    go_wp2_with fail
    refine (own_d B2.out.d).mono ?_
    rintro e w3 ⟨s', rfl, hs', b3⟩
    have B3 := Lib.hid (B2.out.next b3)
    have HS := Lib.hid hs'
    clear b3 hs' c1 c2 c3 c4 c5 c6
    go_wp2_with fail
    refine (CL.out _ _ HS.out).mono ?_
    rintro e w4 ⟨rfl, b4⟩
    obtain ⟨w5, hw5⟩ : ∃ w5, w5 = w4.alloc (.cells #[.int .i64 ut, .int .i64 ul, .int .i64 um, .int .i64 ud, .int .i64 up] 67) := ⟨_, rfl⟩
    have hBL := BxSs.start (u := ⟨ut, ul, um, ud, up⟩) (B3.out.next b4)
    dsimp only at hBL
    rw [← hw5] at hBL
    have HW := Lib.hid hw5
    have B5 := Lib.hid hBL
    obtain ⟨c1, c2, c3, c4, c5, c6⟩ := hBL.b.c
    rw [hw5] at c1 c2 c3 c4 c5 c6
    clear hw5 hBL b4 B0 B1 B2 B3 CL HS F1
    simp only at c1 c2 c3 c4 c5 c6
    go_wp2_with fail
    rw [← HW.out]
    clear HW c1 c2 c3 c4 c5 c6
    refine (CR.out _ _ B5.out.b.d).mono ?_
    rintro e w6 ⟨rfl, b7⟩
    obtain ⟨w7, hw7⟩ : ∃ w7, w7 = w6.alloc (.cells #[.int .i64 ut, .int .i64 ul, .int .i64 um, .int .i64 ud, .int .i64 up] 67) := ⟨_, rfl⟩
    have hBM := BxSs.start (u := ⟨ut, ul, um, ud, up⟩) ((B5.out.next b7).b)
    dsimp only at hBM
    have hB7 := (B5.out.next b7).next (below_alloc (.cells #[.int .i64 ut, .int .i64 ul, .int .i64 um, .int .i64 ud, .int .i64 up] 67))
    obtain ⟨⟨e0, e1⟩, e2, e3, e4⟩ := hBM.cells
    obtain ⟨⟨d0, d1⟩, d2, d3, d4⟩ := hB7.cells
    dsimp only at e0 e1 e2 e3 e4 d0 d1 d2 d3 d4
    have B7 := Lib.hid hB7
    clear hw7 hBM hB7 b7 B5 CR
    go_wp2
    go_ret
    exact ⟨rfl, B7.out.b.bel⟩
theorem walk_ClassShapes (w : World) {s : Sh} {T : Task} (h : InD w s T) (hT : DTab w) :
    Calls Tryz.prog 6 #[s.arg T.period T.deadline] w fun e w' => e = .returned (.bool true) ∧ Below w.heap.size w w' := by
  by_cases f : FewD T
  · exact shapes_few w s T hT h f
  · exact shapes_many w s T hT h f
end Go.Proofs.YtfahabphncmbfaaGreatDoor
