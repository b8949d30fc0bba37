/- The walk of the law EdfAlone, in the seat YtohgdeddepfanaaDoor (printed by edf/mk_alone.py). No statement is proved here. -/
import Derived.Test.YtohgdeddepfanaaDoorEdfAwake
import Derived.Test.YtohgdeddepfanaaDoorFacts
import Derived.Test.YtohgdeddepfanaaDoorFxMake
set_option linter.unusedVariables false
set_option linter.unusedSimpArgs false
namespace Go.Proofs.YtohgdeddepfanaaDoor
open Go Go.RowKit

/-- The shape lies in a box, and alone in a slice. -/
structure AlE (w0 : World) (s : Shp) (g : Nat) (z : World) : Prop where
  box : Rwk w0 [(34, shpC s)] z
  own : RowV g 34 (flatS [s]) z
section
variable {w0 : World} {s : Shp} {g : Nat} {z z' : World}
theorem AlE.next (h : AlE w0 s g z) (hb : Below z.heap.size z z') : AlE w0 s g z' := ⟨h.box.next hb, h.own.below hb h.own.lt⟩
theorem AlE.bel (h : AlE w0 s g z) : Below w0.heap.size w0 z := h.box.bel
theorem AlE.one (h : AlE w0 s g z) : Shps z z.heap.size (some ⟨g, 0, none⟩) [s] := Shps.of_row h.own
theorem AlE.c0 (h : AlE w0 s g z) : z.cell? ⟨w0.heap.size, 0, none⟩ = some (.int .i64 s.t) := h.box.cell 0 0 rfl rfl
theorem AlE.c1 (h : AlE w0 s g z) : z.cell? ⟨w0.heap.size, 1, none⟩ = some (.int .i64 s.l) := h.box.cell 0 1 rfl rfl
theorem AlE.c2 (h : AlE w0 s g z) : z.cell? ⟨w0.heap.size, 2, none⟩ = some (.int .i64 s.m) := h.box.cell 0 2 rfl rfl
theorem AlE.c3 (h : AlE w0 s g z) : z.cell? ⟨w0.heap.size, 3, none⟩ = some (.int .i64 s.d) := h.box.cell 0 3 rfl rfl
theorem AlE.c4 (h : AlE w0 s g z) : z.cell? ⟨w0.heap.size, 4, none⟩ = some (.int .i64 s.p) := h.box.cell 0 4 rfl rfl
end
def PhiAl (w0 : World) (s : Shp) (g : Nat) (r : Bool) : Nat → Value → World → Prop
  | 0, v, w => v = (.slice (some ⟨g, 0, none⟩) 1 1)
  | 1, v, w => v = .bool true
  | 2, v, w => v = .bool true
  | 3, v, w => v = .int .i64 s.t
  | 4, v, w => v = .pointer (some ⟨w0.heap.size, 0, none⟩)
  | 5, v, w => v = .int .i64 s.t
  | 6, v, w => v = .bool true
  | 7, v, w => v = .bool true
  | 8, v, w => v = .bool true
  | 9, v, w => v = .int .i64 0
  | 10, v, w => v = .bool true
  | 11, v, w => v = .bool true
  | 12, v, w => v = .bool true
  | 13, v, w => v = s.val
  | 14, v, w => v = s.val
  | 15, v, w => ∃ b, v = .slice (some ⟨b, 0, none⟩) 2 2 ∧ RowV b 34 (flatS [s, s]) w
  | 16, v, w => v = .bool r
  | 17, v, w => v = .pointer (some ⟨w0.heap.size, 0, none⟩)
  | 18, v, w => v = .int .i64 s.t
  | 19, v, w => v = .int .i64 (2 * s.t)
  | 20, v, w => v = .pointer (some ⟨w0.heap.size, 3, none⟩)
  | 21, v, w => v = .int .i64 s.d
  | 22, v, w => v = .bool r
  | 23, v, w => v = .bool true
  | 24, v, w => v = .bool true
  | 25, v, w => v = .bool true
  | _, _, _ => True
theorem phiAl_below (w0 : World) (s : Shp) (g : Nat) (r : Bool) : ∀ kq v w w', PhiAl w0 s g r kq v w → Below w.heap.size w w' → PhiAl w0 s g r kq v w' := by
  intro kq v w w' h hb
  match kq, h with
  | 0, h => exact h
  | 1, h => exact h
  | 2, h => exact h
  | 3, h => exact h
  | 4, h => exact h
  | 5, h => exact h
  | 6, h => exact h
  | 7, h => exact h
  | 8, h => exact h
  | 9, h => exact h
  | 10, h => exact h
  | 11, h => exact h
  | 12, h => exact h
  | 13, h => exact h
  | 14, h => exact h
  | 15, h => exact (by obtain ⟨b, e, hr⟩ := h; exact ⟨b, e, hr.below hb hr.lt⟩)
  | 16, h => exact h
  | 17, h => exact h
  | 18, h => exact h
  | 19, h => exact h
  | 20, h => exact h
  | 21, h => exact h
  | 22, h => exact h
  | 23, h => exact h
  | 24, h => exact h
  | 25, h => exact h
  | kq + 26, h => exact trivial
theorem may_one {s : Shp} : MayE [s] ↔ LightS s := ⟨fun h => h.2 s (by simp), fun h => ⟨by simp, fun x hx => by rw [List.mem_singleton.mp hx]; exact h⟩⟩
set_option maxRecDepth 100000 in
set_option maxHeartbeats 32000000 in
theorem walk_EdfAlone (w0 : World) (s : Shp) (hT : DTab w0) : Calls Tryd.prog 7 #[s.val] w0 fun e w' => e = .returned (.bool true) ∧ Below w0.heap.size w0 w' := by
  have TT := Lib.hid (fun W (b : Below w0.heap.size w0 W) => (hT.via b : DTab W))
  clear hT
  have AW := Lib.hid (fun W (b : Below w0.heap.size w0 W) => awake15_any W (TT.out W b))
  have B := Lib.hid (Rwk.start w0 [(34, [.int .i64 s.t, .int .i64 s.l, .int .i64 s.m, .int .i64 s.d, .int .i64 s.p])])
  have KC := Lib.hid (fun A c W h1 (h2 : Shps W W.heap.size A [s]) => echeck_any (A := A) (n := 1) (c := c) (es := [s]) W h1 rfl (by decide) h2)
  have MK := Lib.hid (fun (W : World) (hB : Rwk w0 [(34, [.int .i64 s.t, .int .i64 s.l, .int .i64 s.m, .int .i64 s.d, .int .i64 s.p])] W) => (⟨hB.next (below_alloc _), RowV.new W 34 (flatS [s])⟩ : AlE w0 s W.heap.size (W.alloc (.cells #[.int .i64 s.t, .int .i64 s.l, .int .i64 s.m, .int .i64 s.d, .int .i64 s.p] 34))))
  by_cases hL : LightS s
  · have hM := may_one.mpr hL
    rw [chkE_ok hM] at KC
    obtain ⟨n1, n2, n3, n4, n5, n6, n7⟩ := hL.nums
    have KF1 := Lib.hid (fun A c W h1 (h2 : Shps W W.heap.size A [s]) => efits_any (A := A) (n := 1) (c := c) (es := [s]) true ⟨fun _ => fit_alone hL, fun _ => rfl⟩ W h1 rfl (by decide) h2)
    obtain ⟨r, hr⟩ : ∃ r, r = decide (2 * s.t ≤ s.d) := ⟨_, rfl⟩
    have KF2 := Lib.hid (fun A c W h1 (h2 : Shps W W.heap.size A [s, s]) => efits_any (A := A) (n := 2) (c := c) (es := [s, s]) r (by rw [hr, decide_eq_true_iff]; exact (fit_two hL).symm) W h1 rfl (by decide) h2)
    have KD := Lib.hid (fun A c W h1 (h2 : Shps W W.heap.size A [s]) => eDemand_any (A := A) (n := 1) (c := c) (es := [s]) s.d W h1 rfl (by decide) h2)
    have ea : atE [s] s.d = 0 := atE_may hM (by omega) (by omega)
    have ed : demV [s] s.d = s.t := (if_pos ea).trans (dem_at hL)
    rw [ea, ed] at KD
    have NR := Lib.hid hr.symm
    have NB := Lib.hid (show IntKind.i64.wrap (2 * s.t) = 2 * s.t from IntWalk.i64_in _ (by omega))
    clear ea ed hr hM hL n1 n2 n3 n4 n5 n6 n7
    unfold Shp.val
    go_enter Tryd.func7, Tryd.ntmps7
    go_wp2_with fail
    refine (AW.out _ B.out.bel).mono ?_
    rintro e w1 ⟨rfl, b⟩
    have B := Lib.hid (B.out.next b)
    clear b
    obtain ⟨⟨c0, c1⟩, c2, c3, c4⟩ := shp_cells B.out
    have R := Lib.hid (MK.out _ B.out)
    obtain ⟨g, hg⟩ : ∃ g, g = w1.heap.size := ⟨_, rfl⟩
    obtain ⟨w2, hw2⟩ : ∃ w2, w2 = w1.alloc (.cells #[.int .i64 s.t, .int .i64 s.l, .int .i64 s.m, .int .i64 s.d, .int .i64 s.p] 34) := ⟨_, rfl⟩
    rw [← hw2, ← hg] at R
    have HW := Lib.hid hw2
    have HG := Lib.hid hg
    clear hw2 hg
    go_wp2_with fail
    rw [← HW.out, ← HG.out]
    clear c0 c1 c2 c3 c4
    refine (KC.out _ _ _ (TT.out _ R.out.bel) R.out.one).mono ?_
    rintro e w3 ⟨rfl, b⟩
    have R := Lib.hid (R.out.next b)
    clear b HW
    have c3 := R.out.c3
    go_wp2_with fail
    refine (KD.out _ _ _ (TT.out _ R.out.bel) R.out.one).mono ?_
    rintro e w4 ⟨rfl, b⟩
    have R := Lib.hid (R.out.next b)
    clear b c3
    go_wp2_with fail
    refine wp_region_facts' [23, 24, 25, 26, 27, 28, 29, 30, 31, 32, 33, 34, 35, 36, 37, 38, 39, 40, 41, 42, 43, 44, 45, 46, 47, 2] [] [(2, true), (8, true), (12, true)] (by kernel_rfl) (by kernel_rfl) (by kernel_rfl) (by intro d hd; simp at hd ⊢; omega) (fun z => AlE w0 s g z) (PhiAl w0 s g r)
      (fun z z' h hb => h.next hb) (phiAl_below w0 s g r) (R.out.next (Below.refl _ _).drew) (fun p hp v w hv => by
        simp only [List.mem_cons, List.not_mem_nil, or_false] at hp
        rcases hp with rfl | rfl | rfl <;> exact hv) (fun kq hkq => by simp at hkq) ?hstep ?hend
    case hstep =>
      intro kq o ho hw a w hI hA hd K hK
      obtain ⟨ρ, hρ⟩ : ∃ ρ, a.eval = ρ := ⟨_, rfl⟩
      rw [hρ] at hA hd
      match kq, ho with
      | 0, ho =>
        have hoo := Option.some.inj ho
        subst hoo
        exact fx_val hK hρ ((.slice (some ⟨g, 0, none⟩) 1 1)) (by have h := hA.tmp 3 (by decide); simp [execOp, h, go_sem]) rfl
      | 1, ho =>
        have hoo := Option.some.inj ho
        subst hoo
        have f0 : (ρ (.tmp 23)) = (.slice (some ⟨g, 0, none⟩) 1 1) := hd ⟨0, .data⟩ (by simp) (by rfl)
        exact fx_call hK hρ 19 _ _ #[.slice (some ⟨g, 0, none⟩) 1 1] rfl (by simp only [List.map_toArray, List.map_cons, List.map_nil, hA.const, f0]) (eg_of Tryd.func19 (by kernel_rfl) rfl) ((KF1.out _ _ w (TT.out w hI.bel) (hI.one)).mono fun e w' ⟨he, hb⟩ => ⟨_, he, rfl, hb⟩)
      | 2, ho =>
        have hoo := Option.some.inj ho
        subst hoo
        have f1 : (ρ (.tmp 24)) = .bool true := hd ⟨1, .data⟩ (by simp) (by rfl)
        exact fx_val hK hρ (.bool true) (by simp [execOp, f1, hA.const, go_sem]) rfl
      | 3, ho =>
        have hoo := Option.some.inj ho
        subst hoo
        exact fx_val hK hρ (.int .i64 s.t) (by have h := hA.tmp 4 (by decide); simp [execOp, h, go_sem]) rfl
      | 4, ho =>
        have hoo := Option.some.inj ho
        subst hoo
        exact fx_val hK hρ (.pointer (some ⟨w0.heap.size, 0, none⟩)) (by have h := hA.tmp 1 (by decide); simp [execOp, h, go_sem]) rfl
      | 5, ho =>
        have hoo := Option.some.inj ho
        subst hoo
        have f4 : (ρ (.tmp 27)) = .pointer (some ⟨w0.heap.size, 0, none⟩) := hd ⟨4, .data⟩ (by simp) (by rfl)
        have c := hI.c0
        exact fx_val hK hρ (.int .i64 s.t) (by simp [execOp, f4, c, go_sem]) rfl
      | 6, ho =>
        have hoo := Option.some.inj ho
        subst hoo
        have f3 : (ρ (.tmp 26)) = .int .i64 s.t := hd ⟨3, .data⟩ (by simp) (by rfl)
        have f5 : (ρ (.tmp 28)) = .int .i64 s.t := hd ⟨5, .data⟩ (by simp) (by rfl)
        exact fx_val hK hρ (.bool true) (by simp [execOp, f3, f5, hA.const, go_sem]) rfl
      | 7, ho =>
        have hoo := Option.some.inj ho
        subst hoo
        have f2 : (ρ (.tmp 25)) = .bool true := hd ⟨2, .data⟩ (by simp) (by rfl)
        have f6 : (ρ (.tmp 29)) = .bool true := hd ⟨6, .data⟩ (by simp) (by rfl)
        exact fx_val hK hρ (.bool true) (by simp [execOp, f2, f6, hA.const, hA.const, go_sem]) rfl
      | 8, ho =>
        have hoo := Option.some.inj ho
        subst hoo
        have f7 : (ρ (.tmp 30)) = .bool true := hd ⟨7, .data⟩ (by simp) (by rfl)
        exact fx_val hK hρ (.bool true) (by simp [execOp, f7, hA.const, go_sem]) rfl
      | 9, ho =>
        have hoo := Option.some.inj ho
        subst hoo
        exact fx_val hK hρ (.int .i64 0) (by have h := hA.tmp 5 (by decide); simp [execOp, h, go_sem]) rfl
      | 10, ho =>
        have hoo := Option.some.inj ho
        subst hoo
        have f9 : (ρ (.tmp 32)) = .int .i64 0 := hd ⟨9, .data⟩ (by simp) (by rfl)
        exact fx_val hK hρ (.bool true) (by simp [execOp, f9, hA.const, go_sem]) rfl
      | 11, ho =>
        have hoo := Option.some.inj ho
        subst hoo
        have f8 : (ρ (.tmp 31)) = .bool true := hd ⟨8, .data⟩ (by simp) (by rfl)
        have f10 : (ρ (.tmp 33)) = .bool true := hd ⟨10, .data⟩ (by simp) (by rfl)
        exact fx_val hK hρ (.bool true) (by simp [execOp, f8, f10, hA.const, hA.const, go_sem]) rfl
      | 12, ho =>
        have hoo := Option.some.inj ho
        subst hoo
        have f11 : (ρ (.tmp 34)) = .bool true := hd ⟨11, .data⟩ (by simp) (by rfl)
        exact fx_val hK hρ (.bool true) (by simp [execOp, f11, hA.const, go_sem]) rfl
      | 13, ho =>
        have hoo := Option.some.inj ho
        subst hoo
        exact fx_val hK hρ s.val (by have h := hA.tmp 1 (by decide); have h0 := hI.c0; have h1 := hI.c1; have h2 := hI.c2; have h3 := hI.c3; have h4 := hI.c4; simp [execOp, h, h0, h1, h2, h3, h4, Shp.val, go_sem]) rfl
      | 14, ho =>
        have hoo := Option.some.inj ho
        subst hoo
        exact fx_val hK hρ s.val (by have h := hA.tmp 1 (by decide); have h0 := hI.c0; have h1 := hI.c1; have h2 := hI.c2; have h3 := hI.c3; have h4 := hI.c4; simp [execOp, h, h0, h1, h2, h3, h4, Shp.val, go_sem]) rfl
      | 15, ho =>
        have hoo := Option.some.inj ho
        subst hoo
        have f13 : (ρ (.tmp 36)) = s.val := hd ⟨13, .data⟩ (by simp) (by rfl)
        have f14 : (ρ (.tmp 37)) = s.val := hd ⟨14, .data⟩ (by simp) (by rfl)
        exact fx_make hK hρ (.slice (some ⟨w.heap.size, 0, none⟩) 2 2) (w.alloc (.cells (flatS [s, s]).toArray 34)) (by simp [execOp, f13, f14, Shp.val, flatS, shpC, go_sem]) ⟨w.heap.size, rfl, RowV.new w _ _⟩ (below_alloc _)
      | 16, ho =>
        have hoo := Option.some.inj ho
        subst hoo
        have f15 : ∃ b, (ρ (.tmp 38)) = .slice (some ⟨b, 0, none⟩) 2 2 ∧ RowV b 34 (flatS [s, s]) w := hd ⟨15, .data⟩ (by simp) (by rfl)
        obtain ⟨b, f15, hr⟩ := f15
        exact fx_call hK hρ 19 _ _ #[.slice (some ⟨b, 0, none⟩) 2 2] rfl (by simp only [List.map_toArray, List.map_cons, List.map_nil, f15]) (eg_of Tryd.func19 (by kernel_rfl) rfl) ((KF2.out _ _ w (TT.out w hI.bel) (Shps.of_row hr)).mono fun e w' ⟨he, hb⟩ => ⟨_, he, rfl, hb⟩)
      | 17, ho =>
        have hoo := Option.some.inj ho
        subst hoo
        exact fx_val hK hρ (.pointer (some ⟨w0.heap.size, 0, none⟩)) (by have h := hA.tmp 1 (by decide); simp [execOp, h, go_sem]) rfl
      | 18, ho =>
        have hoo := Option.some.inj ho
        subst hoo
        have f17 : (ρ (.tmp 40)) = .pointer (some ⟨w0.heap.size, 0, none⟩) := hd ⟨17, .data⟩ (by simp) (by rfl)
        have c := hI.c0
        exact fx_val hK hρ (.int .i64 s.t) (by simp [execOp, f17, c, go_sem]) rfl
      | 19, ho =>
        have hoo := Option.some.inj ho
        subst hoo
        have f18 : (ρ (.tmp 41)) = .int .i64 s.t := hd ⟨18, .data⟩ (by simp) (by rfl)
        have e := NB.out
        exact fx_val hK hρ (.int .i64 (2 * s.t)) (by simp [execOp, f18, e, hA.const, go_sem]) rfl
      | 20, ho =>
        have hoo := Option.some.inj ho
        subst hoo
        exact fx_val hK hρ (.pointer (some ⟨w0.heap.size, 3, none⟩)) (by have h := hA.tmp 1 (by decide); simp [execOp, h, go_sem]) rfl
      | 21, ho =>
        have hoo := Option.some.inj ho
        subst hoo
        have f20 : (ρ (.tmp 43)) = .pointer (some ⟨w0.heap.size, 3, none⟩) := hd ⟨20, .data⟩ (by simp) (by rfl)
        have c := hI.c3
        exact fx_val hK hρ (.int .i64 s.d) (by simp [execOp, f20, c, go_sem]) rfl
      | 22, ho =>
        have hoo := Option.some.inj ho
        subst hoo
        have f19 : (ρ (.tmp 42)) = .int .i64 (2 * s.t) := hd ⟨19, .data⟩ (by simp) (by rfl)
        have f21 : (ρ (.tmp 44)) = .int .i64 s.d := hd ⟨21, .data⟩ (by simp) (by rfl)
        have e := NR.out
        exact fx_val hK hρ (.bool r) (by simp [execOp, f19, f21, e, go_sem]) rfl
      | 23, ho =>
        have hoo := Option.some.inj ho
        subst hoo
        have f16 : (ρ (.tmp 39)) = .bool r := hd ⟨16, .data⟩ (by simp) (by rfl)
        have f22 : (ρ (.tmp 45)) = .bool r := hd ⟨22, .data⟩ (by simp) (by rfl)
        exact fx_val hK hρ (.bool true) (by simp [execOp, f16, f22, hA.const, go_sem]) rfl
      | 24, ho =>
        have hoo := Option.some.inj ho
        subst hoo
        have f12 : (ρ (.tmp 35)) = .bool true := hd ⟨12, .data⟩ (by simp) (by rfl)
        have f23 : (ρ (.tmp 46)) = .bool true := hd ⟨23, .data⟩ (by simp) (by rfl)
        exact fx_val hK hρ (.bool true) (by simp [execOp, f12, f23, hA.const, hA.const, go_sem]) rfl
      | 25, ho =>
        have hoo := Option.some.inj ho
        subst hoo
        have f24 : (ρ (.tmp 47)) = .bool true := hd ⟨24, .data⟩ (by simp) (by rfl)
        exact fx_val hK hρ (.bool true) (by simp [execOp, f24, hA.const, go_sem]) rfl
      | kq + 26, ho => simp at ho
    case hend =>
      intro vals xw hI hF
      have f25 : vals 2 = .bool true := hF 25 (by decide)
      simp only [f25, fillA, fillL, List.contains_cons, List.contains_nil, Nat.reduceBEq, Bool.or_false, Bool.false_or, Bool.or_true, Bool.true_or, cond_true, cond_false, Nat.zero_add, Nat.reduceAdd]
      go_wp2
      go_ret
      exact ⟨rfl, hI.bel⟩
  · have hM : ¬ MayE [s] := fun h => hL (may_one.mp h)
    rw [chkE_no hM] at KC
    have KF1 := Lib.hid (fun A c W h1 (h2 : Shps W W.heap.size A [s]) => efits_any (A := A) (n := 1) (c := c) (es := [s]) false ⟨fun q => Bool.noConfusion q, fun q => absurd q.1 hM⟩ W h1 rfl (by decide) h2)
    clear hM hL
    unfold Shp.val
    go_enter Tryd.func7, Tryd.ntmps7
    go_wp2_with fail
    refine (AW.out _ B.out.bel).mono ?_
    rintro e w1 ⟨rfl, b⟩
    have B := Lib.hid (B.out.next b)
    clear b
    obtain ⟨⟨c0, c1⟩, c2, c3, c4⟩ := shp_cells B.out
    have R := Lib.hid (MK.out _ B.out)
    obtain ⟨g, hg⟩ : ∃ g, g = w1.heap.size := ⟨_, rfl⟩
    obtain ⟨w2, hw2⟩ : ∃ w2, w2 = w1.alloc (.cells #[.int .i64 s.t, .int .i64 s.l, .int .i64 s.m, .int .i64 s.d, .int .i64 s.p] 34) := ⟨_, rfl⟩
    rw [← hw2, ← hg] at R
    have HW := Lib.hid hw2
    have HG := Lib.hid hg
    clear hw2 hg
    go_wp2_with fail
    rw [← HW.out, ← HG.out]
    clear c0 c1 c2 c3 c4
    refine (KC.out _ _ _ (TT.out _ R.out.bel) R.out.one).mono ?_
    rintro e w3 ⟨rfl, b⟩
    have R := Lib.hid (R.out.next b)
    clear b HW
    go_wp2_with fail
    refine (KF1.out _ _ _ (TT.out _ R.out.bel) R.out.one).mono ?_
    rintro e w4 ⟨rfl, b⟩
    have R := Lib.hid (R.out.next b)
    clear b
    go_wp2
    go_ret
    exact ⟨rfl, R.out.bel⟩
end Go.Proofs.YtohgdeddepfanaaDoor
