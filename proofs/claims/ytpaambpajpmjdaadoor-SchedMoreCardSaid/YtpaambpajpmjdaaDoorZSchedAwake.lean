/- The contract of awake of trefoillaw10 in the seat YtpaambpajpmjdaaDoor. No statement is proved here. -/
import Derived.Test.YtpaambpajpmjdaaDoorZSchedGreedy
import Derived.Test.YtpaambpajpmjdaaDoorZSchedBusyC
import Derived.Test.YtpaambpajpmjdaaDoorZM15
import Derived.Test.YtpaambpajpmjdaaDoorZM12
set_option linter.unusedSimpArgs false
set_option linter.unusedVariables false
namespace Go.Proofs.YtpaambpajpmjdaaDoor
open Go.RowKit

/-! The chapter's example -/
def sxW : List Int := [1, 1]
def sxE : List (Int × Int) := [(0, 1)]
def sxN : List Int := [2, 1]
def sxT : List (List Int) := [[0], [0], [1]]
theorem sxFits : Fits 2 sxE := by unfold Fits; decide
theorem sxMay : May sxW sxE := ⟨by decide, by decide, by unfold WorkOk; decide, sxFits, by decide, by decide, acyc_of sxFits (by decide)⟩
theorem sxForm : FormOk sxW sxN 1 := by decide
theorem sxChk : chkE sxW sxE = 0 := chkE_zero.mpr sxMay
theorem sxE0 : schedE sxW sxE sxN 1 sxT = 0 := by rw [schedE_fault sxChk ⟨sxForm, by decide⟩]; decide
theorem sxE1 : schedE sxW sxE sxN 1 [[1]] = 103 := by rw [schedE_fault sxChk ⟨sxForm, by decide⟩]; decide
theorem sxE2 : schedE sxW sxE sxN 1 [[-1]] = 0 := by rw [schedE_fault sxChk ⟨sxForm, by decide⟩]; decide
theorem sxEnds : endsV sxW sxE sxN 1 sxT = [2, 3] := by rw [endsV_ok sxE0]; decide
theorem sxGreedy : greedyB sxW sxE sxN 1 sxT = true := by
  rw [greedyB_iff]
  refine ⟨sxE0, ?_⟩
  intro i hi h1
  match i, hi with
  | 0, _ => exact absurd h1 (by decide)
  | 1, _ => exact absurd h1 (by decide)
  | 2, _ => exact absurd h1 (by decide)
theorem sxNot : greedyB sxW sxE sxN 1 [[-1]] = false := by
  rw [← Bool.not_eq_true, greedyB_iff]
  rintro ⟨_, h⟩
  exact h 0 (by decide) (by decide) 0 (by decide) (by decide) (by decide) (by decide)
theorem sxBusy : (busyT sxT : Int) = 3 := by decide
theorem sxBound : boundV sxW sxE sxN 1 = 3 := by
  unfold boundV
  rw [if_pos ⟨sxMay, sxForm⟩]
  have hL : longV sxN sxE = 3 := by
    unfold longV
    rw [if_pos (need_may sxMay sxForm)]
    decide
  rw [hL]
  decide
theorem Pairs.new1 (w : World) (t : TypeId) (a b : Int) : Pairs (w.alloc (.cells #[.int .i64 a, .int .i64 b] t)) (w.heap.size + 1) (some ⟨w.heap.size, 0, none⟩) [(a, b)] := fun _ => by
  refine ⟨_, _, rfl, by simp, fun k e he => ?_⟩
  rw [World.cell?_alloc_at _ _ _ _ rfl, World.cell?_alloc_at _ _ _ _ rfl]
  match k, he with
  | 0, he =>
    obtain rfl : (a, b) = e := by simpa using he
    exact ⟨rfl, rfl⟩
theorem Trc.new1 (w : World) (g : Nat) (x : Int) (h : Ints w w.heap.size (some ⟨g, 0, none⟩) [x]) : Trc (w.alloc (.cells #[.slice (some ⟨g, 0, none⟩) 1 1] 22)) (w.heap.size + 1) (some ⟨w.heap.size, 0, none⟩) [[x]] := fun _ => by
  refine ⟨_, _, rfl, by simp, fun k r hr => ?_⟩
  rw [World.cell?_alloc_at _ _ _ _ rfl]
  match k, hr with
  | 0, hr =>
    obtain rfl : [x] = r := by simpa using hr
    exact ⟨some ⟨g, 0, none⟩, 1, rfl, (h.below (below_alloc _)).more (by omega), fun e => (by cases e), by simp⟩
/-- In the middle of awake. -/
structure StS (w w' : World) : Prop where
  bel : Below w.heap.size w w'
  d0 : w'.cell? ⟨w.heap.size + 1 + 1, 0, none⟩ = some (.slice (some ⟨w.heap.size, 0, none⟩) 2 2)
  d1 : w'.cell? ⟨w.heap.size + 1 + 1, 1, none⟩ = some (.slice (some ⟨w.heap.size + 1, 0, none⟩) 1 1)
  g : IsG w' (some ⟨w.heap.size, 0, none⟩) 2 2 (some ⟨w.heap.size + 1, 0, none⟩) 1 1 sxW sxE
  t : Trc w' w'.heap.size (some ⟨w.heap.size + 1 + 1 + 1 + 1 + 1 + 1, 0, none⟩) sxT
theorem StS.next {w w1 w2 : World} (h : StS w w1) (hb : Below w1.heap.size w1 w2) : StS w w2 :=
  ⟨h.bel.trans (hb.mono h.bel.size), (hb.cell (World.block_lt_of_cell? _ _ h.d0)).trans h.d0, (hb.cell (World.block_lt_of_cell? _ _ h.d1)).trans h.d1, h.g.below hb, (h.t.below hb).more hb.size⟩
theorem StS.cells {w w1 : World} (h : StS w w1) : w1.cell? ⟨w.heap.size + 1 + 1, 0, none⟩ = some (.slice (some ⟨w.heap.size, 0, none⟩) 2 2) ∧ w1.cell? ⟨w.heap.size + 1 + 1, 1, none⟩ = some (.slice (some ⟨w.heap.size + 1, 0, none⟩) 1 1) := ⟨h.d0, h.d1⟩
theorem StS.start (w : World) (hT : Tab64 w) : StS w (((((((w.alloc (.cells #[.int .i64 1, .int .i64 1] 3)).alloc (.cells #[.int .i64 0, .int .i64 1] 45)).alloc
    (.cells #[.slice (some ⟨w.heap.size, 0, none⟩) 2 2, .slice (some ⟨w.heap.size + 1, 0, none⟩) 1 1] 25)).alloc (.cells #[.int .i64 0] 3)).alloc (.cells #[.int .i64 0] 3)).alloc (.cells #[.int .i64 1] 3)).alloc
    (.cells #[.slice (some ⟨w.heap.size + 1 + 1 + 1, 0, none⟩) 1 1, .slice (some ⟨w.heap.size + 1 + 1 + 1 + 1, 0, none⟩) 1 1, .slice (some ⟨w.heap.size + 1 + 1 + 1 + 1 + 1, 0, none⟩) 1 1] 22)) := by
  obtain ⟨w1, h1⟩ : ∃ w1, w1 = w.alloc (.cells #[.int .i64 1, .int .i64 1] 3) := ⟨_, rfl⟩
  obtain ⟨w2, h2⟩ : ∃ w2, w2 = w1.alloc (.cells #[.int .i64 0, .int .i64 1] 45) := ⟨_, rfl⟩
  obtain ⟨w3, h3⟩ : ∃ w3, w3 = w2.alloc (.cells #[.slice (some ⟨w.heap.size, 0, none⟩) 2 2, .slice (some ⟨w.heap.size + 1, 0, none⟩) 1 1] 25) := ⟨_, rfl⟩
  obtain ⟨w4, h4⟩ : ∃ w4, w4 = w3.alloc (.cells #[.int .i64 0] 3) := ⟨_, rfl⟩
  obtain ⟨w5, h5⟩ : ∃ w5, w5 = w4.alloc (.cells #[.int .i64 0] 3) := ⟨_, rfl⟩
  obtain ⟨w6, h6⟩ : ∃ w6, w6 = w5.alloc (.cells #[.int .i64 1] 3) := ⟨_, rfl⟩
  obtain ⟨w7, h7⟩ : ∃ w7, w7 = w6.alloc (.cells #[.slice (some ⟨w.heap.size + 1 + 1 + 1, 0, none⟩) 1 1, .slice (some ⟨w.heap.size + 1 + 1 + 1 + 1, 0, none⟩) 1 1, .slice (some ⟨w.heap.size + 1 + 1 + 1 + 1 + 1, 0, none⟩) 1 1] 22) := ⟨_, rfl⟩
  rw [← h1, ← h2, ← h3, ← h4, ← h5, ← h6, ← h7]
  have s1 : w1.heap.size = w.heap.size + 1 := by rw [h1]; simp
  have s2 : w2.heap.size = w.heap.size + 1 + 1 := by rw [h2]; simp [s1]
  have s3 : w3.heap.size = w.heap.size + 1 + 1 + 1 := by rw [h3]; simp [s2]
  have s4 : w4.heap.size = w.heap.size + 1 + 1 + 1 + 1 := by rw [h4]; simp [s3]
  have s5 : w5.heap.size = w.heap.size + 1 + 1 + 1 + 1 + 1 := by rw [h5]; simp [s4]
  have s6 : w6.heap.size = w.heap.size + 1 + 1 + 1 + 1 + 1 + 1 := by rw [h6]; simp [s5]
  have b6 : Below w6.heap.size w6 w7 := by rw [h7]; exact below_alloc _
  have b5 : Below w5.heap.size w5 w7 := (by rw [h6]; exact below_alloc _ : Below w5.heap.size w5 w6).trans (b6.mono (by omega))
  have b4 : Below w4.heap.size w4 w7 := (by rw [h5]; exact below_alloc _ : Below w4.heap.size w4 w5).trans (b5.mono (by omega))
  have b3 : Below w3.heap.size w3 w7 := (by rw [h4]; exact below_alloc _ : Below w3.heap.size w3 w4).trans (b4.mono (by omega))
  have b2 : Below w2.heap.size w2 w7 := (by rw [h3]; exact below_alloc _ : Below w2.heap.size w2 w3).trans (b3.mono (by omega))
  have b1 : Below w1.heap.size w1 w7 := (by rw [h2]; exact below_alloc _ : Below w1.heap.size w1 w2).trans (b2.mono (by omega))
  have b0 : Below w.heap.size w w7 := (by rw [h1]; exact below_alloc _ : Below w.heap.size w w1).trans (b1.mono (by omega))
  have i1 : Ints w1 w1.heap.size (some ⟨w.heap.size, 0, none⟩) [1, 1] := by
    have h := Ints.new2 w 3 1 1
    rw [← h1] at h
    exact h.more (by omega)
  have p2 : Pairs w2 w2.heap.size (some ⟨w.heap.size + 1, 0, none⟩) [(0, 1)] := by
    have h := Pairs.new1 w1 45 0 1
    rw [← h2, s1] at h
    exact h.more (by omega)
  have i4 : Ints w4 w4.heap.size (some ⟨w.heap.size + 1 + 1 + 1, 0, none⟩) [0] := by
    have h := Ints.new1 w3 3 0
    rw [← h4, s3] at h
    exact h.more (by omega)
  have i5 : Ints w5 w5.heap.size (some ⟨w.heap.size + 1 + 1 + 1 + 1, 0, none⟩) [0] := by
    have h := Ints.new1 w4 3 0
    rw [← h5, s4] at h
    exact h.more (by omega)
  have i6 : Ints w6 w6.heap.size (some ⟨w.heap.size + 1 + 1 + 1 + 1 + 1, 0, none⟩) [1] := by
    have h := Ints.new1 w5 3 1
    rw [← h6, s5] at h
    exact h.more (by omega)
  refine ⟨b0, ?_, ?_, ⟨rfl, rfl, by decide, by decide, (i1.below b1).more b1.size, (p2.below b2).more b2.size, (fun e => by cases e), (fun e => by cases e), hT.via b0⟩, fun _ => ⟨_, _, rfl, ?_, fun k r hr => ?_⟩⟩
  · refine (b3.cell (by show w.heap.size + 1 + 1 < w3.heap.size; omega)).trans ?_
    rw [h3, World.cell?_alloc_at _ _ _ _ s2.symm]; rfl
  · refine (b3.cell (by show w.heap.size + 1 + 1 < w3.heap.size; omega)).trans ?_
    rw [h3, World.cell?_alloc_at _ _ _ _ s2.symm]; rfl
  · show w.heap.size + 1 + 1 + 1 + 1 + 1 + 1 < w7.heap.size
    rw [h7]
    simp [s6]
  · have hc : ∀ j, w7.cell? ⟨w.heap.size + 1 + 1 + 1 + 1 + 1 + 1, j, none⟩ = (#[Value.slice (some ⟨w.heap.size + 1 + 1 + 1, 0, none⟩) 1 1, .slice (some ⟨w.heap.size + 1 + 1 + 1 + 1, 0, none⟩) 1 1, .slice (some ⟨w.heap.size + 1 + 1 + 1 + 1 + 1, 0, none⟩) 1 1] : Array Value)[j]? := fun j => by
      rw [h7, World.cell?_alloc_at _ _ _ _ s6.symm]
    rw [Nat.zero_add]
    match k, hr with
    | 0, hr =>
      obtain rfl : [0] = r := by simpa [sxT] using hr
      exact ⟨_, 1, (hc 0).trans rfl, (i4.below b4).more b4.size, fun e => (by cases e), by simp⟩
    | 1, hr =>
      obtain rfl : [0] = r := by simpa [sxT] using hr
      exact ⟨_, 1, (hc 1).trans rfl, (i5.below b5).more b5.size, fun e => (by cases e), by simp⟩
    | 2, hr =>
      obtain rfl : [1] = r := by simpa [sxT] using hr
      exact ⟨_, 1, (hc 2).trans rfl, (i6.below b6).more b6.size, fun e => (by cases e), by simp⟩
/-- A call's arguments: new needs beside what lies there. -/
theorem StS.args {w x : World} (h : StS w x) : IsS (x.alloc (.cells #[.int .i64 2, .int .i64 1] 3)) (some ⟨x.heap.size, 0, none⟩) 2 2 (some ⟨w.heap.size + 1 + 1 + 1 + 1 + 1 + 1, 0, none⟩) 3 3 sxN sxT :=
  ⟨rfl, rfl, by decide, by decide, by decide, (Ints.new2 x 3 2 1).more (by simp), ((h.t.below (below_alloc _)).more (by simp)), fun e => (by cases e), fun e => (by cases e)⟩
theorem StS.args1 {w x : World} (h : StS w x) (y : Int) : IsS (((x.alloc (.cells #[.int .i64 2, .int .i64 1] 3)).alloc (.cells #[.int .i64 y] 3)).alloc (.cells #[.slice (some ⟨x.heap.size + 1, 0, none⟩) 1 1] 22)) (some ⟨x.heap.size, 0, none⟩) 2 2 (some ⟨x.heap.size + 1 + 1, 0, none⟩) 1 1 sxN [[y]] := by
  obtain ⟨x1, h1⟩ : ∃ x1, x1 = x.alloc (.cells #[.int .i64 2, .int .i64 1] 3) := ⟨_, rfl⟩
  obtain ⟨x2, h2⟩ : ∃ x2, x2 = x1.alloc (.cells #[.int .i64 y] 3) := ⟨_, rfl⟩
  rw [← h1, ← h2]
  have s1 : x1.heap.size = x.heap.size + 1 := by rw [h1]; simp
  have s2 : x2.heap.size = x.heap.size + 1 + 1 := by rw [h2]; simp [s1]
  have b1 : Below x1.heap.size x1 x2 := by rw [h2]; exact below_alloc _
  have i1 : Ints x1 x1.heap.size (some ⟨x.heap.size, 0, none⟩) sxN := by
    have h := Ints.new2 x 3 2 1
    rw [← h1] at h
    exact h.more (by omega)
  have i2 : Ints x2 x2.heap.size (some ⟨x.heap.size + 1, 0, none⟩) [y] := by
    have h := Ints.new1 x1 3 y
    rw [← h2, s1] at h
    exact h.more (by omega)
  have t3 := Trc.new1 x2 (x.heap.size + 1) y i2
  rw [s2] at t3
  refine ⟨rfl, rfl, by decide, by decide, fun r hr => ?_, (((i1.below b1).more b1.size).below (below_alloc _)).more (by simp), t3.more (by simp [s2]), fun e => (by cases e), fun e => (by cases e)⟩
  obtain rfl : r = [y] := by simpa using hr
  simp
set_option maxRecDepth 100000 in
set_option maxHeartbeats 8000000 in
theorem awake10_any (w : World) (hT : Tab64 w) : Calls Tryd.prog 10 #[] w fun e w' => e = .returned (.bool true) ∧ Below w.heap.size w w' := by
  have S0 := Lib.hid (StS.start w hT)
  have C1 := Lib.hid (fun x (h : StS w x) => (scheck_any 1 _ (h.g.below (below_alloc _)) h.args).mono fun e y hy => (⟨by rw [hy.1, sxE0], h.next ((below_alloc _).trans (hy.2.mono (by simp)))⟩ : e = .returned (.int .i64 0) ∧ StS w y))
  have C2 := Lib.hid (fun x (h : StS w x) => (ends_any 1 _ (h.g.below (below_alloc _)) h.args).mono fun e y hy => (by
    obtain ⟨A, c, e1, e2, e3⟩ := hy
    rw [sxEnds] at e1 e2
    exact ⟨A, c, e1, e2, h.next ((below_alloc _).trans (e3.mono (by simp)))⟩ : ∃ A c, e = .returned (.slice A 2 c) ∧ Ints y y.heap.size A [2, 3] ∧ StS w y))
  have C3 := Lib.hid (fun x (h : StS w x) (A : Option Addr) (c : Nat) (hI : Ints x x.heap.size A [2, 3]) => (ints_any (x.heap.size + 1) A (some ⟨x.heap.size, 0, none⟩) c 2 [2, 3] [2, 3] (x.alloc (.cells #[.int .i64 2, .int .i64 3] 3)) (by decide) (by decide) ((hI.below (below_alloc _)).more (by omega)) (Ints.new2 x 3 2 3)).mono fun e y hy => (by
    obtain ⟨e1, k, rfl⟩ := hy
    exact ⟨by rw [e1]; rfl, (h.next (below_alloc _)).next (below_drewN (Below.refl _ _) k)⟩ : e = .returned (.bool true) ∧ StS w y))
  have C4 := Lib.hid (fun x (h : StS w x) => (greedy_any 1 _ (h.g.below (below_alloc _)) h.args).mono fun e y hy => (⟨by rw [hy.1, sxGreedy], h.next ((below_alloc _).trans (hy.2.mono (by simp)))⟩ : e = .returned (.bool true) ∧ StS w y))
  have C5 := Lib.hid (fun x (h : StS w x) => (busy_any (tc := 3) x (tn := 3) (t := sxT) rfl (by decide) (by decide) h.t).mono fun e y hy => (by
    obtain ⟨e1, rfl⟩ := hy
    exact ⟨by rw [e1, sxBusy], h⟩ : e = .returned (.int .i64 3) ∧ StS w y))
  have C6 := Lib.hid (fun x (h : StS w x) => (bound_any 1 _ (h.g.below (below_alloc _)) (need := sxN) (nn := 2) (nc := 2) rfl (by decide) ((Ints.new2 x 3 2 1).more (by simp)) (fun e => (by cases e))).mono fun e y hy => (⟨by rw [hy.1, sxBound], h.next ((below_alloc _).trans (hy.2.mono (by simp)))⟩ : e = .returned (.int .i64 3) ∧ StS w y))
  have C7 := Lib.hid (fun x (h : StS w x) => (scheck_any 1 _ (((h.g.below (below_alloc _)).below (below_alloc _)).below (below_alloc _)) (h.args1 1)).mono fun e y hy => (⟨by rw [hy.1, sxE1], ((h.next (below_alloc _)).next (below_alloc _)).next ((below_alloc _).trans (hy.2.mono (by simp)))⟩ : e = .returned (.int .i64 103) ∧ StS w y))
  have C8 := Lib.hid (fun x (h : StS w x) => (greedy_any 1 _ (((h.g.below (below_alloc _)).below (below_alloc _)).below (below_alloc _)) (h.args1 (-1))).mono fun e y hy => (⟨by rw [hy.1, sxNot], ((h.next (below_alloc _)).next (below_alloc _)).next ((below_alloc _).trans (hy.2.mono (by simp)))⟩ : e = .returned (.bool false) ∧ StS w y))
  clear hT
  have K1 := Lib.hid (by
    have h := C1.out _ S0.out
    simp only [World.size_alloc] at h
    exact h)
  have SZ := Lib.hid S0.out.bel.size
  clear S0
  go_enter Tryd.func10, Tryd.ntmps10
  go_wp2_with fail
  refine K1.out.mono ?_
  rintro e y1 ⟨rfl, hst⟩
  have S1 := Lib.hid hst
  obtain ⟨c0, c1⟩ := hst.cells
  clear hst
  go_wp2_with fail
  refine (C2.out _ S1.out).mono ?_
  clear c0 c1
  rintro e y2 ⟨A2, k2, rfl, hI2, hst⟩
  have S2 := Lib.hid hst
  have HI2 := Lib.hid hI2
  obtain ⟨c0, c1⟩ := hst.cells
  clear hst hI2
  go_wp2_with fail
  refine (C3.out _ S2.out A2 k2 HI2.out).mono ?_
  clear c0 c1
  rintro e y3 ⟨rfl, hst⟩
  have S3 := Lib.hid hst
  obtain ⟨c0, c1⟩ := hst.cells
  clear hst
  go_wp2_with fail
  refine (C4.out _ S3.out).mono ?_
  clear c0 c1
  rintro e y4 ⟨rfl, hst⟩
  have S4 := Lib.hid hst
  obtain ⟨c0, c1⟩ := hst.cells
  clear hst
  go_wp2_with fail
  refine (C5.out _ S4.out).mono ?_
  clear c0 c1
  rintro e y5 ⟨rfl, hst⟩
  have S5 := Lib.hid hst
  obtain ⟨c0, c1⟩ := hst.cells
  clear hst
  go_wp2_with fail
  refine (C6.out _ S5.out).mono ?_
  clear c0 c1
  rintro e y6 ⟨rfl, hst⟩
  have S6 := Lib.hid hst
  obtain ⟨c0, c1⟩ := hst.cells
  clear hst
  go_wp2_with fail
  refine (C7.out _ S6.out).mono ?_
  clear c0 c1
  rintro e y7 ⟨rfl, hst⟩
  have S7 := Lib.hid hst
  obtain ⟨c0, c1⟩ := hst.cells
  clear hst
  go_wp2_with fail
  refine (C8.out _ S7.out).mono ?_
  clear c0 c1
  rintro e y8 ⟨rfl, hst⟩
  have S8 := Lib.hid hst
  clear hst
  go_wp2
  go_ret
  exact ⟨rfl, S8.out.bel⟩
end Go.Proofs.YtpaambpajpmjdaaDoor
