/- The reference's Why in the seat YtlimcimioeepaaaGreatDoor, where the bytes do not open; what its boxes hold (printed by codec/mk_rwhy.py).
   A task's numbers in a row, and the way over them, width by width, in plain words, in the seat YtlimcimioeepaaaGreatDoor.
   Two lists of integers that both grow, each in a row of its own, in the seat YtlimcimioeepaaaGreatDoor.
   What is told of bytes that open, by where the way over the numbers ends; cells of rows of widths, in the seat YtlimcimioeepaaaGreatDoor.
   A task whose rows lie in blocks from a bound on, in the seat YtlimcimioeepaaaGreatDoor: what is written below the bound leaves it.
   Words for the task that trefoilref06.build makes: its variable, and lists of the call's own that grow; rows of numbers, in the seat YtlimcimioeepaaaGreatDoor.
   No statement is proved here. -/
import Derived.Test.YtlimcimioeepaaaGreatDoorZG19
import Derived.Test.YtlimcimioeepaaaGreatDoorZG6
import Derived.Test.YtlimcimioeepaaaGreatDoorZG3
import Derived.Deep.AppendLies
import Derived.Test.YtlimcimioeepaaaGreatDoorZRefGet
import Derived.Test.YtlimcimioeepaaaGreatDoorZG1
import Derived.Test.YtlimcimioeepaaaGreatDoorZG15
import Derived.Test.YtlimcimioeepaaaGreatDoorZG4
import Derived.Test.YtlimcimioeepaaaGreatDoorZG7
set_option linter.unusedVariables false
namespace Go.Proofs.YtlimcimioeepaaaGreatDoor
open Go.RowKit

/-- The three boxes of Why: what it answers (a task, a span), and a task that is none. -/
structure Wy (w wr : World) : Prop where
  bel : Below w.heap.size w wr
  r : wr.heap[w.heap.size]? = some (.cells #[.int .i64 0, .int .i64 0, .slice none 0 0, .slice none 0 0, .slice none 0 0, .slice none 0 0] 27 (0, 0))
  sp : wr.heap[w.heap.size + 1]? = some (.cells #[.int .i64 0, .int .i64 0] 37 (0, 0))
  no : wr.heap[w.heap.size + 2]? = some (.cells #[.int .i64 0, .int .i64 0, .slice none 0 0, .slice none 0 0, .slice none 0 0, .slice none 0 0] 27 (0, 0))
theorem Wy.lt {w wr : World} (h : Wy w wr) : w.heap.size + 2 < wr.heap.size := (Array.getElem?_eq_some_iff.mp h.no).1
theorem Wy.keep {w wr w' : World} {B : Nat} (h : Wy w wr) (hB : w.heap.size + 3 ≤ B) (hb : Below B wr w') : Wy w w' :=
  ⟨h.bel.trans (hb.mono (by omega)), by rw [hb.block _ (by omega)]; exact h.r, by rw [hb.block _ (by omega)]; exact h.sp, by rw [hb.block _ (by omega)]; exact h.no⟩
theorem Wy.next {w wr w' : World} (h : Wy w wr) (hb : Below wr.heap.size wr w') : Wy w w' := h.keep (by have := h.lt; omega) hb
/-- The state at the door. -/
theorem Wy.start (w : World) : Wy w (((w.alloc (.cells #[.int .i64 0, .int .i64 0, .slice none 0 0, .slice none 0 0, .slice none 0 0, .slice none 0 0] 27)).alloc (.cells #[.int .i64 0, .int .i64 0] 37)).alloc (.cells #[.int .i64 0, .int .i64 0, .slice none 0 0, .slice none 0 0, .slice none 0 0, .slice none 0 0] 27)) := by
  obtain ⟨w1, h1⟩ : ∃ w1, w1 = w.alloc (.cells #[.int .i64 0, .int .i64 0, .slice none 0 0, .slice none 0 0, .slice none 0 0, .slice none 0 0] 27) := ⟨_, rfl⟩
  have s1 : w1.heap.size = w.heap.size + 1 := by rw [h1]; simp
  have r1 : w1.heap[w.heap.size]? = some (.cells #[.int .i64 0, .int .i64 0, .slice none 0 0, .slice none 0 0, .slice none 0 0, .slice none 0 0] 27 (0, 0)) := by rw [h1]; exact heap_alloc_new w _
  have b1 : Below w.heap.size w w1 := by rw [h1]; exact below_alloc _
  rw [← h1]
  obtain ⟨w2, h2⟩ : ∃ w2, w2 = w1.alloc (.cells #[.int .i64 0, .int .i64 0] 37) := ⟨_, rfl⟩
  have s2 : w2.heap.size = w.heap.size + 2 := by rw [h2]; simp [s1]
  have r2 : w2.heap[w.heap.size + 1]? = some (.cells #[.int .i64 0, .int .i64 0] 37 (0, 0)) := by rw [h2, ← s1]; exact heap_alloc_new w1 _
  have b2 : Below w1.heap.size w1 w2 := by rw [h2]; exact below_alloc _
  rw [← h2]
  obtain ⟨w3, h3⟩ : ∃ w3, w3 = w2.alloc (.cells #[.int .i64 0, .int .i64 0, .slice none 0 0, .slice none 0 0, .slice none 0 0, .slice none 0 0] 27) := ⟨_, rfl⟩
  have r3 : w3.heap[w.heap.size + 2]? = some (.cells #[.int .i64 0, .int .i64 0, .slice none 0 0, .slice none 0 0, .slice none 0 0, .slice none 0 0] 27 (0, 0)) := by rw [h3, ← s2]; exact heap_alloc_new w2 _
  have b3 : Below w2.heap.size w2 w3 := by rw [h3]; exact below_alloc _
  rw [← h3]
  exact ⟨b1.trans ((b2.mono (by omega)).trans (b3.mono (by omega))), by rw [b3.block _ (by omega), b2.block _ (by omega)]; exact r1, by rw [b3.block _ (by omega)]; exact r2, r3⟩
theorem flaw_short' {s : ByteArray} (h : s.size < 21) : flaw s = some ((0 : Int), (s.size : Int), (60 : Int)) := by
  unfold flaw
  rw [if_pos h]
theorem flaw_unsound' {s : ByteArray} (h : 21 ≤ s.size) (hn : ¬ sound s) : flaw s = some ((s.size : Int) - 4, (s.size : Int), (61 : Int)) := by
  unfold flaw
  rw [if_neg (by omega), if_pos hn]
theorem flaw_magic {s : ByteArray} (h : 21 ≤ s.size) (hn : sound s) (hm : ¬ magicB (txB s)) : flaw s = some ((0 : Int), (4 : Int), (62 : Int)) := by
  unfold flaw
  rw [if_neg (by omega), if_neg (fun k => k hn), if_pos hm]
theorem flaw_ver {s : ByteArray} (h : 21 ≤ s.size) (hn : sound s) (hm : magicB (txB s)) (hv : ¬ verB (txB s)) : flaw s = some ((4 : Int), (5 : Int), (63 : Int)) := by
  unfold flaw
  rw [if_neg (by omega), if_neg (fun k => k hn), if_neg (fun k => k hm), if_pos hv]
theorem text_list' (s : ByteArray) : (text s).data.toList = s.data.toList.take (s.size - 4) := by
  unfold text
  rw [Lib.extract_data]
  simp
/-- What Why writes as it ends. -/
theorem Wy.told {w wr : World} (h : Wy w wr) (v0 v1 v2 v3 v4 v5 x0 x1 : Value) :
    ∃ w2, w2 = ((((((((wr.setCell ⟨w.heap.size, 0, none⟩ v0).setCell ⟨w.heap.size, 1, none⟩ v1).setCell ⟨w.heap.size, 2, none⟩ v2).setCell ⟨w.heap.size, 3, none⟩ v3).setCell ⟨w.heap.size, 4, none⟩ v4).setCell ⟨w.heap.size, 5, none⟩ v5)).setCell ⟨w.heap.size + 1, 0, none⟩ x0).setCell ⟨w.heap.size + 1, 1, none⟩ x1 ∧
      w2.heap[w.heap.size]? = some (.cells #[v0, v1, v2, v3, v4, v5] 27 (0, 0)) ∧ w2.heap[w.heap.size + 1]? = some (.cells #[x0, x1] 37 (0, 0)) ∧ Below w.heap.size w w2 ∧ (∀ k, w.heap.size + 1 < k → w2.heap[k]? = wr.heap[k]?) ∧ w2.heap.size = wr.heap.size := by
  obtain ⟨wa, ha, h1, h2, h3⟩ := six_cells h.r v0 v1 v2 v3 v4 v5
  rw [← ha]
  have h4 := (h2 (w.heap.size + 1) (by omega)).trans h.sp
  have h5 := heap_setCell_same wa (w.heap.size + 1) 0 _ _ x0 h4
  have h6 := heap_setCell_same _ (w.heap.size + 1) 1 _ _ x1 h5
  refine ⟨_, rfl, ?_, h6, h.bel.trans (((h3 _ (Nat.le_refl _)).setCell (p := ⟨w.heap.size + 1, 0, none⟩) (Nat.le_succ _) x0).setCell (p := ⟨w.heap.size + 1, 1, none⟩) (Nat.le_succ _) x1), fun k hk => ?_, ?_⟩
  · rw [heap_setCell_other _ _ _ _ (show w.heap.size ≠ w.heap.size + 1 by omega), heap_setCell_other _ _ _ _ (show w.heap.size ≠ w.heap.size + 1 by omega)]
    exact h1
  · rw [heap_setCell_other _ _ _ _ (show k ≠ w.heap.size + 1 by omega), heap_setCell_other _ _ _ _ (show k ≠ w.heap.size + 1 by omega)]
    exact h2 k (by omega)
  · rw [ha]
    simp [World.setCell]
theorem results_cc_tmp {fn : Func} {p q u : Tmp} {ty tz : TypeId} (h : fn.results = #[.cell p ty, .cell q tz, .tmp u]) (tmps : Array Value) (P : Program) (w : World) :
    (results fn tmps).run P w =
      ((asAddr (tmps.getD p undef)).run P w).andThen fun a w₁ => ((loadVar ty a).run P w₁).andThen fun x w₂ => ((asAddr (tmps.getD q undef)).run P w₂).andThen fun b w₃ => ((loadVar tz b).run P w₃).andThen fun y w₄ => .ok (.tuple #[x, y, tmps.getD u undef]) w₄ := by
  simp only [results, h]
  simp [Sem.run_bind, Result.andThen]
/-- What Why answers: the task that the bytes are, where what is wrong lies, and what it is. -/
def GotWhy (s : ByteArray) (w : World) (e : Ending) (w' : World) : Prop :=
  ∃ sh : Sh, e = .returned (.tuple #[sh.arg (decT s).period (decT s).deadline, .agg #[.int .i64 (fromO (flaw s)), .int .i64 (toO (flaw s))], .int .i64 (enoO (flaw s))]) ∧ IsT w' w'.heap.size sh (decT s) ∧ sh.ne ≤ sh.ec ∧ sh.nf ≤ sh.fc ∧ Below w.heap.size w w'
theorem GotWhy.of {s : ByteArray} {w w' : World} {f : Int × Int × Int} (hf : flaw s = some f) (hb : Below w.heap.size w w') :
    GotWhy s w (.returned (.tuple #[.agg #[.int .i64 0, .int .i64 0, .slice none 0 0, .slice none 0 0, .slice none 0 0, .slice none 0 0], .agg #[.int .i64 f.1, .int .i64 f.2.1], .int .i64 f.2.2])) w' := by
  have hd : decT s = zeroT := by unfold decT; rw [hf]; rfl
  refine ⟨zeroSh, ?_, ?_, Nat.le_refl _, Nat.le_refl _, hb⟩
  · rw [hd, hf]
    rfl
  · rw [hd]
    exact zero_isT _ _
set_option maxRecDepth 100000 in
set_option maxHeartbeats 4000000 in
theorem rwhy_short (s : ByteArray) (w : World) (h : s.size < 21) : Calls Tryz.prog 16 #[.string s] w (GotWhy s w) := by
  have g1 : decide ((s.size : Int) < 21) = true := decide_eq_true (by omega)
  have G := Lib.hid (fun w' (k : Below w.heap.size w w') => GotWhy.of (flaw_short' h) k)
  clear h
  go_enter Tryz.func16, Tryz.ntmps16
  go_wp2_with fail
  refine bodyPost_ret (v := .tuple #[.agg #[.int .i64 0, .int .i64 0, .slice none 0 0, .slice none 0 0, .slice none 0 0, .slice none 0 0], .agg #[.int .i64 0, .int .i64 s.size], .int .i64 60]) ?_ rfl (G.out _ (((below_alloc _).alloc (by simp) _).alloc (by simp; omega) _))
  rw [results_cc_tmp rfl]
  go_simp
set_option maxRecDepth 100000 in
set_option maxHeartbeats 4000000 in
theorem rwhy_unsound (s : ByteArray) (w : World) (hs : s.size ≤ 1000) (h : 21 ≤ s.size) (hn : ¬ sound s) : Calls Tryz.prog 16 #[.string s] w (GotWhy s w) := by
  have g1 : decide ((s.size : Int) < 21) = false := by rw [decide_eq_false_iff_not]; omega
  have g2 : decide (s.size < 21) = false := by rw [decide_eq_false_iff_not]; omega
  have C := Lib.hid (fun W => ropen_no s W hs hn)
  have G := Lib.hid (fun w' (k : Below w.heap.size w w') => GotWhy.of (flaw_unsound' h hn) k)
  clear hn
  go_enter Tryz.func16, Tryz.ntmps16
  obtain ⟨w0, hw0⟩ : ∃ w0, w0 = (((w.alloc (.cells #[.int .i64 0, .int .i64 0, .slice none 0 0, .slice none 0 0, .slice none 0 0, .slice none 0 0] 27)).alloc (.cells #[.int .i64 0, .int .i64 0] 37)).alloc (.cells #[.int .i64 0, .int .i64 0, .slice none 0 0, .slice none 0 0, .slice none 0 0, .slice none 0 0] 27)) := ⟨_, rfl⟩
  have H0 : Hid (Wy w w0) := Lib.hid (by rw [hw0]; exact Wy.start w)
  go_wp2_with fail
  rw [← hw0, show w.heap.size + 1 + 1 = w.heap.size + 2 from rfl]
  clear hw0
  refine (C.out _).mono ?_
  rintro e w1 ⟨rfl, b⟩
  have H1 := Lib.hid (H0.out.next b)
  clear b H0
  have r0 := cell_of_row w1 w.heap.size 0 _ _ _ H1.out.r
  have r1 := cell_of_row w1 w.heap.size 1 _ _ _ H1.out.r
  have r2 := cell_of_row w1 w.heap.size 2 _ _ _ H1.out.r
  have r3 := cell_of_row w1 w.heap.size 3 _ _ _ H1.out.r
  have r4 := cell_of_row w1 w.heap.size 4 _ _ _ H1.out.r
  have r5 := cell_of_row w1 w.heap.size 5 _ _ _ H1.out.r
  simp at r0 r1 r2 r3 r4 r5
  have fr0 := frozen_of_row w1 w.heap.size 0 _ _ H1.out.r
  have fr1 := frozen_of_row w1 w.heap.size 1 _ _ H1.out.r
  have fr2 := frozen_of_row w1 w.heap.size 2 _ _ H1.out.r
  have fr3 := frozen_of_row w1 w.heap.size 3 _ _ H1.out.r
  have fr4 := frozen_of_row w1 w.heap.size 4 _ _ H1.out.r
  have fr5 := frozen_of_row w1 w.heap.size 5 _ _ H1.out.r
  have s0 := cell_of_row w1 (w.heap.size + 1) 0 _ _ _ H1.out.sp
  have s1 := cell_of_row w1 (w.heap.size + 1) 1 _ _ _ H1.out.sp
  simp at s0 s1
  have fs0 := frozen_of_row w1 (w.heap.size + 1) 0 _ _ H1.out.sp
  have fs1 := frozen_of_row w1 (w.heap.size + 1) 1 _ _ H1.out.sp
  have n0 := cell_of_row w1 (w.heap.size + 2) 0 _ _ _ H1.out.no
  have n1 := cell_of_row w1 (w.heap.size + 2) 1 _ _ _ H1.out.no
  have n2 := cell_of_row w1 (w.heap.size + 2) 2 _ _ _ H1.out.no
  have n3 := cell_of_row w1 (w.heap.size + 2) 3 _ _ _ H1.out.no
  have n4 := cell_of_row w1 (w.heap.size + 2) 4 _ _ _ H1.out.no
  have n5 := cell_of_row w1 (w.heap.size + 2) 5 _ _ _ H1.out.no
  simp at n0 n1 n2 n3 n4 n5
  go_wp2
  obtain ⟨wz, hwz, e1, e2, e3, e4, e5⟩ := Wy.told H1.out (.int .i64 0) (.int .i64 0) (.slice none 0 0) (.slice none 0 0) (.slice none 0 0) (.slice none 0 0) (.int .i64 ((s.size : Int) - 4)) (.int .i64 (s.size : Int))
  rw [← hwz]
  have k0 := cell_of_row wz w.heap.size 0 _ _ _ e1
  have k1 := cell_of_row wz w.heap.size 1 _ _ _ e1
  have k2 := cell_of_row wz w.heap.size 2 _ _ _ e1
  have k3 := cell_of_row wz w.heap.size 3 _ _ _ e1
  have k4 := cell_of_row wz w.heap.size 4 _ _ _ e1
  have k5 := cell_of_row wz w.heap.size 5 _ _ _ e1
  simp at k0 k1 k2 k3 k4 k5
  have m0 := cell_of_row wz (w.heap.size + 1) 0 _ _ _ e2
  have m1 := cell_of_row wz (w.heap.size + 1) 1 _ _ _ e2
  simp at m0 m1
  clear hwz
  refine bodyPost_ret (v := .tuple #[.agg #[.int .i64 0, .int .i64 0, .slice none 0 0, .slice none 0 0, .slice none 0 0, .slice none 0 0], .agg #[.int .i64 ((s.size : Int) - 4), .int .i64 (s.size : Int)], .int .i64 61]) ?_ rfl (G.out _ e3)
  rw [results_cc_tmp rfl]
  go_simp
theorem dag1_iff {s : ByteArray} (h : 21 ≤ s.size) : s.extract 0 4 = ⟨#[100, 97, 103, 49]⟩ ↔ magicB (txB s) := by
  have e : (s.extract 0 4).data.toList = (txB s).take 4 := by
    unfold txB
    rw [Lib.extract_data, text_list', List.take_take, Nat.min_eq_left (by omega)]
    simp
  unfold magicB
  rw [← e]
  constructor
  · intro k
    rw [k]
  · intro k
    exact ByteArray.ext (Array.toList_inj.mp k)
set_option maxRecDepth 100000 in
set_option maxHeartbeats 4000000 in
theorem rwhy_magic (s : ByteArray) (w : World) (hs : s.size ≤ 1000) (h : 21 ≤ s.size) (hy : sound s) (hm : ¬ magicB (txB s)) : Calls Tryz.prog 16 #[.string s] w (GotWhy s w) := by
  have g1 : decide ((s.size : Int) < 21) = false := by rw [decide_eq_false_iff_not]; omega
  have g2 : decide (s.size < 21) = false := by rw [decide_eq_false_iff_not]; omega
  have C := Lib.hid (fun W => ropen_yes s W hs hy)
  have G := Lib.hid (fun w' (k : Below w.heap.size w w') => GotWhy.of (flaw_magic h hy hm) k)
  have e4 : ∀ W : World, (Instr.slice 9 (.string s) none (some (.int .i64 4)) none).run Tryz.prog W = .ok (.string (s.extract 0 4)) W := fun W => run_slice_string_lo s W 4 (by omega) (by omega)
  have hM := fun k => hm ((dag1_iff h).mp k)
  obtain ⟨M, hMM⟩ : ∃ M, M = s.extract 0 4 := ⟨_, rfl⟩
  rw [← hMM] at e4 hM
  have hne := str_beq hM
  rw [show (⟨#[100, 97, 103, 49]⟩ : ByteArray).toList = [100, 97, 103, 49] by kernel_rfl] at hne
  clear hy hm hMM hM
  go_enter Tryz.func16, Tryz.ntmps16
  obtain ⟨w0, hw0⟩ : ∃ w0, w0 = (((w.alloc (.cells #[.int .i64 0, .int .i64 0, .slice none 0 0, .slice none 0 0, .slice none 0 0, .slice none 0 0] 27)).alloc (.cells #[.int .i64 0, .int .i64 0] 37)).alloc (.cells #[.int .i64 0, .int .i64 0, .slice none 0 0, .slice none 0 0, .slice none 0 0, .slice none 0 0] 27)) := ⟨_, rfl⟩
  have H0 : Hid (Wy w w0) := Lib.hid (by rw [hw0]; exact Wy.start w)
  go_wp2_with fail
  rw [← hw0, show w.heap.size + 1 + 1 = w.heap.size + 2 from rfl]
  clear hw0
  refine (C.out _).mono ?_
  rintro e w1 ⟨rfl, b⟩
  have H1 := Lib.hid (H0.out.next b)
  clear b H0
  have r0 := cell_of_row w1 w.heap.size 0 _ _ _ H1.out.r
  have r1 := cell_of_row w1 w.heap.size 1 _ _ _ H1.out.r
  have r2 := cell_of_row w1 w.heap.size 2 _ _ _ H1.out.r
  have r3 := cell_of_row w1 w.heap.size 3 _ _ _ H1.out.r
  have r4 := cell_of_row w1 w.heap.size 4 _ _ _ H1.out.r
  have r5 := cell_of_row w1 w.heap.size 5 _ _ _ H1.out.r
  simp at r0 r1 r2 r3 r4 r5
  have fr0 := frozen_of_row w1 w.heap.size 0 _ _ H1.out.r
  have fr1 := frozen_of_row w1 w.heap.size 1 _ _ H1.out.r
  have fr2 := frozen_of_row w1 w.heap.size 2 _ _ H1.out.r
  have fr3 := frozen_of_row w1 w.heap.size 3 _ _ H1.out.r
  have fr4 := frozen_of_row w1 w.heap.size 4 _ _ H1.out.r
  have fr5 := frozen_of_row w1 w.heap.size 5 _ _ H1.out.r
  have s0 := cell_of_row w1 (w.heap.size + 1) 0 _ _ _ H1.out.sp
  have s1 := cell_of_row w1 (w.heap.size + 1) 1 _ _ _ H1.out.sp
  simp at s0 s1
  have fs0 := frozen_of_row w1 (w.heap.size + 1) 0 _ _ H1.out.sp
  have fs1 := frozen_of_row w1 (w.heap.size + 1) 1 _ _ H1.out.sp
  have n0 := cell_of_row w1 (w.heap.size + 2) 0 _ _ _ H1.out.no
  have n1 := cell_of_row w1 (w.heap.size + 2) 1 _ _ _ H1.out.no
  have n2 := cell_of_row w1 (w.heap.size + 2) 2 _ _ _ H1.out.no
  have n3 := cell_of_row w1 (w.heap.size + 2) 3 _ _ _ H1.out.no
  have n4 := cell_of_row w1 (w.heap.size + 2) 4 _ _ _ H1.out.no
  have n5 := cell_of_row w1 (w.heap.size + 2) 5 _ _ _ H1.out.no
  simp at n0 n1 n2 n3 n4 n5
  go_wp2
  obtain ⟨wz, hwz, e1, e2, e3, e4, e5⟩ := Wy.told H1.out (.int .i64 0) (.int .i64 0) (.slice none 0 0) (.slice none 0 0) (.slice none 0 0) (.slice none 0 0) (.int .i64 0) (.int .i64 4)
  rw [← hwz]
  have k0 := cell_of_row wz w.heap.size 0 _ _ _ e1
  have k1 := cell_of_row wz w.heap.size 1 _ _ _ e1
  have k2 := cell_of_row wz w.heap.size 2 _ _ _ e1
  have k3 := cell_of_row wz w.heap.size 3 _ _ _ e1
  have k4 := cell_of_row wz w.heap.size 4 _ _ _ e1
  have k5 := cell_of_row wz w.heap.size 5 _ _ _ e1
  simp at k0 k1 k2 k3 k4 k5
  have m0 := cell_of_row wz (w.heap.size + 1) 0 _ _ _ e2
  have m1 := cell_of_row wz (w.heap.size + 1) 1 _ _ _ e2
  simp at m0 m1
  clear hwz
  refine bodyPost_ret (v := .tuple #[.agg #[.int .i64 0, .int .i64 0, .slice none 0 0, .slice none 0 0, .slice none 0 0, .slice none 0 0], .agg #[.int .i64 0, .int .i64 4], .int .i64 62]) ?_ rfl (G.out _ e3)
  rw [results_cc_tmp rfl]
  go_simp
set_option maxRecDepth 100000 in
set_option maxHeartbeats 4000000 in
theorem rwhy_ver (s : ByteArray) (w : World) (hs : s.size ≤ 1000) (h : 21 ≤ s.size) (hy : sound s) (hm : magicB (txB s)) (hv : ¬ verB (txB s)) : Calls Tryz.prog 16 #[.string s] w (GotWhy s w) := by
  have g1 : decide ((s.size : Int) < 21) = false := by rw [decide_eq_false_iff_not]; omega
  have g2 : decide (s.size < 21) = false := by rw [decide_eq_false_iff_not]; omega
  have C := Lib.hid (fun W => ropen_yes s W hs hy)
  have G := Lib.hid (fun w' (k : Below w.heap.size w w') => GotWhy.of (flaw_ver h hy hm hv) k)
  have e4 : ∀ W : World, (Instr.slice 9 (.string s) none (some (.int .i64 4)) none).run Tryz.prog W = .ok (.string (s.extract 0 4)) W := fun W => run_slice_string_lo s W 4 (by omega) (by omega)
  rw [(dag1_iff h).mpr hm] at e4
  obtain ⟨c, hc, hcv⟩ := ver_at (b := txB s) (by rw [txB_length]; omega)
  have i0 : ∀ W, (Instr.index 9 (.string s) (.int .i64 4)).run Tryz.prog W = .ok (.int .u8 (c.toNat : Int)) W := fun W => by
    rw [run_index_string (P := Tryz.prog) W 9 s .i64 4 Tryz.underlying9, dif_pos ⟨by omega, by omega⟩]
    have e : s[(4 : Int).toNat]'(by show 4 < _; omega) = c := by
      unfold txB at hc
      rw [text_list', List.getElem?_take_of_lt (by omega), Array.getElem?_toList] at hc
      exact (Array.getElem?_eq_some_iff.mp hc).2
    rw [e]
  unfold verB at hv
  rw [hcv] at hv
  have g3 : ((c.toNat : Int) != 1) = true := bne_iff_ne.mpr hv
  clear hy hm hv hc hcv
  go_enter Tryz.func16, Tryz.ntmps16
  obtain ⟨w0, hw0⟩ : ∃ w0, w0 = (((w.alloc (.cells #[.int .i64 0, .int .i64 0, .slice none 0 0, .slice none 0 0, .slice none 0 0, .slice none 0 0] 27)).alloc (.cells #[.int .i64 0, .int .i64 0] 37)).alloc (.cells #[.int .i64 0, .int .i64 0, .slice none 0 0, .slice none 0 0, .slice none 0 0, .slice none 0 0] 27)) := ⟨_, rfl⟩
  have H0 : Hid (Wy w w0) := Lib.hid (by rw [hw0]; exact Wy.start w)
  go_wp2_with fail
  rw [← hw0, show w.heap.size + 1 + 1 = w.heap.size + 2 from rfl]
  clear hw0
  refine (C.out _).mono ?_
  rintro e w1 ⟨rfl, b⟩
  have H1 := Lib.hid (H0.out.next b)
  clear b H0
  have r0 := cell_of_row w1 w.heap.size 0 _ _ _ H1.out.r
  have r1 := cell_of_row w1 w.heap.size 1 _ _ _ H1.out.r
  have r2 := cell_of_row w1 w.heap.size 2 _ _ _ H1.out.r
  have r3 := cell_of_row w1 w.heap.size 3 _ _ _ H1.out.r
  have r4 := cell_of_row w1 w.heap.size 4 _ _ _ H1.out.r
  have r5 := cell_of_row w1 w.heap.size 5 _ _ _ H1.out.r
  simp at r0 r1 r2 r3 r4 r5
  have fr0 := frozen_of_row w1 w.heap.size 0 _ _ H1.out.r
  have fr1 := frozen_of_row w1 w.heap.size 1 _ _ H1.out.r
  have fr2 := frozen_of_row w1 w.heap.size 2 _ _ H1.out.r
  have fr3 := frozen_of_row w1 w.heap.size 3 _ _ H1.out.r
  have fr4 := frozen_of_row w1 w.heap.size 4 _ _ H1.out.r
  have fr5 := frozen_of_row w1 w.heap.size 5 _ _ H1.out.r
  have s0 := cell_of_row w1 (w.heap.size + 1) 0 _ _ _ H1.out.sp
  have s1 := cell_of_row w1 (w.heap.size + 1) 1 _ _ _ H1.out.sp
  simp at s0 s1
  have fs0 := frozen_of_row w1 (w.heap.size + 1) 0 _ _ H1.out.sp
  have fs1 := frozen_of_row w1 (w.heap.size + 1) 1 _ _ H1.out.sp
  have n0 := cell_of_row w1 (w.heap.size + 2) 0 _ _ _ H1.out.no
  have n1 := cell_of_row w1 (w.heap.size + 2) 1 _ _ _ H1.out.no
  have n2 := cell_of_row w1 (w.heap.size + 2) 2 _ _ _ H1.out.no
  have n3 := cell_of_row w1 (w.heap.size + 2) 3 _ _ _ H1.out.no
  have n4 := cell_of_row w1 (w.heap.size + 2) 4 _ _ _ H1.out.no
  have n5 := cell_of_row w1 (w.heap.size + 2) 5 _ _ _ H1.out.no
  simp at n0 n1 n2 n3 n4 n5
  go_wp2
  obtain ⟨wz, hwz, e1, e2, e3, e4, e5⟩ := Wy.told H1.out (.int .i64 0) (.int .i64 0) (.slice none 0 0) (.slice none 0 0) (.slice none 0 0) (.slice none 0 0) (.int .i64 4) (.int .i64 5)
  rw [← hwz]
  have k0 := cell_of_row wz w.heap.size 0 _ _ _ e1
  have k1 := cell_of_row wz w.heap.size 1 _ _ _ e1
  have k2 := cell_of_row wz w.heap.size 2 _ _ _ e1
  have k3 := cell_of_row wz w.heap.size 3 _ _ _ e1
  have k4 := cell_of_row wz w.heap.size 4 _ _ _ e1
  have k5 := cell_of_row wz w.heap.size 5 _ _ _ e1
  simp at k0 k1 k2 k3 k4 k5
  have m0 := cell_of_row wz (w.heap.size + 1) 0 _ _ _ e2
  have m1 := cell_of_row wz (w.heap.size + 1) 1 _ _ _ e2
  simp at m0 m1
  clear hwz
  refine bodyPost_ret (v := .tuple #[.agg #[.int .i64 0, .int .i64 0, .slice none 0 0, .slice none 0 0, .slice none 0 0, .slice none 0 0], .agg #[.int .i64 4, .int .i64 5], .int .i64 63]) ?_ rfl (G.out _ e3)
  rw [results_cc_tmp rfl]
  go_simp
end Go.Proofs.YtlimcimioeepaaaGreatDoor
set_option linter.unusedVariables false
namespace Go.Proofs.YtlimcimioeepaaaGreatDoor
open Go.Lib

def tripI (x : Int × Int × Int) : List Int := [x.1, x.2.1, x.2.2]
def pairI (x : Int × Int) : List Int := [x.1, x.2]
def barI (x : List Int × List Int) : List Int := (x.1.length : Int) :: (x.2.length : Int) :: (x.1 ++ x.2)
/-- A task's numbers behind its two times, in the order in which they stand. -/
def numsT (T : Task) : List Int := T.parts.flatMap tripI ++ (T.edges.flatMap pairI ++ (T.futures.flatMap tripI ++ T.bars.flatMap barI))
/-- The numbers of the barriers that are left. -/
def barsV (b : List UInt8) : Nat → Nat × Bool → List Int
  | 0, _ => []
  | n + 1, s => valsW b (barWs b s) s ++ barsV b n (barS b s).2
/-- The numbers still to be read, with these widths and as many barriers left, from a place on; and where that ends. -/
def restV (b : List UInt8) (ws : List Nat) (left p : Nat) : List Int := valsW b ws (p, false) ++ barsV b left (wayS b ws (p, false))
def restS (b : List UInt8) (ws : List Nat) (left p : Nat) : Nat × Bool := (rowS (barS b) left (wayS b ws (p, false))).2
theorem rest_step {b : List UInt8} {k p : Nat} (h : p + k ≤ b.length) (ws : List Nat) (left : Nat) :
    restV b (k :: ws) left p = rd k (b.drop p) :: restV b ws left (p + k) ∧ restS b (k :: ws) left p = restS b ws left (p + k) := by
  unfold restV restS
  rw [valsW, wayS, numS_fine h]
  exact ⟨rfl, rfl⟩
theorem rest_cut {b : List UInt8} {k p : Nat} (h : ¬ p + k ≤ b.length) (ws : List Nat) (left : Nat) : restS b (k :: ws) left p = (p, true) := by
  unfold restS
  rw [wayS, numS_cut h]
  simp only
  rw [wayS_bad, barsS_bad]
theorem rest_bar (b : List UInt8) (left p : Nat) : restV b [] (left + 1) p = restV b (barWs b (p, false)) left p ∧ restS b [] (left + 1) p = restS b (barWs b (p, false)) left p := by
  unfold restV restS
  rw [barsV, rowS, wayS, valsW, List.nil_append, barS_way]
  exact ⟨rfl, rfl⟩
theorem rest_end (b : List UInt8) (p : Nat) : restV b [] 0 p = [] ∧ restS b [] 0 p = (p, false) := ⟨rfl, rfl⟩
/-- A barrier's two counts that aren't there. -/
theorem rest_bar_cut {b : List UInt8} {p : Nat} (h : p ≤ b.length) (h2 : b.length < p + 2) (left : Nat) : restS b [] (left + 1) p = (if p < b.length then p + 1 else p, true) := by
  rw [(rest_bar b left p).2]
  unfold barWs
  by_cases h1 : p < b.length
  · rw [if_pos h1, (rest_step (by omega) _ _).2, rest_cut (by omega)]
  · rw [if_neg h1, rest_cut (by omega)]
theorem barWs_two {b : List UInt8} {p : Nat} (h : p + 2 ≤ b.length) : barWs b (p, false) = 1 :: 1 :: List.replicate (cnt b p + cnt b (p + 1)) 1 := by
  unfold barWs
  rw [numS_fine (k := 1) (p := p) (by omega)]
  simp only
  rw [numS_fine (k := 1) (p := p + 1) (by omega)]
  rfl
theorem rest_start {b : List UInt8} (h : 17 ≤ b.length) : restS b (W0 (cnt b 5) (cnt b 6) (cnt b 7)) (cnt b 8) 17 = (taskS b (5, false)).2 := by
  rw [taskS_eq h, rowsS_way]
  rfl
theorem rows_vals {α : Type} {b : List UInt8} {f : Nat × Bool → α × (Nat × Bool)} {ws : List Nat} {g : α → List Int} (h : ∀ s, (f s).2 = wayS b ws s) (hg : ∀ s, g (f s).1 = valsW b ws s) :
    ∀ (n : Nat) (s : Nat × Bool), (rowS f n s).1.flatMap g = valsW b (List.replicate n ws).flatten s
  | 0, s => rfl
  | n + 1, s => by
    rw [rowS, List.flatMap_cons, List.replicate_succ, List.flatten_cons, valsW_append, ← h s, hg s]
    rw [rows_vals h hg n _]
theorem ones_vals (b : List UInt8) (n : Nat) (s : Nat × Bool) : (rowS (numS b 1) n s).1 = valsW b (List.replicate n 1) s := by
  have h := rows_vals (b := b) (f := numS b 1) (ws := [1]) (g := fun x => [x]) (fun s => rfl) (fun s => rfl) n s
  rw [ones_flat] at h
  rw [← h]
  simp
theorem barI_vals (b : List UInt8) (s : Nat × Bool) : barI (barS b s).1 = valsW b (barWs b s) s := by
  have h1 := (numS_small (b := b) (k := 1) (P := 256) rfl s).1
  have h2 := (numS_small (b := b) (k := 1) (P := 256) rfl (numS b 1 s).2).1
  unfold barI barWs
  rw [valsW, valsW, ones_add, valsW_append]
  show (((rowS (numS b 1) (numS b 1 s).1.toNat (numS b 1 (numS b 1 s).2).2).1.length : Nat) : Int) :: (((rowS (numS b 1) (numS b 1 (numS b 1 s).2).1.toNat (rowS (numS b 1) (numS b 1 s).1.toNat (numS b 1 (numS b 1 s).2).2).2).1.length : Nat) : Int) :: _ = _
  rw [rowS_length, rowS_length, Int.toNat_of_nonneg h1, Int.toNat_of_nonneg h2, ← ones_vals, ← ones_vals, ← onesS_way]
  rfl
theorem bars_vals (b : List UInt8) : ∀ (n : Nat) (s : Nat × Bool), (rowS (barS b) n s).1.flatMap barI = barsV b n s
  | 0, s => rfl
  | n + 1, s => by rw [rowS, List.flatMap_cons, barsV, barI_vals, bars_vals b n _]
/-- All numbers, where the bytes hold what they tell. -/
theorem rest_all {b : List UInt8} (h : 17 ≤ b.length) (hf : fitsB b) : restV b (W0 (cnt b 5) (cnt b 6) (cnt b 7)) (cnt b 8) 17 = numsT (taskR b) := by
  have e : (taskS b (5, false)).1 = taskR b := congrArg Prod.fst (taskS_fine h hf)
  rw [taskS_eq h] at e
  rw [← e]
  unfold numsT rowsS restV
  simp only
  rw [rows_vals (partS_way b) (fun s => rfl), rows_vals (edgeS_way b) (fun s => rfl), rows_vals (futS_way b) (fun s => rfl), bars_vals, rowS_way (partS_way b), rowS_way (edgeS_way b), rowS_way (futS_way b)]
  unfold W0
  rw [valsW_append, valsW_append, wayS_append, wayS_append]
  simp only [List.append_assoc]
end Go.Proofs.YtlimcimioeepaaaGreatDoor
set_option linter.unusedVariables false
namespace Go.Proofs.YtlimcimioeepaaaGreatDoor
open Go.RowKit

structure TwoI (w : World) (base : Nat) (v1 : Value) (zs : List Int) (v2 : Value) (ys : List Int) : Prop where
  a : OwnI w base v1 zs
  b : OwnI w base v2 ys
  apart : ∀ k, v1.ownBlock = some k → v2.ownBlock ≠ some k
theorem TwoI.swap {w : World} {base : Nat} {v1 v2 : Value} {zs ys : List Int} (h : TwoI w base v1 zs v2 ys) : TwoI w base v2 ys v1 zs := ⟨h.b, h.a, fun k h1 h2 => h.apart k h2 h1⟩
theorem TwoI.below {w w' : World} {base : Nat} {v1 v2 : Value} {zs ys : List Int} (h : TwoI w base v1 zs v2 ys) (hb : Below w.heap.size w w') : TwoI w' base v1 zs v2 ys := ⟨h.a.below hb, h.b.below hb, h.apart⟩
theorem TwoI.new {w : World} {base : Nat} {v : Value} {zs : List Int} (h : OwnI w base v zs) (hb : base ≤ w.heap.size) : TwoI (w.alloc (.cells #[] 3)) base v zs (.slice (some ⟨w.heap.size, 0, none⟩) 0 0) [] :=
  ⟨h.alloc _, OwnI.new w base hb, fun k h1 h2 => by
    have h3 := (h.lt k h1).2
    obtain rfl : w.heap.size = k := Option.some.inj h2
    omega⟩
/-- 'append(l, n ..)': the integers lie in a block of their own, laid just ahead; the other list stays. -/
theorem wpList_pushN {ops : Array Oper} {rest : List Oper} {o : Oper} {a : Act} {Q : Exit → Act → World → Prop} (hgd : o.guard = none) (s x : Operand)
    (ho : o.op = .call { callee := .builtin .append, args := #[s, x], argTypes := #[47, 47] })
    (w1 : World) (base : Nat) (v v2 : Value) (zs ys : List Int) (news : List Int) (m : Nat) (hm : news.length = m) (hm0 : 0 < m) (hm9 : m ≤ 9) (cs : Array Value) (hcs : cs = (news.map (Value.int .i64)).toArray) (len : Nat) (hlen : zs.length = len) (hl : len ≤ 900000) (hT : TwoI w1 base v zs v2 ys) (hB : base ≤ w1.heap.size)
    (hs : a.eval s = v) (hx : a.eval x = .slice (some ⟨w1.heap.size, 0, none⟩) m m)
    (h : ∀ A' c' w', TwoI w' base (.slice A' (len + m) c') (zs ++ news) v2 ys → Below base w1 w' → wpList Tryz.prog ops Q rest (a.put o.dst (.slice A' (len + m) c')) w') : wpList Tryz.prog ops Q (o :: rest) a (w1.alloc (.cells cs 3)) := by
  subst hcs
  obtain ⟨i0, hi0, hz0, hz1, hz2⟩ : ∃ i, Tryz.prog.info? 3 = some i ∧ i.zero = some (.int .i64 0) ∧ i.size = 1 ∧ i.bytes = 8 := by
    have h := int_cell_info
    cases hi : Tryz.prog.info? 3 with
    | none => rw [hi] at h; cases h
    | some i =>
      rw [hi] at h
      simp at h
      exact ⟨i, rfl, h.1, h.2.1, h.2.2⟩
  subst hlen
  have hO := hT.a
  refine wpList_append_lies _ hgd s x 47 ho base 3 i0 (.int .i64 0) 1 8 Tryz.underlying47 hi0 hz0 hz1 hz2 rfl (by omega) v zs.length (zs.map (Value.int .i64)) hs (hO.alloc _) ⟨w1.heap.size, 0, none⟩ m m (news.map (Value.int .i64)) hx (by simp [hm]) ?_ ?_
    hm0 (by unfold maxLen; omega) (by omega) (by simp; omega) _ rfl ?_
  · intro j u hu
    rw [addr_add, World.cell?_alloc_at _ _ _ _ rfl]
    simpa using hu
  · intro u hu
    obtain ⟨n, _, rfl⟩ := List.mem_map.1 hu
    rfl
  · intro g cap w' hown' hg hat hlt
    have hO' : OwnI w' base (.slice (some ⟨g, 0, none⟩) (zs.length + m) cap) (zs ++ news) := by
      unfold OwnI
      rw [List.length_append, hm, List.map_append]
      exact hown'
    refine h _ cap w' ⟨hO', ?_, fun k h1 h2 => ?_⟩ (((Below.refl base w1).alloc hB _).grown hg (by simp; omega) (fun k hk => (hO.lt k hk).1))
    · refine World.ownsRow.kept (hT.b.alloc _) hg ?_
      cases hv : v2.ownBlock with
      | none => exact .inl rfl
      | some k => exact .inr fun e => hT.apart k e.symm hv
    · obtain rfl : g = k := Option.some.inj h1
      rcases hat with h3 | h3
      · exact hT.apart g h3 h2
      · have h4 := (hT.b.lt g h2).2
        simp at h3
        omega
end Go.Proofs.YtlimcimioeepaaaGreatDoor
set_option linter.unusedVariables false
namespace Go.Proofs.YtlimcimioeepaaaGreatDoor
open Go.RowKit

def wI (ws : List Nat) : List Int := ws.map fun n : Nat => (n : Int)
theorem wI_add (a b : List Nat) : wI (a ++ b) = wI a ++ wI b := List.map_append
theorem wI_len (a : List Nat) : (wI a).length = a.length := List.length_map _
theorem flaw_stop {s : ByteArray} {p q : Nat} (h : 21 ≤ s.size) (hy : sound s) (hm : magicB (txB s)) (hv : verB (txB s)) (hq : s.size = q + 4) (e : (taskS (txB s) (5, false)).2 = (p, true)) : flaw s = some ((p : Int), (q : Int), (64 : Int)) := by
  have hl : 17 ≤ (txB s).length := by rw [txB_length]; omega
  have hf : ¬ fitsB (txB s) := fun k => by
    rw [taskS_fine hl k] at e
    simp at e
  have hc : cutS (txB s) = p := by unfold cutS; rw [e]
  unfold flaw
  rw [if_neg (by omega), if_neg (fun k => k hy), if_neg (fun k => k hm), if_neg (fun k => k hv), if_pos hf, hc, show (s.size : Int) - 4 = (q : Int) by omega]
theorem flaw_read {s : ByteArray} {p : Nat} (h : 21 ≤ s.size) (e : (taskS (txB s) (5, false)).2 = (p, false)) : fitsB (txB s) ∧ wholeB (txB s) = p := by
  have hl : 17 ≤ (txB s).length := by rw [txB_length]; omega
  by_cases hf : fitsB (txB s)
  · rw [taskS_fine hl hf] at e
    simp at e
    exact ⟨hf, e⟩
  · obtain ⟨q, h1, _⟩ := taskS_cut hl hf
    rw [h1] at e
    simp at e
theorem flaw_after {s : ByteArray} {p q : Nat} (h : 21 ≤ s.size) (hy : sound s) (hm : magicB (txB s)) (hv : verB (txB s)) (hq : s.size = q + 4) (hf : fitsB (txB s)) (hw : wholeB (txB s) = p) : (p < q → flaw s = some ((p : Int), (q : Int), (65 : Int))) ∧
    (p = q → (chkT (taskR (txB s)) ≠ 0 → flaw s = some ((5 : Int), (q : Int), chkT (taskR (txB s)))) ∧ (chkT (taskR (txB s)) = 0 → flaw s = none)) := by
  have hl := txB_length s
  have e : (s.size : Int) - 4 = (q : Int) := by omega
  unfold flaw
  rw [if_neg (by omega), if_neg (fun k => k hy), if_neg (fun k => k hm), if_neg (fun k => k hv), if_neg (fun k => k hf), hw, e]
  refine ⟨fun k => by rw [if_pos (by omega)], fun k => ⟨fun k2 => by rw [if_neg (by omega), if_pos k2], fun k2 => by rw [if_neg (by omega), if_neg (fun k3 => k3 k2)]⟩⟩
theorem own_addr {w : World} {base : Nat} {A : Option Addr} {u c : Nat} {zs : List Int} (h : OwnI w base (.slice A u c) zs) (h0 : 0 < zs.length) : ∃ g off, A = some ⟨g, off, none⟩ := by
  obtain ⟨A', c', e, hI⟩ := h.slice
  injection e with e1 _ _
  subst e1
  obtain ⟨g, off, e, _⟩ := hI h0
  exact ⟨g, off, e⟩
theorem own_cell {w : World} {base g off u c k x : Nat} {D : List Int} {ws : List Nat} (h : OwnI w base (.slice (some ⟨g, off, none⟩) u c) (D ++ wI (x :: ws))) (hD : D.length = k) : w.cell? ⟨g, off + k, none⟩ = some (.int .i64 (x : Int)) := by
  obtain ⟨A', c', e, hI⟩ := h.slice
  injection e with e1 _ _
  subst e1
  have hk : k < (D ++ wI (x :: ws)).length := by rw [List.length_append, wI_len, List.length_cons]; omega
  obtain ⟨g', off', e, _, hc⟩ := hI (by omega)
  injection e with e
  injection e with e2 e3 _
  subst e2 e3
  rw [hc k hk, List.getD_eq_getElem?_getD, List.getElem?_append_right (by omega), hD, Nat.sub_self]
  rfl
/-- An own row lies from its bound on. -/
theorem own_from {w : World} {base : Nat} {A : Option Addr} {u c : Nat} {zs : List Int} (h : OwnI w base (.slice A u c) zs) : ∀ a, A = some a → base ≤ a.block := by
  intro a e
  subst e
  rcases h.2 with ⟨e, _⟩ | ⟨g, cap, cur, e, hb, _⟩
  · cases e
  · injection e with e1 _ _
    have e2 := Option.some.inj e1
    rw [e2]
    exact hb
theorem wI_cons (D : List Int) (x : Nat) (ws : List Nat) : D ++ wI (x :: ws) = (D ++ [(x : Int)]) ++ wI ws := by rw [List.append_assoc]; rfl
theorem get_x {b : List UInt8} {p x q : Nat} (hq : q = b.length) (hq2 : q ≤ 996) (hx : ∃ P, Wid x P) (hp : p + x ≤ q) (W : World) :
    Calls Tryz.prog 30 #[.string (txt b), .int .i64 (p : Int), .int .i64 (x : Int)] W fun e w' => e = .returned (.tuple #[.int .i64 (rd x (b.drop p)), .int .i64 0]) ∧ W = w' := by
  obtain ⟨P, hP⟩ := hx
  have h := rget_any (txt b) (p : Int) (x : Int) W (by rw [txt_size]; omega) (by omega)
  rwa [txt_list, (get_is hP (by omega)).1, (get_is hP (by omega)).2] at h
theorem get_x_not {b : List UInt8} {p x q : Nat} (hq : q = b.length) (hq2 : q ≤ 996) (hpq : p ≤ q) (hx : ∃ P, Wid x P) (hp : ¬ p + x ≤ q) (W : World) :
    Calls Tryz.prog 30 #[.string (txt b), .int .i64 (p : Int), .int .i64 (x : Int)] W fun e w' => e = .returned (.tuple #[.int .i64 0, .int .i64 21]) ∧ W = w' := by
  obtain ⟨P, hP⟩ := hx
  have h := rget_any (txt b) (p : Int) (x : Int) W (by rw [txt_size]; omega) (by omega)
  rwa [txt_list, (get_not hP (by omega)).1, (get_not hP (by omega)).2] at h
end Go.Proofs.YtlimcimioeepaaaGreatDoor
set_option linter.unusedVariables false
namespace Go.Proofs.YtlimcimioeepaaaGreatDoor
open Go.RowKit

def AddrFrom (base : Nat) (A : Option Addr) : Prop := ∀ a, A = some a → base ≤ a.block
structure FromT (base : Nat) (w : World) (s : Sh) : Prop where
  p : AddrFrom base s.P
  e : AddrFrom base s.E
  f : AddrFrom base s.F
  r : AddrFrom base s.R
  ins : ∀ b off k A n c, s.R = some ⟨b, off, none⟩ → k < 2 * s.nr → w.cell? ⟨b, off + k, none⟩ = some (.slice A n c) → AddrFrom base A
theorem Ints.from_ {w w' : World} {B base : Nat} {A : Option Addr} {zs : List Int} (h : Ints w B A zs) (ha : AddrFrom base A) (hk : ∀ p : Addr, base ≤ p.block → w'.cell? p = w.cell? p) : Ints w' B A zs := fun hn => by
  obtain ⟨b, off, e, hb, hc⟩ := h hn
  have hb' : base ≤ b := ha _ e
  exact ⟨b, off, e, hb, fun k hk' => (hk ⟨b, _, none⟩ hb').trans (hc k hk')⟩
theorem Trips.from_ {w w' : World} {B base : Nat} {A : Option Addr} {es : List (Int × Int × Int)} (h : Trips w B A es) (ha : AddrFrom base A) (hk : ∀ p : Addr, base ≤ p.block → w'.cell? p = w.cell? p) : Trips w' B A es := fun hn => by
  obtain ⟨b, off, e, hb, hc⟩ := h hn
  refine ⟨b, off, e, hb, fun k x hx => ?_⟩
  obtain ⟨h1, h2, h3⟩ := hc k x hx
  have hb' : base ≤ b := ha _ e
  exact ⟨(hk ⟨b, _, none⟩ hb').trans h1, (hk ⟨b, _, none⟩ hb').trans h2, (hk ⟨b, _, none⟩ hb').trans h3⟩
theorem Pairs.from_ {w w' : World} {B base : Nat} {A : Option Addr} {es : List (Int × Int)} (h : Pairs w B A es) (ha : AddrFrom base A) (hk : ∀ p : Addr, base ≤ p.block → w'.cell? p = w.cell? p) : Pairs w' B A es := fun hn => by
  obtain ⟨b, off, e, hb, hc⟩ := h hn
  refine ⟨b, off, e, hb, fun k x hx => ?_⟩
  obtain ⟨h1, h2⟩ := hc k x hx
  have hb' : base ≤ b := ha _ e
  exact ⟨(hk ⟨b, _, none⟩ hb').trans h1, (hk ⟨b, _, none⟩ hb').trans h2⟩
theorem Bars.from_ {w w' : World} {B base : Nat} {A : Option Addr} {bs : List (List Int × List Int)} {n : Nat} (h : Bars w B A bs) (hn : bs.length = n) (ha : AddrFrom base A)
    (hi : ∀ b off k A' m c, A = some ⟨b, off, none⟩ → k < 2 * n → w.cell? ⟨b, off + k, none⟩ = some (.slice A' m c) → AddrFrom base A') (hk : ∀ p : Addr, base ≤ p.block → w'.cell? p = w.cell? p) : Bars w' B A bs := fun hp => by
  obtain ⟨b, off, e, hb, hc⟩ := h hp
  refine ⟨b, off, e, hb, fun k x hx => ?_⟩
  obtain ⟨A1, c1, A2, c2, h1, h2, h3, h4, h5⟩ := hc k x hx
  have hkn : k < n := by rw [← hn]; exact (List.getElem?_eq_some_iff.mp hx).1
  have hb' : base ≤ b := ha _ e
  exact ⟨A1, c1, A2, c2, (hk ⟨b, _, none⟩ hb').trans h1, (hk ⟨b, _, none⟩ hb').trans h2, h3.from_ (hi b off (k * 2) _ _ _ e (by omega) h1) hk, h4.from_ (hi b off (k * 2 + 1) _ _ _ e (by omega) h2) hk, h5⟩
theorem IsT.from_ {w w' : World} {B base : Nat} {s : Sh} {T : Task} (h : IsT w B s T) (ha : FromT base w s) (hk : ∀ p : Addr, base ≤ p.block → w'.cell? p = w.cell? p) : IsT w' B s T :=
  ⟨h.hp, h.he, h.hf, h.hr, h.parts.from_ ha.p hk, h.edges.from_ ha.e hk, h.futures.from_ ha.f hk, h.bars.from_ h.hr ha.r ha.ins hk, h.nP, h.nE, h.nF, h.nR⟩
theorem FromT.below {w w' : World} {B base : Nat} {s : Sh} {T : Task} (h : FromT base w s) (i : IsT w B s T) (hb : Below B w w') : FromT base w' s :=
  ⟨h.p, h.e, h.f, h.r, fun b off k A n c e hk hc => by
    obtain ⟨b', off', e', hb', _⟩ := i.bars (by rw [i.hr]; omega)
    rw [e] at e'
    obtain ⟨rfl, rfl⟩ : b = b' ∧ off = off' := by
      injection e' with e'
      injection e' with e1 e2 _
      exact ⟨e1, e2⟩
    rw [hb.cell (show (⟨b, off + k, none⟩ : Addr).block < B from hb')] at hc
    exact h.ins b off k A n c e hk hc⟩
end Go.Proofs.YtlimcimioeepaaaGreatDoor
set_option linter.unusedVariables false
namespace Go.Proofs.YtlimcimioeepaaaGreatDoor
open Go.RowKit

/-- New blocks, or one row of elements of type t (from base on) that grows. -/
def RX (t : TypeId) (base : Nat) (row : Option Nat) (w w' : World) : Prop :=
  Below w.heap.size w w' ∨ (w.grownBy w' row ∧ ∀ b, row = some b → base ≤ b ∧ ∃ cs fr, w.heap[b]? = some (.cells cs t fr))
theorem RX.size {t : TypeId} {base : Nat} {row : Option Nat} {w w' : World} (h : RX t base row w w') : w.heap.size ≤ w'.heap.size := by
  rcases h with h | ⟨h, _⟩
  · exact h.size
  · exact h.size
theorem RX.heap {u : TypeId} {base : Nat} {row : Option Nat} {w w' : World} (h : RX u base row w w') {k : Nat} {cs : Array Value} {t : TypeId} {fr : Nat × Nat} (hk : w.heap[k]? = some (.cells cs t fr)) (ht : t ≠ u) : w'.heap[k]? = some (.cells cs t fr) := by
  have hlt : k < w.heap.size := (Array.getElem?_eq_some_iff.1 hk).1
  rcases h with h | ⟨h, h2⟩
  · rw [h.block k hlt]; exact hk
  · rw [h.block k hlt (fun e => by
      obtain ⟨_, cs', fr', h3⟩ := h2 k e.symm
      rw [hk] at h3
      injection h3 with h3
      injection h3 with _ h4 _
      exact ht h4)]
    exact hk
theorem RX.own {u : TypeId} {base base' : Nat} {row : Option Nat} {w w' : World} (h : RX u base row w w') {t : TypeId} {s n : Nat} {v : Value} {xs : List Value} (ho : w.ownsRow base' t s v n xs) (ht : t ≠ u) : w'.ownsRow base' t s v n xs := by
  refine ⟨ho.1, ?_⟩
  rcases ho.2 with hn | ⟨g, cap, cur, rfl, hg, hgg, rest⟩
  · exact .inl hn
  · exact .inr ⟨g, cap, cur, rfl, hg, h.heap hgg ht, rest⟩
theorem RX.below {t : TypeId} {base : Nat} {row : Option Nat} {w w' : World} (h : RX t base row w w') (hb : base ≤ w.heap.size) : Below base w w' := by
  rcases h with h | ⟨h, h2⟩
  · exact h.mono hb
  · refine ⟨h.os, h.tape, h.output, h.size, fun k hk => h.block k (by omega) (fun e => ?_)⟩
    have := (h2 k e.symm).1
    omega
/-- One new element of type t, in a block of its own. -/
def OwnX (t : TypeId) (row : Option Nat) (news : List Value) (v : Value) (w : World) : Prop :=
  ∃ h, v = .slice (some ⟨h, 0, none⟩) 1 1 ∧ w.heap[h]? = some (.cells news.toArray t (0, 0)) ∧ row ≠ some h
theorem OwnX.rx {t u : TypeId} {base : Nat} {row : Option Nat} {news : List Value} {v : Value} {w w' : World} (h : OwnX t row news v w) (hr : RX u base row w w') : OwnX t row news v w' := by
  obtain ⟨k, e, hk, hne⟩ := h
  have hlt : k < w.heap.size := (Array.getElem?_eq_some_iff.1 hk).1
  refine ⟨k, e, ?_, hne⟩
  rcases hr with hr | ⟨hr, _⟩
  · rw [hr.block k hlt]; exact hk
  · rw [hr.block k hlt (fun e => hne e.symm)]; exact hk
theorem row_lt {w : World} {base : Nat} {t : TypeId} {s n : Nat} {v : Value} {xs : List Value} (h : w.ownsRow base t s v n xs) : ∀ b, v.ownBlock = some b → base ≤ b ∧ b < w.heap.size ∧ ∃ cs fr, w.heap[b]? = some (.cells cs t fr) := by
  intro b hb
  rcases h.2 with ⟨rfl, _⟩ | ⟨g, cap, cur, rfl, hg, hgg, _⟩
  · simp [Value.ownBlock] at hb
  · obtain rfl : g = b := by simpa [Value.ownBlock] using hb
    exact ⟨hg, (Array.getElem?_eq_some_iff.1 hgg).1, _, _, hgg⟩
/-- What a row of that many elements, one more, has become. -/
def Grew (t : TypeId) (base s n : Nat) (xs : List Value) (v : Value) (w : World) : Prop := ∃ F d, v = .slice F n d ∧ w.ownsRow base t s (.slice F n d) n xs
theorem Grew.below {t : TypeId} {base s n : Nat} {xs : List Value} {v : Value} {w w' : World} (h : Grew t base s n xs v w) (hb : Below w.heap.size w w') : Grew t base s n xs v w' := by
  obtain ⟨F, d, e, ho⟩ := h
  exact ⟨F, d, e, own_below ho hb⟩
theorem ownX_append {w : World} {base : Nat} {t tl : TypeId} {s bytes n : Nat} {z u v : Value} {xs news : List Value} (hu : Tryz.prog.underlying tl = some (.slice t)) (hinf : (Tryz.prog.info? t).map (fun i => (i.zero, i.size, i.bytes)) = some (some z, s, bytes)) (hzs : z.cells.size = s) (hs0 : 0 < s) (hby : bytes ≤ 48)
    (hO : w.ownsRow base t s u n xs) (hE : OwnX t u.ownBlock news v w) (hs : news.length = s) (h1 : ∀ x ∈ news, x.oneCell' = true) (hl : n ≤ 1000) (hb : base ≤ w.heap.size) :
    ∃ v' w', (Builtin.append_ #[tl, tl] tl #[u, v]).run Tryz.prog w = .ok v' w' ∧ Grew t base s (n + 1) (xs ++ news) v' w' ∧ RX t base u.ownBlock w w' := by
  obtain ⟨h, rfl, hh, hne⟩ := hE
  obtain ⟨i0, hi0, hz0, hz1, hz2⟩ := info_parts5 hinf
  have hlt := row_lt hO
  obtain ⟨g, cap, w', hr, how, hg, hat, hgl⟩ := run_append_lies (P := Tryz.prog) w tl tl base t i0 z s bytes hu hi0 hz0 hz1 hz2 hzs hs0 u n xs hO
    ⟨h, 0, none⟩ 1 1 news (by rw [hs, Nat.one_mul]) (fun j x hx => World.news_of_block hh j x (by simpa using hx)) h1 (by omega) (by unfold maxLen; omega) (by have : (n + 1) * bytes ≤ 1001 * 48 := Nat.mul_le_mul (by omega) hby; omega) hb _ rfl
  exact ⟨_, w', hr, ⟨_, _, rfl, how⟩, .inr ⟨hg, fun b hb' => ⟨(hlt b hb').1, (hlt b hb').2.2⟩⟩⟩
/-- The cells of barriers. -/
def flatC (cs : List (Value × Value)) : List Value := cs.flatMap fun c => [c.1, c.2]
theorem flatC_len (cs : List (Value × Value)) : (flatC cs).length = cs.length * 2 := by
  induction cs with
  | nil => rfl
  | cons c cs ih =>
    rw [show flatC (c :: cs) = c.1 :: c.2 :: flatC cs from rfl, List.length_cons, List.length_cons, List.length_cons, ih]
    omega
theorem flatC_add (a b : List (Value × Value)) : flatC (a ++ b) = flatC a ++ flatC b := by unfold flatC; rw [List.flatMap_append]
theorem flatC_at : ∀ {cs : List (Value × Value)} {k : Nat} {c : Value × Value}, cs[k]? = some c → (flatC cs)[k * 2]? = some c.1 ∧ (flatC cs)[k * 2 + 1]? = some c.2
  | [], k, c, h => by simp at h
  | x :: cs, 0, c, h => by
    obtain rfl : x = c := by simpa using h
    exact ⟨rfl, rfl⟩
  | x :: cs, k + 1, c, h => by
    have := flatC_at (cs := cs) (k := k) (c := c) (by simpa using h)
    rw [show (k + 1) * 2 = k * 2 + 1 + 1 by omega, show flatC (x :: cs) = x.1 :: x.2 :: flatC cs from rfl]
    simpa using this
theorem flatC_mem {cs : List (Value × Value)} {j : Nat} {u : Value} (h : (flatC cs)[j]? = some u) : ∃ c ∈ cs, u = c.1 ∨ u = c.2 := by
  have := List.mem_of_getElem? h
  unfold flatC at this
  obtain ⟨c, hc, hu⟩ := List.mem_flatMap.mp this
  exact ⟨c, hc, by simpa using hu⟩
/-- A task in a variable of the call's own, as it is built; of its four lists the one that sk names may just be growing. -/
structure Bld (sk base g : Nat) (p q : Int) (v1 v2 v3 v4 : Value) (ps : List (Int × Int × Int)) (es : List (Int × Int)) (fs : List (Int × Int × Int)) (cs : List (Value × Value)) (w : World) : Prop where
  row : w.heap[g]? = some (.cells #[.int .i64 p, .int .i64 q, v1, v2, v3, v4] 27 (0, 0))
  le : base ≤ g
  parts : sk ≠ 0 → OwnT 52 w base v1 ps
  edges : sk ≠ 1 → OwnE w base v2 es
  futs : sk ≠ 2 → OwnT 58 w base v3 fs
  bars : sk ≠ 3 → w.ownsRow base 49 2 v4 cs.length (flatC cs)
section
variable {sk base g : Nat} {p q : Int} {v1 v2 v3 v4 : Value} {ps : List (Int × Int × Int)} {es : List (Int × Int)} {fs : List (Int × Int × Int)} {cs : List (Value × Value)} {w w' : World}
theorem Bld.rx {t : TypeId} {b : Nat} {row : Option Nat} (h : Bld sk base g p q v1 v2 v3 v4 ps es fs cs w) (hr : RX t b row w w') (h4 : 27 ≠ t) (h0 : sk ≠ 0 → 52 ≠ t) (h1 : sk ≠ 1 → 56 ≠ t) (h2 : sk ≠ 2 → 58 ≠ t) (h3 : sk ≠ 3 → 49 ≠ t) : Bld sk base g p q v1 v2 v3 v4 ps es fs cs w' :=
  ⟨hr.heap h.row h4, h.le, fun k => hr.own (h.parts k) (h0 k), fun k => hr.own (h.edges k) (h1 k), fun k => hr.own (h.futs k) (h2 k), fun k => hr.own (h.bars k) (h3 k)⟩
theorem Bld.below (h : Bld sk base g p q v1 v2 v3 v4 ps es fs cs w) (hb : Below w.heap.size w w') : Bld sk base g p q v1 v2 v3 v4 ps es fs cs w' :=
  ⟨by rw [hb.block _ (Array.getElem?_eq_some_iff.1 h.row).1]; exact h.row, h.le, fun k => own_below (h.parts k) hb, fun k => own_below (h.edges k) hb, fun k => own_below (h.futs k) hb, fun k => own_below (h.bars k) hb⟩
theorem Bld.skip (h : Bld 4 base g p q v1 v2 v3 v4 ps es fs cs w) : Bld sk base g p q v1 v2 v3 v4 ps es fs cs w :=
  ⟨h.row, h.le, fun _ => h.parts (by decide), fun _ => h.edges (by decide), fun _ => h.futs (by decide), fun _ => h.bars (by decide)⟩
theorem Bld.cell (h : Bld sk base g p q v1 v2 v3 v4 ps es fs cs w) (j : Nat) : w.cell? ⟨g, j, none⟩ = #[.int .i64 p, .int .i64 q, v1, v2, v3, v4][j]? := cell_of_row w g j _ _ _ h.row
theorem Bld.lt (h : Bld sk base g p q v1 v2 v3 v4 ps es fs cs w) : g < w.heap.size := (Array.getElem?_eq_some_iff.1 h.row).1
end
/-- A list of numbers that is part of one that came in. -/
def SubI (W : World) (B base : Nat) (v : Value) (xs : List Int) : Prop := ∃ A m, v = .slice A xs.length m ∧ Ints W B A xs ∧ AddrFrom base A ∧ (A = none → xs.length = 0 ∧ m = 0)
theorem SubI.one {W : World} {B base : Nat} {v : Value} {xs : List Int} (h : SubI W B base v xs) : v.oneCell' = true := by
  obtain ⟨A, m, rfl, _⟩ := h
  rfl
def SubB (W : World) (B base : Nat) (cs : List (Value × Value)) (bs : List (List Int × List Int)) : Prop := cs.length = bs.length ∧ ∀ (k : Nat) (c : Value × Value) (b : List Int × List Int), cs[k]? = some c → bs[k]? = some b → SubI W B base c.1 b.1 ∧ SubI W B base c.2 b.2
theorem SubB.nil (W : World) (B base : Nat) : SubB W B base [] [] := ⟨rfl, fun k c b h => by simp at h⟩
theorem SubB.snoc {W : World} {B base : Nat} {cs : List (Value × Value)} {bs : List (List Int × List Int)} {c : Value × Value} {b : List Int × List Int} (h : SubB W B base cs bs) (h1 : SubI W B base c.1 b.1) (h2 : SubI W B base c.2 b.2) : SubB W B base (cs ++ [c]) (bs ++ [b]) := by
  refine ⟨by simp [h.1], fun k c' b' hc hb => ?_⟩
  rcases Nat.lt_or_ge k cs.length with hk | hk
  · rw [List.getElem?_append_left hk] at hc
    rw [List.getElem?_append_left (by rw [← h.1]; exact hk)] at hb
    exact h.2 k c' b' hc hb
  · rw [List.getElem?_append_right hk] at hc
    rw [List.getElem?_append_right (by rw [← h.1]; exact hk)] at hb
    have hk0 : k - cs.length = 0 := by
      have := (List.getElem?_eq_some_iff.1 hc).1
      simp at this
      omega
    rw [hk0] at hc
    rw [show k - bs.length = 0 by rw [← h.1]; exact hk0] at hb
    obtain rfl : c = c' := by simpa using hc
    obtain rfl : b = b' := by simpa using hb
    exact ⟨h1, h2⟩
/-- The task in the variable is the task. -/
theorem Bld.task {base g b : Nat} {p q : Int} {F1 : Option Addr} {n1 d1 : Nat} {F2 : Option Addr} {n2 d2 : Nat} {F3 : Option Addr} {n3 d3 : Nat} {F4 : Option Addr} {n4 d4 : Nat} {T : Task} {cs : List (Value × Value)} {W w : World}
    (h : Bld 4 base g p q (.slice F1 n1 d1) (.slice F2 n2 d2) (.slice F3 n3 d3) (.slice F4 n4 d4) T.parts T.edges T.futures cs w) (hs : SubB W W.heap.size b cs T.bars) (hb : Below W.heap.size W w) (hbb : b ≤ base) :
    IsT w w.heap.size ⟨F1, n1, d1, F2, n2, d2, F3, n3, d3, F4, n4, d4⟩ T ∧ FromT b w ⟨F1, n1, d1, F2, n2, d2, F3, n3, d3, F4, n4, d4⟩ ∧ n2 ≤ d2 ∧ n3 ≤ d3 := by
  have fr : ∀ {t : TypeId} {s n : Nat} {A : Option Addr} {m c : Nat} {xs : List Value}, w.ownsRow base t s (.slice A m c) n xs → AddrFrom b A := fun {t s n A m c xs} ho a e => by
    subst e
    have := (row_lt ho a.block rfl).1
    omega
  obtain ⟨A1, c1, e1, i1, z1⟩ := (h.parts (by decide)).slice
  obtain ⟨A2, c2, e2, i2, z2⟩ := (h.edges (by decide)).slice'
  obtain ⟨A3, c3, e3, i3, z3⟩ := (h.futs (by decide)).slice
  injection e1 with a1 a2 a3
  injection e2 with b1 b2 b3
  injection e3 with k1 k2 k3
  subst a1 a2 a3 b1 b2 b3 k1 k2 k3
  have hB := h.bars (by decide)
  have hn4 : n4 = cs.length := by
    rcases hB.2 with ⟨e, hn⟩ | ⟨g', cap, cur, e, _⟩
    · injection e with _ e2 _
      omega
    · injection e
  subst hn4
  have hbars : Bars w w.heap.size F4 T.bars := fun h0 => by
    rcases hB.2 with ⟨_, hn⟩ | ⟨g', cap, cur, e, hg, hgg, _⟩
    · have := hs.1
      omega
    · injection e with e1 _ _
      subst e1
      refine ⟨g', 0, rfl, (Array.getElem?_eq_some_iff.1 hgg).1, fun k e he => ?_⟩
      have hk : k < cs.length := by rw [hs.1]; exact (List.getElem?_eq_some_iff.1 he).1
      obtain ⟨c, hc⟩ : ∃ c, cs[k]? = some c := ⟨_, List.getElem?_eq_getElem hk⟩
      obtain ⟨⟨A1, m1, q1, q2, _, q4⟩, A2, m2, r1, r2, _, r4⟩ := hs.2 k c e hc he
      obtain ⟨f1, f2⟩ := flatC_at hc
      have d1 := hB.cells (g := g') rfl _ _ f1
      have d2 := hB.cells (g := g') rfl _ _ f2
      rw [addr_add] at d1 d2
      rw [q1] at d1
      rw [r1, show 0 + (k * 2 + 1) = 0 + k * 2 + 1 by omega] at d2
      exact ⟨A1, m1, A2, m2, d1, d2, (q2.below hb).more hb.size, (r2.below hb).more hb.size, q4, r4⟩
  refine ⟨⟨rfl, rfl, rfl, hs.1.symm, i1, i2, i3, hbars, z1, z2, z3, fun e => ?_⟩, ⟨fr (h.parts (by decide)), fr (h.edges (by decide)), fr (h.futs (by decide)), fr hB, fun b' off k A n c e hk hc => ?_⟩, own_cap (h.edges (by decide)), own_cap (h.futs (by decide))⟩
  · have e0 : F4 = none := e
    rcases hB.2 with ⟨e', hn⟩ | ⟨g', cap, cur, e', _⟩
    · injection e' with _ _ e2
      exact ⟨hn, e2⟩
    · rw [e0] at e'
      injection e' with e'
      cases e'
  · simp only at e hk
    have e4 : F4 = some ⟨b', off, none⟩ := e
    rcases hB.2 with ⟨e', _⟩ | ⟨g', cap, cur, e', hg, hgg, _⟩
    · rw [e4] at e'
      injection e' with e'
      cases e'
    · injection e' with e1 _ _
      rw [e4] at e1
      obtain ⟨rfl, rfl⟩ : b' = g' ∧ off = 0 := by
        injection e1 with e1
        injection e1 with x1 x2 _
        exact ⟨x1, x2⟩
      subst e4
      have hk2 : k < (flatC cs).length := by rw [flatC_len]; omega
      have hf : (flatC cs)[k]? = some (flatC cs)[k] := List.getElem?_eq_getElem hk2
      have d := hB.cells (g := b') rfl _ _ hf
      rw [addr_add] at d
      have hcd : Value.slice A n c = (flatC cs)[k] := by
        rw [hc] at d
        exact Option.some.inj d
      obtain ⟨x, hx, hu⟩ := flatC_mem hf
      obtain ⟨j, hj⟩ := List.mem_iff_getElem?.1 hx
      obtain ⟨y, hy⟩ : ∃ y, T.bars[j]? = some y := ⟨_, List.getElem?_eq_getElem (by rw [← hs.1]; exact (List.getElem?_eq_some_iff.1 hj).1)⟩
      obtain ⟨⟨A1, m1, q1, _, q3, _⟩, A2, m2, r1, _, r3, _⟩ := hs.2 j x y hj hy
      rcases hu with hu | hu
      · rw [hu, q1] at hcd
        injection hcd with h1 _ _
        rw [h1]
        exact q3
      · rw [hu, r1] at hcd
        injection hcd with h1 _ _
        rw [h1]
        exact r3

/-! ### One step of a region that draws its order -/
set_option maxRecDepth 100000 in
theorem add_eq {ρ : Operand → Value} {o : Oper} {x y : Operand} {a b : Int} {w : World} (ho : o.op = .binOp .add 3 x y 3) (hx : ρ x = .int .i64 a) (hy : ρ y = .int .i64 b) (h1 : -9223372036854775808 ≤ a + b) (h2 : a + b ≤ 9223372036854775807) :
    (execOp ρ o).run Tryz.prog w = .ok (.value (.int .i64 (a + b))) w := by
  have hw : IntKind.i64.wrap (a + b) = a + b := by
    rw [IntKind.wrap_i64]
    omega
  simp [execOp, ho, hx, hy, hw, go_sem]
set_option maxRecDepth 100000 in
theorem idx_eq {ρ : Operand → Value} {o : Oper} {x y : Operand} {lb lo n c k : Nat} {w : World} (ho : o.op = .indexAddr 47 x y) (hx : ρ x = .slice (some ⟨lb, lo, none⟩) n c) (hy : ρ y = .int .i64 (k : Int)) (hk : k < n) :
    (execOp ρ o).run Tryz.prog w = .ok (.value (.pointer (some ⟨lb, lo + k, none⟩))) w := by
  have hk2 : (k : Int) < (n : Int) := by omega
  simp [execOp, ho, hx, hy, hk2, go_sem]
theorem int_size (W : World) : (Go.sizeOf (Tryz.prog.elem 47)).run Tryz.prog W = .ok 1 W := by kernel_rfl
set_option maxRecDepth 100000 in
theorem sub_eq {ρ : Operand → Value} {o : Oper} {x y z : Operand} {lb lo n c i d : Nat} {w : World} (ho : o.op = .slice 47 x (some y) (some z) none) (hx : ρ x = .slice (some ⟨lb, lo, none⟩) n c) (hy : ρ y = .int .i64 (i : Int)) (hz : ρ z = .int .i64 ((i + d : Nat) : Int)) (hj : i + d ≤ c) :
    (execOp ρ o).run Tryz.prog w = .ok (.value (.slice (some ⟨lb, if c = i then lo else lo + i, none⟩) d (c - i))) w := by
  have h := run_slice_lh (P := Tryz.prog) w 47 (some ⟨lb, lo, none⟩) n c Tryz.underlying47 .i64 .i64 (i : Int) ((i + d : Nat) : Int) (by omega) (by omega) (by omega)
  rw [int_size, Result.andThen_ok] at h
  have h2 : (Instr.sliceAt 47 (.slice (some ⟨lb, lo, none⟩) n c) (some (.int .i64 (i : Int))) (some (.int .i64 ((i + d : Nat) : Int))) none).run Tryz.prog w = .ok (.slice (some ⟨lb, if c = i then lo else lo + i, none⟩) d (c - i)) w := by
    rw [run_sliceAt_slice w 47 _ _ _ _ Tryz.underlying47, h]
    unfold sliced
    simp only [Int.toNat_natCast, Nat.mul_one, Option.map_some, addr_add, Nat.add_sub_cancel_left]
    by_cases hc : c = i
    · rw [if_pos hc, if_pos hc]
    · rw [if_neg hc, if_neg hc]
  simp only [execOp, ho, hx, hy, hz, Option.map_some, Option.map_none, Sem.run_bind, h2, Result.andThen, Sem.run_pure]
set_option maxRecDepth 100000 in
theorem bar_eq {ρ : Operand → Value} {o : Oper} {x y : Operand} {A1 A2 : Option Addr} {n1 c1 n2 c2 : Nat} {w : World} (ho : o.op = .build 49 #[(0, x), (1, y)]) (hx : ρ x = .slice A1 n1 c1) (hy : ρ y = .slice A2 n2 c2) :
    (execOp ρ o).run Tryz.prog w = .ok (.value (.agg #[.slice A1 n1 c1, .slice A2 n2 c2])) w := by
  simp [execOp, ho, hx, hy, go_sem]
set_option maxRecDepth 100000 in
theorem bars_eq {ρ : Operand → Value} {o : Oper} {x : Operand} {A1 A2 : Option Addr} {n1 c1 n2 c2 : Nat} {w : World} (ho : o.op = .buildSlice 25 1 #[(0, x)]) (hx : ρ x = .agg #[.slice A1 n1 c1, .slice A2 n2 c2]) :
    (execOp ρ o).run Tryz.prog w = .ok (.value (.slice (some ⟨w.heap.size, 0, none⟩) 1 1)) (w.alloc (.cells #[.slice A1 n1 c1, .slice A2 n2 c2] 49)) := by
  simp [execOp, ho, hx, go_sem]
theorem flatT_snoc (es : List (Int × Int × Int)) (e : Int × Int × Int) : flatT (es ++ [e]) = flatT es ++ [.int .i64 e.1, .int .i64 e.2.1, .int .i64 e.2.2] := by unfold flatT; rw [List.flatMap_append]; rfl
theorem flatE_snoc (es : List (Int × Int)) (e : Int × Int) : flatE (es ++ [e]) = flatE es ++ [.int .i64 e.1, .int .i64 e.2] := by rw [flatE_append]; rfl

/-! ### Numbers in a row -/
/-- What stands in a list of numbers from a place on. -/
theorem rows_at {α : Type} {L pre suf : List Int} {rows : List α} {f : α → List Int} {k m : Nat} {e : α} (hL : L = pre ++ (rows.flatMap f ++ suf)) (hk : rows[k]? = some e) (hm : m = (pre ++ (rows.take k).flatMap f).length) :
    (∀ j, j < (f e).length → L.getD (m + j) 0 = (f e).getD j 0) ∧ m + (f e).length ≤ L.length ∧ m + (f e).length = (pre ++ (rows.take (k + 1)).flatMap f).length ∧ rows.take (k + 1) = rows.take k ++ [e] := by
  obtain ⟨hkl, he⟩ := List.getElem?_eq_some_iff.1 hk
  have e1 : rows.take (k + 1) = rows.take k ++ [e] := by rw [List.take_add_one, hk]; rfl
  have e2 : rows = rows.take k ++ (e :: rows.drop (k + 1)) := by
    rw [← he]
    rw [List.getElem_cons_drop, List.take_append_drop]
  have e3 : L = (pre ++ (rows.take k).flatMap f) ++ (f e ++ ((rows.drop (k + 1)).flatMap f ++ suf)) := by
    rw [hL]
    conv => lhs; rw [e2]
    rw [List.flatMap_append, List.flatMap_cons]
    simp only [List.append_assoc]
  refine ⟨fun j hj => ?_, ?_, ?_, e1⟩
  · rw [e3, List.getD_eq_getElem?_getD, List.getElem?_append_right (by omega), ← hm, Nat.add_sub_cancel_left, List.getElem?_append_left hj, ← List.getD_eq_getElem?_getD]
  · rw [e3, List.length_append, ← hm, List.length_append]
    omega
  · rw [e1, List.flatMap_append, ← List.append_assoc, List.length_append, ← hm]
    simp
theorem numsT_len (b : List UInt8) : (numsT (taskR b)).length ≤ 200000 := by
  have h := small_R b
  have h1 : ((taskR b).parts.flatMap tripI).length = 3 * (taskR b).parts.length := by
    generalize (taskR b).parts = l
    induction l with
    | nil => rfl
    | cons x l ih => rw [List.flatMap_cons, List.length_append, ih, List.length_cons, tripI]; simp; omega
  have h2 : ((taskR b).edges.flatMap pairI).length = 2 * (taskR b).edges.length := by
    generalize (taskR b).edges = l
    induction l with
    | nil => rfl
    | cons x l ih => rw [List.flatMap_cons, List.length_append, ih, List.length_cons, pairI]; simp; omega
  have h3 : ((taskR b).futures.flatMap tripI).length = 3 * (taskR b).futures.length := by
    generalize (taskR b).futures = l
    induction l with
    | nil => rfl
    | cons x l ih => rw [List.flatMap_cons, List.length_append, ih, List.length_cons, tripI]; simp; omega
  have h4 : ((taskR b).bars.flatMap barI).length ≤ 512 * (taskR b).bars.length := by
    have hb := h.bars
    generalize (taskR b).bars = l at hb ⊢
    induction l with
    | nil => simp
    | cons x l ih =>
      have := hb x (List.mem_cons_self ..)
      have ih' := ih fun y hy => hb y (List.mem_cons_of_mem _ hy)
      rw [List.flatMap_cons, List.length_append, List.length_cons]
      have h5 : (barI x).length = 2 + x.1.length + x.2.length := by unfold barI; simp; omega
      omega
  have := h.np
  have := h.ne
  have := h.nf
  have := h.nr
  unfold numsT
  rw [List.length_append, List.length_append, List.length_append, h1, h2, h3]
  omega
theorem cnt_byte {b : List UInt8} {p : Nat} (h : p < b.length) : cnt b p = b[p].toNat := by
  unfold cnt rd
  rw [List.drop_eq_getElem_cons h]
  rw [show (b[p] :: b.drop (p + 1)).take 1 = [b[p]] from rfl]
  simp [Lib.leNat]
theorem idx_txt {b : List UInt8} {p : Nat} (h : p < b.length) (W : World) : (Instr.index 9 (.string (txt b)) (.int .i64 (p : Int))).run Tryz.prog W = .ok (.int .u8 (cnt b p : Int)) W := by
  have hz : (txt b).size = b.length := txt_size b
  rw [run_index_string (P := Tryz.prog) W 9 (txt b) .i64 p Tryz.underlying9, dif_pos ⟨by omega, by rw [hz]; omega⟩, cnt_byte h]
  rfl
theorem Bld.far {sk base g : Nat} {p q : Int} {v1 v2 v3 v4 : Value} {ps : List (Int × Int × Int)} {es : List (Int × Int)} {fs : List (Int × Int × Int)} {cs : List (Value × Value)} {w w' : World} (h : Bld sk base g p q v1 v2 v3 v4 ps es fs cs w) (hf : ∀ k, base ≤ k → w'.heap[k]? = w.heap[k]?) : Bld sk base g p q v1 v2 v3 v4 ps es fs cs w' := by
  have hr : ∀ {t : TypeId} {s n : Nat} {v : Value} {xs : List Value}, w.ownsRow base t s v n xs → w'.ownsRow base t s v n xs := fun {t s n v xs} ho => by
    refine ⟨ho.1, ?_⟩
    rcases ho.2 with hn | ⟨g', cap, cur, rfl, hg, hgg, rest⟩
    · exact .inl hn
    · exact .inr ⟨g', cap, cur, rfl, hg, (hf g' hg).trans hgg, rest⟩
  exact ⟨(hf g h.le).trans h.row, h.le, fun k => hr (h.parts k), fun k => hr (h.edges k), fun k => hr (h.futs k), fun k => hr (h.bars k)⟩
theorem sub_of {w : World} {B base lb lo c M : Nat} {L xs : List Int} (hI : Ints w B (some ⟨lb, lo, none⟩) L) (hA : AddrFrom base (some ⟨lb, lo, none⟩)) (hl : M + xs.length ≤ L.length) (hc : L.length ≤ c) (hx : ∀ i, i < xs.length → L.getD (M + i) 0 = xs.getD i 0) :
    SubI w B base (.slice (some ⟨lb, if c = M then lo else lo + M, none⟩) xs.length (c - M)) xs := by
  refine ⟨_, _, rfl, fun h0 => ?_, fun a e => ?_, fun e => by cases e⟩
  · obtain ⟨b, off, e, hb, hcell⟩ := hI (by omega)
    injection e with e
    injection e with e1 e2 _
    subst e1 e2
    rw [if_neg (by omega)]
    refine ⟨lb, lo + M, rfl, hb, fun i hi => ?_⟩
    rw [← hx i hi, ← hcell (M + i) (by omega), Nat.add_assoc]
  · have := hA _ rfl
    obtain rfl := Option.some.inj e
    exact this
/-- What 'build' answers at the numbers of the task that bytes are. -/
def BuildOk (b : List UInt8) : Prop := ∀ (W : World) (A : Option Addr) (n c base : Nat), (numsT (taskR b)).length = n → n ≤ c → Ints W W.heap.size A (numsT (taskR b)) → AddrFrom base A → base ≤ W.heap.size →
  Calls Tryz.prog 31 #[.string (txt b), .slice A n c] W fun e w' => ∃ sh : Sh, e = .returned (sh.arg (taskR b).period (taskR b).deadline) ∧ IsT w' w'.heap.size sh (taskR b) ∧ FromT base w' sh ∧ sh.ne ≤ sh.ec ∧ sh.nf ≤ sh.fc ∧ Below W.heap.size W w'
end Go.Proofs.YtlimcimioeepaaaGreatDoor
