/- What is wrong with bytes, in plain words; the contract of codec.read where the bytes don't open, in the seat YtlimcimioeepaaaGreatDoor.
   The contract of codec.read where the bytes open, in the seat YtlimcimioeepaaaGreatDoor (printed by codec/mk_read.py).
   The contract of codec.read where the bytes open, in the seat YtlimcimioeepaaaGreatDoor (printed by codec/mk_read.py).
   The contract of codec.read where the bytes open, in the seat YtlimcimioeepaaaGreatDoor (printed by codec/mk_read.py).
   The contracts of codec.read, end, Decode and Why in the seat YtlimcimioeepaaaGreatDoor (printed by codec/mk_dec.py).
   The contract of codec.Why in the seat YtlimcimioeepaaaGreatDoor (printed by codec/mk_why.py).
   No statement is proved here. -/
import Derived.Test.YtlimcimioeepaaaGreatDoorZCodecTaskC
import Derived.Test.YtlimcimioeepaaaGreatDoorZG9
import Derived.Test.YtlimcimioeepaaaGreatDoorZG18
import Derived.BigRegion
import Derived.Test.YtlimcimioeepaaaGreatDoorZG4
set_option linter.unusedVariables false
namespace Go.Proofs.YtlimcimioeepaaaGreatDoor
open Go.RowKit

open Classical in
/-- Where bytes are wrong, and how. -/
noncomputable def flaw (s : ByteArray) : Option (Int × Int × Int) :=
  if s.size < 21 then some (0, s.size, 60)
  else if ¬ sound s then some ((s.size : Int) - 4, s.size, 61)
  else if ¬ magicB (txB s) then some (0, 4, 62)
  else if ¬ verB (txB s) then some (4, 5, 63)
  else if ¬ fitsB (txB s) then some ((cutS (txB s) : Nat), (s.size : Int) - 4, 64)
  else if wholeB (txB s) < (txB s).length then some ((wholeB (txB s) : Nat), (s.size : Int) - 4, 65)
  else if chkT (taskR (txB s)) ≠ 0 then some (5, (s.size : Int) - 4, chkT (taskR (txB s)))
  else none
def zeroT : Task := ⟨0, 0, [], [], [], []⟩
def zeroSh : Sh := ⟨none, 0, 0, none, 0, 0, none, 0, 0, none, 0, 0⟩
def decO (s : ByteArray) : Option (Int × Int × Int) → Task
  | none => taskR (txB s)
  | some _ => zeroT
/-- The task that bytes are. -/
noncomputable def decT (s : ByteArray) : Task := decO s (flaw s)
def errO : Option (Int × Int × Int) → Value
  | none => .nilIface
  | some f => faultV f.1 f.2.2
/-- The worlds' package variables that codec reads. -/
structure CTab (w : World) : Prop where
  crc : Tab w
  err : ErrT w
  two : DTab w
theorem Tab.via {w w' : World} (h : Tab w) (hb : Below w.heap.size w w') : Tab w' := fun j hj => by
  rw [hb.cell h.lt]
  exact h j hj
theorem CTab.via {w w' : World} (h : CTab w) (hb : Below w.heap.size w w') : CTab w' := ⟨Tab.via h.crc hb, ErrT.via h.err hb, DTab.via h.two hb⟩
theorem few_R (b : List UInt8) : FewT (taskR b) := by
  have h := small_R b
  exact ⟨by have := h.np; omega, by have := h.ne; omega, by have := h.nf; omega, by have := h.nr; omega, fun x hx => by have := h.bars x hx; omega⟩
theorem zero_few : FewT zeroT := ⟨by decide, by decide, by decide, by decide, by simp [zeroT]⟩
theorem zero_isT (w : World) (B : Nat) : IsT w B zeroSh zeroT :=
  ⟨rfl, rfl, rfl, rfl, (fun h => absurd h (by decide)), (fun h => absurd h (by decide)), (fun h => absurd h (by decide)), (fun h => absurd h (by decide)), fun _ => ⟨rfl, rfl⟩, fun _ => ⟨rfl, rfl⟩, fun _ => ⟨rfl, rfl⟩, fun _ => ⟨rfl, rfl⟩⟩
theorem zero_isD {w : World} (h : DTab w) : IsD w zeroSh zeroT := ⟨zero_isT w _, zero_few, h, by decide, by decide⟩
/-- A task of the call's own reads as one that came in. -/
theorem OwnD.isT {base : Nat} {T : Task} {v : Value} {w : World} (h : OwnD base T v w) : ∃ s : Sh, v = s.arg T.period T.deadline ∧ IsT w w.heap.size s T ∧ s.ne ≤ s.ec ∧ s.nf ≤ s.fc := by
  obtain ⟨A1, c1, A2, c2, A3, c3, A4, c4, rfl, h1, h2, h3, h4⟩ := h
  obtain ⟨P, pc, e1, t1, n1⟩ := h1.slice
  obtain ⟨E, ec, e2, t2, n2⟩ := h2.slice'
  obtain ⟨F, fc, e3, t3, n3⟩ := h3.slice
  have q2 := own_cap h2
  have q3 := own_cap h3
  obtain ⟨R, rc, e4, t4, n4⟩ := h4.slice
  injection e1 with a1 _ b1
  injection e2 with a2 _ b2
  injection e3 with a3 _ b3
  injection e4 with a4 _ b4
  subst a1 a2 a3 a4 b1 b2 b3 b4
  exact ⟨⟨A1, _, c1, A2, _, c2, A3, _, c3, A4, _, c4⟩, rfl, ⟨rfl, rfl, rfl, rfl, t1, t2, t3, t4, n1, n2, n3, n4⟩, q2, q3⟩

theorem OwnD.at {base : Nat} {T : Task} {s : Sh} {w : World} (h : OwnD base T (s.arg T.period T.deadline) w) : IsT w w.heap.size s T ∧ s.ne ≤ s.ec ∧ s.nf ≤ s.fc := by
  obtain ⟨s', e, h1, h2, h3⟩ := h.isT
  obtain ⟨P, np, pc, E, ne, ec, F, nf, fc, R, nr, rc⟩ := s
  obtain ⟨P', np', pc', E', ne', ec', F', nf', fc', R', nr', rc'⟩ := s'
  simp only [Sh.arg, Value.agg.injEq, Array.mk.injEq, List.cons.injEq, Value.slice.injEq, true_and, and_true] at e
  obtain ⟨⟨rfl, rfl, rfl⟩, ⟨rfl, rfl, rfl⟩, ⟨rfl, rfl, rfl⟩, rfl, rfl, rfl⟩ := e
  exact ⟨h1, h2, h3⟩
theorem OwnD.below {base : Nat} {T : Task} {v : Value} {w w' : World} (h : OwnD base T v w) (hb : Below w.heap.size w w') : OwnD base T v w' := by
  obtain ⟨A1, c1, A2, c2, A3, c3, A4, c4, e, h1, h2, h3, h4⟩ := h
  exact ⟨A1, c1, A2, c2, A3, c3, A4, c4, e, h1.below hb, h2.below hb, h3.below hb, h4.below hb⟩
theorem OwnD.grown {base g : Nat} {T : Task} {v : Value} {w w' : World} (h : OwnD base T v w) (hg : w.grownBy w' (some g)) (hb : g < base) : OwnD base T v w' := by
  obtain ⟨A1, c1, A2, c2, A3, c3, A4, c4, e, h1, h2, h3, h4⟩ := h
  exact ⟨A1, c1, A2, c2, A3, c3, A4, c4, e, h1.grown hg hb, h2.grown hg hb, h3.grown hg hb, h4.grown hg hb⟩
/-- What read hands back. -/
def Got2 (T : Task) (er : Value) (w : World) (e : Ending) (w' : World) : Prop := ∃ s : Sh, e = .returned (.tuple #[s.arg T.period T.deadline, er]) ∧ OwnD w.heap.size T (s.arg T.period T.deadline) w' ∧ Below w.heap.size w w'
theorem zero_own (base : Nat) (w : World) : OwnD base zeroT (zeroSh.arg zeroT.period zeroT.deadline) w := ⟨none, 0, none, 0, none, 0, none, 0, rfl, OwnT.nil _ _ _, OwnE.nil _ _, OwnT.nil _ _ _, OwnB.nil _ _⟩
theorem OwnD.less {base base' : Nat} {T : Task} {v : Value} {w : World} (h : OwnD base T v w) (hb : base' ≤ base) : OwnD base' T v w := by
  obtain ⟨A1, c1, A2, c2, A3, c3, A4, c4, e, h1, h2, h3, h4⟩ := h
  exact ⟨A1, c1, A2, c2, A3, c3, A4, c4, e, h1.less hb, h2.less hb, h3.less hb, h4.less hb⟩

/-- A row of six cells, written anew. -/
theorem six_cells {w : World} {q : Nat} {t : TypeId} {o0 o1 o2 o3 o4 o5 : Value} (h : w.heap[q]? = some (.cells #[o0, o1, o2, o3, o4, o5] t (0, 0))) (v0 v1 v2 v3 v4 v5 : Value) :
    ∃ w2, w2 = ((((((w.setCell ⟨q, 0, none⟩ v0).setCell ⟨q, 1, none⟩ v1).setCell ⟨q, 2, none⟩ v2).setCell ⟨q, 3, none⟩ v3).setCell ⟨q, 4, none⟩ v4).setCell ⟨q, 5, none⟩ v5) ∧ w2.heap[q]? = some (.cells #[v0, v1, v2, v3, v4, v5] t (0, 0)) ∧ (∀ k, k ≠ q → w2.heap[k]? = w.heap[k]?) ∧ ∀ B, B ≤ q → Below B w w2 := by
  refine ⟨_, rfl, ?_, fun k hk => ?_, fun B hB => ?_⟩
  · have h1 := heap_setCell_same w q 0 _ _ v0 h
    have h2 := heap_setCell_same _ q 1 _ _ v1 h1
    have h3 := heap_setCell_same _ q 2 _ _ v2 h2
    have h4 := heap_setCell_same _ q 3 _ _ v3 h3
    have h5 := heap_setCell_same _ q 4 _ _ v4 h4
    exact heap_setCell_same _ q 5 _ _ v5 h5
  · rw [heap_setCell_other _ _ _ _ hk, heap_setCell_other _ _ _ _ hk, heap_setCell_other _ _ _ _ hk, heap_setCell_other _ _ _ _ hk, heap_setCell_other _ _ _ _ hk, heap_setCell_other _ _ _ _ hk]
  · exact ((((((Below.refl B w).setCell hB _).setCell hB _).setCell hB _).setCell hB _).setCell hB _).setCell hB _
set_option maxRecDepth 100000 in
set_option maxHeartbeats 2000000 in
theorem read_shut (s : ByteArray) (w : World) (a n : Int) (hC : ∀ W, Below w.heap.size w W → Calls Tryz.prog 60 #[.string s] W fun e w' => e = .returned (.tuple #[.string ⟨#[]⟩, faultV a n]) ∧ Below W.heap.size W w') :
    Calls Tryz.prog 27 #[.string s] w (Got2 zeroT (faultV a n) w) := by
  have C := Lib.hid hC
  clear hC
  go_enter Tryz.func27, Tryz.ntmps27
  go_wp2_with fail
  obtain ⟨wA, hwA⟩ : ∃ wA, wA = w.alloc (.cells #[.int .i64 0, .int .i64 0, .slice none 0 0, .slice none 0 0, .slice none 0 0, .slice none 0 0] 27) := ⟨_, rfl⟩
  have hbA : Below w.heap.size w wA := by rw [hwA]; exact below_alloc _
  have hqA : wA.heap[w.heap.size]? = some (.cells #[.int .i64 0, .int .i64 0, .slice none 0 0, .slice none 0 0, .slice none 0 0, .slice none 0 0] 27 (0, 0)) := by rw [hwA]; exact heap_alloc_new w _
  have hsA : w.heap.size < wA.heap.size := by rw [hwA]; simp
  rw [← hwA]
  refine (C.out wA hbA).mono ?_
  rintro e w1 ⟨rfl, b1⟩
  have hq1 := (b1.block _ hsA).trans hqA
  have HB := Lib.hid (hbA.trans (b1.mono hbA.size))
  have d0 := cell_of_row w1 w.heap.size 0 _ _ _ hq1
  have d1 := cell_of_row w1 w.heap.size 1 _ _ _ hq1
  have d2 := cell_of_row w1 w.heap.size 2 _ _ _ hq1
  have d3 := cell_of_row w1 w.heap.size 3 _ _ _ hq1
  have d4 := cell_of_row w1 w.heap.size 4 _ _ _ hq1
  have d5 := cell_of_row w1 w.heap.size 5 _ _ _ hq1
  simp at d0 d1 d2 d3 d4 d5
  have z0 := frozen_of_row w1 w.heap.size 0 _ _ hq1
  have z1 := frozen_of_row w1 w.heap.size 1 _ _ hq1
  have z2 := frozen_of_row w1 w.heap.size 2 _ _ hq1
  have z3 := frozen_of_row w1 w.heap.size 3 _ _ hq1
  have z4 := frozen_of_row w1 w.heap.size 4 _ _ hq1
  have z5 := frozen_of_row w1 w.heap.size 5 _ _ hq1
  have HQ := Lib.hid hq1
  clear b1 hq1 hqA hwA hsA hbA
  go_wp2
  obtain ⟨w2, hw2, hq2, _, hb2⟩ := six_cells HQ.out (.int .i64 0) (.int .i64 0) (.slice none 0 0) (.slice none 0 0) (.slice none 0 0) (.slice none 0 0)
  rw [← hw2]
  have k0 := cell_of_row w2 w.heap.size 0 _ _ _ hq2
  have k1 := cell_of_row w2 w.heap.size 1 _ _ _ hq2
  have k2 := cell_of_row w2 w.heap.size 2 _ _ _ hq2
  have k3 := cell_of_row w2 w.heap.size 3 _ _ _ hq2
  have k4 := cell_of_row w2 w.heap.size 4 _ _ _ hq2
  have k5 := cell_of_row w2 w.heap.size 5 _ _ _ hq2
  simp at k0 k1 k2 k3 k4 k5
  clear hw2
  refine bodyPost_ret (v := .tuple #[.agg #[.int .i64 0, .int .i64 0, .slice none 0 0, .slice none 0 0, .slice none 0 0, .slice none 0 0], faultV a n]) ?_ rfl ⟨zeroSh, rfl, zero_own _ _, HB.out.trans (hb2 _ (Nat.le_refl _))⟩
  rw [results_cell_tmp rfl]
  go_simp
end Go.Proofs.YtlimcimioeepaaaGreatDoor
set_option linter.unusedVariables false
namespace Go.Proofs.YtlimcimioeepaaaGreatDoor
open Go.RowKit

set_option maxRecDepth 100000 in
set_option maxHeartbeats 4000000 in
theorem cread_bad (s : ByteArray) (w : World) (hs : s.size ≤ 1000) (h21 : 21 ≤ s.size) (hTab : CTab w) (hC : ∀ W, Below w.heap.size w W → Calls Tryz.prog 60 #[.string s] W fun e w' => e = .returned (.tuple #[.string (text s), .nilIface]) ∧ Below W.heap.size W w') (hf : fitsB (txB s)) (ht : wholeB (txB s) = (txB s).length) (hk : chkT (taskR (txB s)) ≠ 0) :
    Calls Tryz.prog 27 #[.string s] w (Got2 zeroT (faultV 5 (chkT (taskR (txB s)))) w) := by
  have hbl := txB_length s
  rw [← txB_txt s] at hC
  obtain ⟨b, hb⟩ : ∃ b, b = txB s := ⟨_, rfl⟩
  rw [← hb] at hC hbl hf ht hk ⊢
  have C := Lib.hid hC
  clear hC hb
  have hT := taskS_fine (by omega) hf
  rw [ht] at hT
  have hsz := txt_size b
  have g1 : decide ((b.length : Int) < ((txt b).size : Int)) = false := by rw [decide_eq_false_iff_not, hsz]; omega
  have g2 : decide (b.length < (txt b).size) = false := by rw [decide_eq_false_iff_not, hsz]; omega
  have hfew := few_R b
  clear hf ht
  go_enter Tryz.func27, Tryz.ntmps27
  go_wp2_with fail
  obtain ⟨wA, hwA⟩ : ∃ wA, wA = w.alloc (.cells #[.int .i64 0, .int .i64 0, .slice none 0 0, .slice none 0 0, .slice none 0 0, .slice none 0 0] 27) := ⟨_, rfl⟩
  have hbA : Below w.heap.size w wA := by rw [hwA]; exact below_alloc _
  have hqA : wA.heap[w.heap.size]? = some (.cells #[.int .i64 0, .int .i64 0, .slice none 0 0, .slice none 0 0, .slice none 0 0, .slice none 0 0] 27 (0, 0)) := by rw [hwA]; exact heap_alloc_new w _
  have hsA : w.heap.size < wA.heap.size := by rw [hwA]; simp
  rw [← hwA]
  refine (C.out wA hbA).mono ?_
  rintro e w1 ⟨rfl, b1⟩
  have hq1 := (b1.block _ hsA).trans hqA
  have hb1 := hbA.trans (b1.mono hbA.size)
  have hl1 : w.heap.size < w1.heap.size := by have := b1.size; omega
  clear hqA hwA hsA hbA b1 C
  go_wp2_with fail
  obtain ⟨wB, hwB⟩ : ∃ wB, wB = w1.alloc (.cells #[.string (txt b), .int .i64 5, .nilIface] 105) := ⟨_, rfl⟩
  have hbB : Below w1.heap.size w1 wB := by rw [hwB]; exact below_alloc _
  have hRB : Rd w1.heap.size b (5, false) wB := ⟨by rw [hwB]; exact heap_alloc_new w1 _⟩
  have hqB := (hbB.block _ hl1).trans hq1
  rw [← hwB]
  refine (task_any w1.heap.size b (5, false) wB (by omega) (by show 5 ≤ _; omega) hRB).mono ?_
  rintro e w2 ⟨v, rfl, hO, hR, hG⟩
  obtain ⟨sh, hv, hI, hlE, hlF⟩ := OwnD.isT hO
  have hbase : w.heap.size < wB.heap.size := by have := hbB.size; omega
  have hb2 : Below w.heap.size w w2 := by
    have h1 := hb1.trans (hbB.mono (by omega))
    exact ⟨hG.os.trans h1.os, hG.tape.trans h1.tape, hG.output.trans h1.output, Nat.le_trans h1.size hG.size, fun k hk => (hG.block k (by have := hbB.size; omega) (fun e => by have := Option.some.inj e; omega)).trans (h1.block k hk)⟩
  have hq2 : w2.heap[w.heap.size]? = some (.cells #[.int .i64 0, .int .i64 0, .slice none 0 0, .slice none 0 0, .slice none 0 0, .slice none 0 0] 27 (0, 0)) := by rw [hG.block _ (by have := hbB.size; omega) (fun e => by have := Option.some.inj e; omega)]; exact hqB
  have hgl := hR.lt
  have hql : w.heap.size < w2.heap.size := by omega
  clear hq1 hb1 hbB hRB hqB hwB hI hlE hlF
  subst hv
  have HO := Lib.hid hO
  have HTAB := Lib.hid (hTab.via hb2)
  clear hO hG
  obtain ⟨T, hTT⟩ : ∃ T, T = (taskS b (5, false)).1 := ⟨_, rfl⟩
  rw [← hTT] at HO
  rw [hT] at hR
  have r0 := hR.c0
  have r1 := hR.c1
  have r2 := hR.c2
  simp only [errV] at r2
  have d0 := cell_of_row w2 w.heap.size 0 _ _ _ hq2
  have d1 := cell_of_row w2 w.heap.size 1 _ _ _ hq2
  have d2 := cell_of_row w2 w.heap.size 2 _ _ _ hq2
  have d3 := cell_of_row w2 w.heap.size 3 _ _ _ hq2
  have d4 := cell_of_row w2 w.heap.size 4 _ _ _ hq2
  have d5 := cell_of_row w2 w.heap.size 5 _ _ _ hq2
  simp at d0 d1 d2 d3 d4 d5
  have z0 := frozen_of_row w2 w.heap.size 0 _ _ hq2
  have z1 := frozen_of_row w2 w.heap.size 1 _ _ hq2
  have z2 := frozen_of_row w2 w.heap.size 2 _ _ hq2
  have z3 := frozen_of_row w2 w.heap.size 3 _ _ hq2
  have z4 := frozen_of_row w2 w.heap.size 4 _ _ hq2
  have z5 := frozen_of_row w2 w.heap.size 5 _ _ hq2
  have HQ := Lib.hid hq2
  have HB2 := Lib.hid hb2
  clear hq2 hb2 hR
  rw [← hTT]
  have HTR := Lib.hid (show T = taskR b by rw [hTT, hT])
  clear hTT hT
  go_wp2_with fail
  obtain ⟨w3, hw3⟩ : ∃ w3, w3 = w2.alloc (.cells #[.int .i64 T.period, .int .i64 T.deadline, .slice sh.P sh.np sh.pc, .slice sh.E sh.ne sh.ec, .slice sh.F sh.nf sh.fc, .slice sh.R sh.nr sh.rc] 27) := ⟨_, rfl⟩
  have hb3 : Below w2.heap.size w2 w3 := by rw [hw3]; exact below_alloc _
  have hp3 : w3.heap[w2.heap.size]? = some (.cells #[.int .i64 T.period, .int .i64 T.deadline, .slice sh.P sh.np sh.pc, .slice sh.E sh.ne sh.ec, .slice sh.F sh.nf sh.fc, .slice sh.R sh.nr sh.rc] 27 (0, 0)) := by rw [hw3]; exact heap_alloc_new w2 _
  have hq3 := (hb3.block _ hql).trans HQ.out
  have s0 := (hb3.cell hgl).trans r0
  have s1 := (hb3.cell hgl).trans r1
  have s2 := (hb3.cell hgl).trans r2
  have hne : w1.heap.size ≠ w.heap.size := by omega
  have hne2 : w.heap.size ≠ w1.heap.size := by omega
  rw [← hw3]
  clear d0 d1 d2 d3 d4 d5 z0 z1 z2 z3 z4 z5 r0 r1 r2
  have d0 := cell_of_row w3 w.heap.size 0 _ _ _ hq3
  have d1 := cell_of_row w3 w.heap.size 1 _ _ _ hq3
  have d2 := cell_of_row w3 w.heap.size 2 _ _ _ hq3
  have d3 := cell_of_row w3 w.heap.size 3 _ _ _ hq3
  have d4 := cell_of_row w3 w.heap.size 4 _ _ _ hq3
  have d5 := cell_of_row w3 w.heap.size 5 _ _ _ hq3
  simp at d0 d1 d2 d3 d4 d5
  have z0 := frozen_of_row w3 w.heap.size 0 _ _ hq3
  have z1 := frozen_of_row w3 w.heap.size 1 _ _ hq3
  have z2 := frozen_of_row w3 w.heap.size 2 _ _ hq3
  have z3 := frozen_of_row w3 w.heap.size 3 _ _ hq3
  have z4 := frozen_of_row w3 w.heap.size 4 _ _ hq3
  have z5 := frozen_of_row w3 w.heap.size 5 _ _ hq3
  have HQ3 := Lib.hid hq3
  have HP3 := Lib.hid hp3
  have HB3 := Lib.hid (HB2.out.trans (hb3.mono HB2.out.size))
  have HBB := Lib.hid hb3
  clear hw3 hb3 hp3 hq3 HQ HB2
  have hO3 := HO.out.below (w' := w3) HBB.out
  obtain ⟨hI3, hlE, hlF⟩ := hO3.at
  have hD3 : IsD w3 sh T := ⟨hI3, by rw [HTR.out]; exact hfew, (HTAB.out.via HBB.out).two, hlE, hlF⟩
  have CK := Lib.hid (check_any5 sh T w3 hD3)
  have hpl : w2.heap.size < w3.heap.size := (Array.getElem?_eq_some_iff.mp HP3.out).1
  have hql3 : w.heap.size < w3.heap.size := by omega
  have e0 := cell_of_row w3 w2.heap.size 0 _ _ _ HP3.out
  have e1 := cell_of_row w3 w2.heap.size 1 _ _ _ HP3.out
  have e2 := cell_of_row w3 w2.heap.size 2 _ _ _ HP3.out
  have e3 := cell_of_row w3 w2.heap.size 3 _ _ _ HP3.out
  have e4 := cell_of_row w3 w2.heap.size 4 _ _ _ HP3.out
  have e5 := cell_of_row w3 w2.heap.size 5 _ _ _ HP3.out
  simp at e0 e1 e2 e3 e4 e5
  rw [show chkT T = chkT (taskR b) by rw [HTR.out]] at CK
  have HO3 := Lib.hid hO3
  clear hO3 hI3 hD3 hlE hlF
  obtain ⟨n, hn⟩ : ∃ n, n = chkT (taskR b) := ⟨_, rfl⟩
  rw [← hn] at CK hk ⊢
  have g3 : decide (n = 0) = false := decide_eq_false hk
  have HN := Lib.hid hn
  clear hn
  go_wp2_with fail
  refine CK.out.mono ?_
  rintro e w4 ⟨rfl, b4⟩
  have hq4 := (b4.block _ hql3).trans HQ3.out
  have hp4 := (b4.block _ hpl).trans HP3.out
  have hne3 : w2.heap.size ≠ w.heap.size := by omega
  have hne4 : w.heap.size ≠ w2.heap.size := by omega
  clear d0 d1 d2 d3 d4 d5 z0 z1 z2 z3 z4 z5 e0 e1 e2 e3 e4 e5 CK
  have d0 := cell_of_row w4 w.heap.size 0 _ _ _ hq4
  have d1 := cell_of_row w4 w.heap.size 1 _ _ _ hq4
  have d2 := cell_of_row w4 w.heap.size 2 _ _ _ hq4
  have d3 := cell_of_row w4 w.heap.size 3 _ _ _ hq4
  have d4 := cell_of_row w4 w.heap.size 4 _ _ _ hq4
  have d5 := cell_of_row w4 w.heap.size 5 _ _ _ hq4
  simp at d0 d1 d2 d3 d4 d5
  have z0 := frozen_of_row w4 w.heap.size 0 _ _ hq4
  have z1 := frozen_of_row w4 w.heap.size 1 _ _ hq4
  have z2 := frozen_of_row w4 w.heap.size 2 _ _ hq4
  have z3 := frozen_of_row w4 w.heap.size 3 _ _ hq4
  have z4 := frozen_of_row w4 w.heap.size 4 _ _ hq4
  have z5 := frozen_of_row w4 w.heap.size 5 _ _ hq4
  have e0 := cell_of_row w4 w2.heap.size 0 _ _ _ hp4
  have e1 := cell_of_row w4 w2.heap.size 1 _ _ _ hp4
  have e2 := cell_of_row w4 w2.heap.size 2 _ _ _ hp4
  have e3 := cell_of_row w4 w2.heap.size 3 _ _ _ hp4
  have e4 := cell_of_row w4 w2.heap.size 4 _ _ _ hp4
  have e5 := cell_of_row w4 w2.heap.size 5 _ _ _ hp4
  simp at e0 e1 e2 e3 e4 e5
  have HQ4 := Lib.hid hq4
  have HB4 := Lib.hid (HB3.out.trans (b4.mono HB3.out.size))
  have HO4 := Lib.hid (HO3.out.below b4)
  clear hq4 hp4 b4
  go_wp2
  obtain ⟨w6, hw6, hq6, _, hb6⟩ := six_cells HQ4.out (.int .i64 0) (.int .i64 0) (.slice none 0 0) (.slice none 0 0) (.slice none 0 0) (.slice none 0 0)
  rw [← hw6]
  have k0 := cell_of_row w6 w.heap.size 0 _ _ _ hq6
  have k1 := cell_of_row w6 w.heap.size 1 _ _ _ hq6
  have k2 := cell_of_row w6 w.heap.size 2 _ _ _ hq6
  have k3 := cell_of_row w6 w.heap.size 3 _ _ _ hq6
  have k4 := cell_of_row w6 w.heap.size 4 _ _ _ hq6
  have k5 := cell_of_row w6 w.heap.size 5 _ _ _ hq6
  simp at k0 k1 k2 k3 k4 k5
  clear hw6
  refine bodyPost_ret (v := .tuple #[.agg #[.int .i64 0, .int .i64 0, .slice none 0 0, .slice none 0 0, .slice none 0 0, .slice none 0 0], faultV 5 n]) ?_ rfl ⟨zeroSh, by rw [← HN.out]; rfl, zero_own _ _, HB4.out.trans (hb6 _ (Nat.le_refl _))⟩
  rw [results_cell_tmp rfl]
  go_simp
end Go.Proofs.YtlimcimioeepaaaGreatDoor
set_option linter.unusedVariables false
namespace Go.Proofs.YtlimcimioeepaaaGreatDoor
open Go.RowKit

set_option maxRecDepth 100000 in
set_option maxHeartbeats 4000000 in
theorem cread_fine (s : ByteArray) (w : World) (hs : s.size ≤ 1000) (h21 : 21 ≤ s.size) (hTab : CTab w) (hC : ∀ W, Below w.heap.size w W → Calls Tryz.prog 60 #[.string s] W fun e w' => e = .returned (.tuple #[.string (text s), .nilIface]) ∧ Below W.heap.size W w') (hf : fitsB (txB s)) (ht : wholeB (txB s) = (txB s).length) (hk : chkT (taskR (txB s)) = 0) :
    Calls Tryz.prog 27 #[.string s] w (Got2 (taskR (txB s)) .nilIface w) := by
  have hbl := txB_length s
  rw [← txB_txt s] at hC
  obtain ⟨b, hb⟩ : ∃ b, b = txB s := ⟨_, rfl⟩
  rw [← hb] at hC hbl hf ht hk ⊢
  have C := Lib.hid hC
  clear hC hb
  have hT := taskS_fine (by omega) hf
  rw [ht] at hT
  have hsz := txt_size b
  have g1 : decide ((b.length : Int) < ((txt b).size : Int)) = false := by rw [decide_eq_false_iff_not, hsz]; omega
  have g2 : decide (b.length < (txt b).size) = false := by rw [decide_eq_false_iff_not, hsz]; omega
  have hfew := few_R b
  clear hf ht
  go_enter Tryz.func27, Tryz.ntmps27
  go_wp2_with fail
  obtain ⟨wA, hwA⟩ : ∃ wA, wA = w.alloc (.cells #[.int .i64 0, .int .i64 0, .slice none 0 0, .slice none 0 0, .slice none 0 0, .slice none 0 0] 27) := ⟨_, rfl⟩
  have hbA : Below w.heap.size w wA := by rw [hwA]; exact below_alloc _
  have hqA : wA.heap[w.heap.size]? = some (.cells #[.int .i64 0, .int .i64 0, .slice none 0 0, .slice none 0 0, .slice none 0 0, .slice none 0 0] 27 (0, 0)) := by rw [hwA]; exact heap_alloc_new w _
  have hsA : w.heap.size < wA.heap.size := by rw [hwA]; simp
  rw [← hwA]
  refine (C.out wA hbA).mono ?_
  rintro e w1 ⟨rfl, b1⟩
  have hq1 := (b1.block _ hsA).trans hqA
  have hb1 := hbA.trans (b1.mono hbA.size)
  have hl1 : w.heap.size < w1.heap.size := by have := b1.size; omega
  clear hqA hwA hsA hbA b1 C
  go_wp2_with fail
  obtain ⟨wB, hwB⟩ : ∃ wB, wB = w1.alloc (.cells #[.string (txt b), .int .i64 5, .nilIface] 105) := ⟨_, rfl⟩
  have hbB : Below w1.heap.size w1 wB := by rw [hwB]; exact below_alloc _
  have hRB : Rd w1.heap.size b (5, false) wB := ⟨by rw [hwB]; exact heap_alloc_new w1 _⟩
  have hqB := (hbB.block _ hl1).trans hq1
  rw [← hwB]
  refine (task_any w1.heap.size b (5, false) wB (by omega) (by show 5 ≤ _; omega) hRB).mono ?_
  rintro e w2 ⟨v, rfl, hO, hR, hG⟩
  obtain ⟨sh, hv, hI, hlE, hlF⟩ := OwnD.isT hO
  have hbase : w.heap.size < wB.heap.size := by have := hbB.size; omega
  have hb2 : Below w.heap.size w w2 := by
    have h1 := hb1.trans (hbB.mono (by omega))
    exact ⟨hG.os.trans h1.os, hG.tape.trans h1.tape, hG.output.trans h1.output, Nat.le_trans h1.size hG.size, fun k hk => (hG.block k (by have := hbB.size; omega) (fun e => by have := Option.some.inj e; omega)).trans (h1.block k hk)⟩
  have hq2 : w2.heap[w.heap.size]? = some (.cells #[.int .i64 0, .int .i64 0, .slice none 0 0, .slice none 0 0, .slice none 0 0, .slice none 0 0] 27 (0, 0)) := by rw [hG.block _ (by have := hbB.size; omega) (fun e => by have := Option.some.inj e; omega)]; exact hqB
  have hgl := hR.lt
  have hql : w.heap.size < w2.heap.size := by omega
  clear hq1 hb1 hbB hRB hqB hwB hI hlE hlF
  subst hv
  have HO := Lib.hid hO
  have HTAB := Lib.hid (hTab.via hb2)
  clear hO hG
  obtain ⟨T, hTT⟩ : ∃ T, T = (taskS b (5, false)).1 := ⟨_, rfl⟩
  rw [← hTT] at HO
  rw [hT] at hR
  have r0 := hR.c0
  have r1 := hR.c1
  have r2 := hR.c2
  simp only [errV] at r2
  have d0 := cell_of_row w2 w.heap.size 0 _ _ _ hq2
  have d1 := cell_of_row w2 w.heap.size 1 _ _ _ hq2
  have d2 := cell_of_row w2 w.heap.size 2 _ _ _ hq2
  have d3 := cell_of_row w2 w.heap.size 3 _ _ _ hq2
  have d4 := cell_of_row w2 w.heap.size 4 _ _ _ hq2
  have d5 := cell_of_row w2 w.heap.size 5 _ _ _ hq2
  simp at d0 d1 d2 d3 d4 d5
  have z0 := frozen_of_row w2 w.heap.size 0 _ _ hq2
  have z1 := frozen_of_row w2 w.heap.size 1 _ _ hq2
  have z2 := frozen_of_row w2 w.heap.size 2 _ _ hq2
  have z3 := frozen_of_row w2 w.heap.size 3 _ _ hq2
  have z4 := frozen_of_row w2 w.heap.size 4 _ _ hq2
  have z5 := frozen_of_row w2 w.heap.size 5 _ _ hq2
  have HQ := Lib.hid hq2
  have HB2 := Lib.hid hb2
  clear hq2 hb2 hR
  rw [← hTT]
  have HTR := Lib.hid (show T = taskR b by rw [hTT, hT])
  clear hTT hT
  go_wp2_with fail
  obtain ⟨w3, hw3⟩ : ∃ w3, w3 = w2.alloc (.cells #[.int .i64 T.period, .int .i64 T.deadline, .slice sh.P sh.np sh.pc, .slice sh.E sh.ne sh.ec, .slice sh.F sh.nf sh.fc, .slice sh.R sh.nr sh.rc] 27) := ⟨_, rfl⟩
  have hb3 : Below w2.heap.size w2 w3 := by rw [hw3]; exact below_alloc _
  have hp3 : w3.heap[w2.heap.size]? = some (.cells #[.int .i64 T.period, .int .i64 T.deadline, .slice sh.P sh.np sh.pc, .slice sh.E sh.ne sh.ec, .slice sh.F sh.nf sh.fc, .slice sh.R sh.nr sh.rc] 27 (0, 0)) := by rw [hw3]; exact heap_alloc_new w2 _
  have hq3 := (hb3.block _ hql).trans HQ.out
  have s0 := (hb3.cell hgl).trans r0
  have s1 := (hb3.cell hgl).trans r1
  have s2 := (hb3.cell hgl).trans r2
  have hne : w1.heap.size ≠ w.heap.size := by omega
  have hne2 : w.heap.size ≠ w1.heap.size := by omega
  rw [← hw3]
  clear d0 d1 d2 d3 d4 d5 z0 z1 z2 z3 z4 z5 r0 r1 r2
  have d0 := cell_of_row w3 w.heap.size 0 _ _ _ hq3
  have d1 := cell_of_row w3 w.heap.size 1 _ _ _ hq3
  have d2 := cell_of_row w3 w.heap.size 2 _ _ _ hq3
  have d3 := cell_of_row w3 w.heap.size 3 _ _ _ hq3
  have d4 := cell_of_row w3 w.heap.size 4 _ _ _ hq3
  have d5 := cell_of_row w3 w.heap.size 5 _ _ _ hq3
  simp at d0 d1 d2 d3 d4 d5
  have z0 := frozen_of_row w3 w.heap.size 0 _ _ hq3
  have z1 := frozen_of_row w3 w.heap.size 1 _ _ hq3
  have z2 := frozen_of_row w3 w.heap.size 2 _ _ hq3
  have z3 := frozen_of_row w3 w.heap.size 3 _ _ hq3
  have z4 := frozen_of_row w3 w.heap.size 4 _ _ hq3
  have z5 := frozen_of_row w3 w.heap.size 5 _ _ hq3
  have HQ3 := Lib.hid hq3
  have HP3 := Lib.hid hp3
  have HB3 := Lib.hid (HB2.out.trans (hb3.mono HB2.out.size))
  have HBB := Lib.hid hb3
  clear hw3 hb3 hp3 hq3 HQ HB2
  have hO3 := HO.out.below (w' := w3) HBB.out
  obtain ⟨hI3, hlE, hlF⟩ := hO3.at
  have hD3 : IsD w3 sh T := ⟨hI3, by rw [HTR.out]; exact hfew, (HTAB.out.via HBB.out).two, hlE, hlF⟩
  have CK := Lib.hid (check_any5 sh T w3 hD3)
  have hpl : w2.heap.size < w3.heap.size := (Array.getElem?_eq_some_iff.mp HP3.out).1
  have hql3 : w.heap.size < w3.heap.size := by omega
  have e0 := cell_of_row w3 w2.heap.size 0 _ _ _ HP3.out
  have e1 := cell_of_row w3 w2.heap.size 1 _ _ _ HP3.out
  have e2 := cell_of_row w3 w2.heap.size 2 _ _ _ HP3.out
  have e3 := cell_of_row w3 w2.heap.size 3 _ _ _ HP3.out
  have e4 := cell_of_row w3 w2.heap.size 4 _ _ _ HP3.out
  have e5 := cell_of_row w3 w2.heap.size 5 _ _ _ HP3.out
  simp at e0 e1 e2 e3 e4 e5
  rw [show chkT T = chkT (taskR b) by rw [HTR.out]] at CK
  have HO3 := Lib.hid hO3
  clear hO3 hI3 hD3 hlE hlF
  rw [hk] at CK
  go_wp2_with fail
  refine CK.out.mono ?_
  rintro e w4 ⟨rfl, b4⟩
  have hq4 := (b4.block _ hql3).trans HQ3.out
  have hp4 := (b4.block _ hpl).trans HP3.out
  have hne3 : w2.heap.size ≠ w.heap.size := by omega
  have hne4 : w.heap.size ≠ w2.heap.size := by omega
  clear d0 d1 d2 d3 d4 d5 z0 z1 z2 z3 z4 z5 e0 e1 e2 e3 e4 e5 CK
  have d0 := cell_of_row w4 w.heap.size 0 _ _ _ hq4
  have d1 := cell_of_row w4 w.heap.size 1 _ _ _ hq4
  have d2 := cell_of_row w4 w.heap.size 2 _ _ _ hq4
  have d3 := cell_of_row w4 w.heap.size 3 _ _ _ hq4
  have d4 := cell_of_row w4 w.heap.size 4 _ _ _ hq4
  have d5 := cell_of_row w4 w.heap.size 5 _ _ _ hq4
  simp at d0 d1 d2 d3 d4 d5
  have z0 := frozen_of_row w4 w.heap.size 0 _ _ hq4
  have z1 := frozen_of_row w4 w.heap.size 1 _ _ hq4
  have z2 := frozen_of_row w4 w.heap.size 2 _ _ hq4
  have z3 := frozen_of_row w4 w.heap.size 3 _ _ hq4
  have z4 := frozen_of_row w4 w.heap.size 4 _ _ hq4
  have z5 := frozen_of_row w4 w.heap.size 5 _ _ hq4
  have e0 := cell_of_row w4 w2.heap.size 0 _ _ _ hp4
  have e1 := cell_of_row w4 w2.heap.size 1 _ _ _ hp4
  have e2 := cell_of_row w4 w2.heap.size 2 _ _ _ hp4
  have e3 := cell_of_row w4 w2.heap.size 3 _ _ _ hp4
  have e4 := cell_of_row w4 w2.heap.size 4 _ _ _ hp4
  have e5 := cell_of_row w4 w2.heap.size 5 _ _ _ hp4
  simp at e0 e1 e2 e3 e4 e5
  have HQ4 := Lib.hid hq4
  have HB4 := Lib.hid (HB3.out.trans (b4.mono HB3.out.size))
  have HO4 := Lib.hid (HO3.out.below b4)
  clear hq4 hp4 b4
  go_wp2
  obtain ⟨w5, hw5, hq5, hfar, hb5⟩ := six_cells HQ4.out (.int .i64 T.period) (.int .i64 T.deadline) (.slice sh.P sh.np sh.pc) (.slice sh.E sh.ne sh.ec) (.slice sh.F sh.nf sh.fc) (.slice sh.R sh.nr sh.rc)
  rw [← hw5]
  have k0 := cell_of_row w5 w.heap.size 0 _ _ _ hq5
  have k1 := cell_of_row w5 w.heap.size 1 _ _ _ hq5
  have k2 := cell_of_row w5 w.heap.size 2 _ _ _ hq5
  have k3 := cell_of_row w5 w.heap.size 3 _ _ _ hq5
  have k4 := cell_of_row w5 w.heap.size 4 _ _ _ hq5
  have k5 := cell_of_row w5 w.heap.size 5 _ _ _ hq5
  simp at k0 k1 k2 k3 k4 k5
  have hg5 : w4.grownBy w5 (some w.heap.size) := ⟨(hb5 _ (Nat.le_refl _)).os, (hb5 _ (Nat.le_refl _)).tape, (hb5 _ (Nat.le_refl _)).output, (hb5 _ (Nat.le_refl _)).size, fun k _ hk => hfar k (fun e => hk (by rw [e]))⟩
  have hO5 := (HO4.out.grown hg5 hbase).less (Nat.le_of_lt hbase)
  clear hw5
  rw [HTR.out] at hO5 k0 k1
  refine bodyPost_ret (v := .tuple #[sh.arg (taskR b).period (taskR b).deadline, .nilIface]) ?_ rfl ⟨sh, rfl, hO5, HB4.out.trans (hb5 _ (Nat.le_refl _))⟩
  rw [results_cell_tmp rfl]
  go_simp
end Go.Proofs.YtlimcimioeepaaaGreatDoor
set_option linter.unusedVariables false
namespace Go.Proofs.YtlimcimioeepaaaGreatDoor
open Go.RowKit

set_option maxRecDepth 100000 in
set_option maxHeartbeats 4000000 in
theorem cread_cut (s : ByteArray) (w : World) (hs : s.size ≤ 1000) (h21 : 21 ≤ s.size) (hTab : CTab w) (hC : ∀ W, Below w.heap.size w W → Calls Tryz.prog 60 #[.string s] W fun e w' => e = .returned (.tuple #[.string (text s), .nilIface]) ∧ Below W.heap.size W w') (hf : ¬ fitsB (txB s)) :
    Calls Tryz.prog 27 #[.string s] w (Got2 zeroT (faultV (cutS (txB s) : Nat) 64) w) := by
  have hbl := txB_length s
  rw [← txB_txt s] at hC
  obtain ⟨b, hb⟩ : ∃ b, b = txB s := ⟨_, rfl⟩
  rw [← hb] at hC hbl hf ⊢
  have C := Lib.hid hC
  clear hC hb
  obtain ⟨q, hT, hq17, hql⟩ := taskS_cut (by omega) hf
  have hcut : cutS b = q := by unfold cutS; rw [hT]
  rw [hcut]
  clear hf hcut
  go_enter Tryz.func27, Tryz.ntmps27
  go_wp2_with fail
  obtain ⟨wA, hwA⟩ : ∃ wA, wA = w.alloc (.cells #[.int .i64 0, .int .i64 0, .slice none 0 0, .slice none 0 0, .slice none 0 0, .slice none 0 0] 27) := ⟨_, rfl⟩
  have hbA : Below w.heap.size w wA := by rw [hwA]; exact below_alloc _
  have hqA : wA.heap[w.heap.size]? = some (.cells #[.int .i64 0, .int .i64 0, .slice none 0 0, .slice none 0 0, .slice none 0 0, .slice none 0 0] 27 (0, 0)) := by rw [hwA]; exact heap_alloc_new w _
  have hsA : w.heap.size < wA.heap.size := by rw [hwA]; simp
  rw [← hwA]
  refine (C.out wA hbA).mono ?_
  rintro e w1 ⟨rfl, b1⟩
  have hq1 := (b1.block _ hsA).trans hqA
  have hb1 := hbA.trans (b1.mono hbA.size)
  have hl1 : w.heap.size < w1.heap.size := by have := b1.size; omega
  clear hqA hwA hsA hbA b1 C
  go_wp2_with fail
  obtain ⟨wB, hwB⟩ : ∃ wB, wB = w1.alloc (.cells #[.string (txt b), .int .i64 5, .nilIface] 105) := ⟨_, rfl⟩
  have hbB : Below w1.heap.size w1 wB := by rw [hwB]; exact below_alloc _
  have hRB : Rd w1.heap.size b (5, false) wB := ⟨by rw [hwB]; exact heap_alloc_new w1 _⟩
  have hqB := (hbB.block _ hl1).trans hq1
  rw [← hwB]
  refine (task_any w1.heap.size b (5, false) wB (by omega) (by show 5 ≤ _; omega) hRB).mono ?_
  rintro e w2 ⟨v, rfl, hO, hR, hG⟩
  obtain ⟨sh, hv, hI, hlE, hlF⟩ := OwnD.isT hO
  have hbase : w.heap.size < wB.heap.size := by have := hbB.size; omega
  have hb2 : Below w.heap.size w w2 := by
    have h1 := hb1.trans (hbB.mono (by omega))
    exact ⟨hG.os.trans h1.os, hG.tape.trans h1.tape, hG.output.trans h1.output, Nat.le_trans h1.size hG.size, fun k hk => (hG.block k (by have := hbB.size; omega) (fun e => by have := Option.some.inj e; omega)).trans (h1.block k hk)⟩
  have hq2 : w2.heap[w.heap.size]? = some (.cells #[.int .i64 0, .int .i64 0, .slice none 0 0, .slice none 0 0, .slice none 0 0, .slice none 0 0] 27 (0, 0)) := by rw [hG.block _ (by have := hbB.size; omega) (fun e => by have := Option.some.inj e; omega)]; exact hqB
  have hgl := hR.lt
  have hql : w.heap.size < w2.heap.size := by omega
  clear hq1 hb1 hbB hRB hqB hwB hI hlE hlF
  subst hv
  have HO := Lib.hid hO
  have HTAB := Lib.hid (hTab.via hb2)
  clear hO hG
  obtain ⟨T, hTT⟩ : ∃ T, T = (taskS b (5, false)).1 := ⟨_, rfl⟩
  rw [← hTT] at HO
  rw [hT] at hR
  have r0 := hR.c0
  have r1 := hR.c1
  have r2 := hR.c2
  simp only [errV] at r2
  have d0 := cell_of_row w2 w.heap.size 0 _ _ _ hq2
  have d1 := cell_of_row w2 w.heap.size 1 _ _ _ hq2
  have d2 := cell_of_row w2 w.heap.size 2 _ _ _ hq2
  have d3 := cell_of_row w2 w.heap.size 3 _ _ _ hq2
  have d4 := cell_of_row w2 w.heap.size 4 _ _ _ hq2
  have d5 := cell_of_row w2 w.heap.size 5 _ _ _ hq2
  simp at d0 d1 d2 d3 d4 d5
  have z0 := frozen_of_row w2 w.heap.size 0 _ _ hq2
  have z1 := frozen_of_row w2 w.heap.size 1 _ _ hq2
  have z2 := frozen_of_row w2 w.heap.size 2 _ _ hq2
  have z3 := frozen_of_row w2 w.heap.size 3 _ _ hq2
  have z4 := frozen_of_row w2 w.heap.size 4 _ _ hq2
  have z5 := frozen_of_row w2 w.heap.size 5 _ _ hq2
  have HQ := Lib.hid hq2
  have HB2 := Lib.hid hb2
  clear hq2 hb2 hR
  rw [← hTT]
  clear hTT hT
  go_wp2_with fail
  obtain ⟨w3, hw3⟩ : ∃ w3, w3 = w2.alloc (.cells #[.int .i64 T.period, .int .i64 T.deadline, .slice sh.P sh.np sh.pc, .slice sh.E sh.ne sh.ec, .slice sh.F sh.nf sh.fc, .slice sh.R sh.nr sh.rc] 27) := ⟨_, rfl⟩
  have hb3 : Below w2.heap.size w2 w3 := by rw [hw3]; exact below_alloc _
  have hp3 : w3.heap[w2.heap.size]? = some (.cells #[.int .i64 T.period, .int .i64 T.deadline, .slice sh.P sh.np sh.pc, .slice sh.E sh.ne sh.ec, .slice sh.F sh.nf sh.fc, .slice sh.R sh.nr sh.rc] 27 (0, 0)) := by rw [hw3]; exact heap_alloc_new w2 _
  have hq3 := (hb3.block _ hql).trans HQ.out
  have s0 := (hb3.cell hgl).trans r0
  have s1 := (hb3.cell hgl).trans r1
  have s2 := (hb3.cell hgl).trans r2
  have hne : w1.heap.size ≠ w.heap.size := by omega
  have hne2 : w.heap.size ≠ w1.heap.size := by omega
  rw [← hw3]
  clear d0 d1 d2 d3 d4 d5 z0 z1 z2 z3 z4 z5 r0 r1 r2
  have d0 := cell_of_row w3 w.heap.size 0 _ _ _ hq3
  have d1 := cell_of_row w3 w.heap.size 1 _ _ _ hq3
  have d2 := cell_of_row w3 w.heap.size 2 _ _ _ hq3
  have d3 := cell_of_row w3 w.heap.size 3 _ _ _ hq3
  have d4 := cell_of_row w3 w.heap.size 4 _ _ _ hq3
  have d5 := cell_of_row w3 w.heap.size 5 _ _ _ hq3
  simp at d0 d1 d2 d3 d4 d5
  have z0 := frozen_of_row w3 w.heap.size 0 _ _ hq3
  have z1 := frozen_of_row w3 w.heap.size 1 _ _ hq3
  have z2 := frozen_of_row w3 w.heap.size 2 _ _ hq3
  have z3 := frozen_of_row w3 w.heap.size 3 _ _ hq3
  have z4 := frozen_of_row w3 w.heap.size 4 _ _ hq3
  have z5 := frozen_of_row w3 w.heap.size 5 _ _ hq3
  have HQ3 := Lib.hid hq3
  have HP3 := Lib.hid hp3
  have HB3 := Lib.hid (HB2.out.trans (hb3.mono HB2.out.size))
  clear hw3 hb3 hp3 hq3 HQ HB2
  go_region
  go_wp2
  obtain ⟨w4, hw4, hq4, _, hb4⟩ := six_cells HQ3.out (.int .i64 0) (.int .i64 0) (.slice none 0 0) (.slice none 0 0) (.slice none 0 0) (.slice none 0 0)
  rw [← hw4]
  obtain ⟨w5, hw5⟩ : ∃ w5, w5 = w4.drew := ⟨_, rfl⟩
  have hq5 : w5.heap[w.heap.size]? = some (.cells #[.int .i64 0, .int .i64 0, .slice none 0 0, .slice none 0 0, .slice none 0 0, .slice none 0 0] 27 (0, 0)) := by rw [hw5]; exact hq4
  have hb5 : Below w.heap.size w w5 := by rw [hw5]; exact (HB3.out.trans (hb4 _ (Nat.le_refl _))).drew
  rw [← hw5]
  have k0 := cell_of_row w5 w.heap.size 0 _ _ _ hq5
  have k1 := cell_of_row w5 w.heap.size 1 _ _ _ hq5
  have k2 := cell_of_row w5 w.heap.size 2 _ _ _ hq5
  have k3 := cell_of_row w5 w.heap.size 3 _ _ _ hq5
  have k4 := cell_of_row w5 w.heap.size 4 _ _ _ hq5
  have k5 := cell_of_row w5 w.heap.size 5 _ _ _ hq5
  simp at k0 k1 k2 k3 k4 k5
  clear hw4 hw5
  refine bodyPost_ret (v := .tuple #[.agg #[.int .i64 0, .int .i64 0, .slice none 0 0, .slice none 0 0, .slice none 0 0, .slice none 0 0], faultV (q : Int) 64]) ?_ rfl ⟨zeroSh, rfl, zero_own _ _, hb5⟩
  rw [results_cell_tmp rfl]
  go_simp
set_option maxRecDepth 100000 in
set_option maxHeartbeats 4000000 in
theorem cread_tail (s : ByteArray) (w : World) (hs : s.size ≤ 1000) (h21 : 21 ≤ s.size) (hTab : CTab w) (hC : ∀ W, Below w.heap.size w W → Calls Tryz.prog 60 #[.string s] W fun e w' => e = .returned (.tuple #[.string (text s), .nilIface]) ∧ Below W.heap.size W w') (hf : fitsB (txB s)) (ht : wholeB (txB s) < (txB s).length) :
    Calls Tryz.prog 27 #[.string s] w (Got2 zeroT (faultV (wholeB (txB s) : Nat) 65) w) := by
  have hbl := txB_length s
  rw [← txB_txt s] at hC
  obtain ⟨b, hb⟩ : ∃ b, b = txB s := ⟨_, rfl⟩
  rw [← hb] at hC hbl hf ht ⊢
  have C := Lib.hid hC
  clear hC hb
  have hT := taskS_fine (by omega) hf
  obtain ⟨q, hq⟩ : ∃ q, q = wholeB b := ⟨_, rfl⟩
  rw [← hq] at hT ht ⊢
  have hsz := txt_size b
  have g1 : decide ((q : Int) < ((txt b).size : Int)) = true := by rw [decide_eq_true_iff, hsz]; omega
  have g2 : decide (q < (txt b).size) = true := by rw [decide_eq_true_iff, hsz]; omega
  clear hf hq
  go_enter Tryz.func27, Tryz.ntmps27
  go_wp2_with fail
  obtain ⟨wA, hwA⟩ : ∃ wA, wA = w.alloc (.cells #[.int .i64 0, .int .i64 0, .slice none 0 0, .slice none 0 0, .slice none 0 0, .slice none 0 0] 27) := ⟨_, rfl⟩
  have hbA : Below w.heap.size w wA := by rw [hwA]; exact below_alloc _
  have hqA : wA.heap[w.heap.size]? = some (.cells #[.int .i64 0, .int .i64 0, .slice none 0 0, .slice none 0 0, .slice none 0 0, .slice none 0 0] 27 (0, 0)) := by rw [hwA]; exact heap_alloc_new w _
  have hsA : w.heap.size < wA.heap.size := by rw [hwA]; simp
  rw [← hwA]
  refine (C.out wA hbA).mono ?_
  rintro e w1 ⟨rfl, b1⟩
  have hq1 := (b1.block _ hsA).trans hqA
  have hb1 := hbA.trans (b1.mono hbA.size)
  have hl1 : w.heap.size < w1.heap.size := by have := b1.size; omega
  clear hqA hwA hsA hbA b1 C
  go_wp2_with fail
  obtain ⟨wB, hwB⟩ : ∃ wB, wB = w1.alloc (.cells #[.string (txt b), .int .i64 5, .nilIface] 105) := ⟨_, rfl⟩
  have hbB : Below w1.heap.size w1 wB := by rw [hwB]; exact below_alloc _
  have hRB : Rd w1.heap.size b (5, false) wB := ⟨by rw [hwB]; exact heap_alloc_new w1 _⟩
  have hqB := (hbB.block _ hl1).trans hq1
  rw [← hwB]
  refine (task_any w1.heap.size b (5, false) wB (by omega) (by show 5 ≤ _; omega) hRB).mono ?_
  rintro e w2 ⟨v, rfl, hO, hR, hG⟩
  obtain ⟨sh, hv, hI, hlE, hlF⟩ := OwnD.isT hO
  have hbase : w.heap.size < wB.heap.size := by have := hbB.size; omega
  have hb2 : Below w.heap.size w w2 := by
    have h1 := hb1.trans (hbB.mono (by omega))
    exact ⟨hG.os.trans h1.os, hG.tape.trans h1.tape, hG.output.trans h1.output, Nat.le_trans h1.size hG.size, fun k hk => (hG.block k (by have := hbB.size; omega) (fun e => by have := Option.some.inj e; omega)).trans (h1.block k hk)⟩
  have hq2 : w2.heap[w.heap.size]? = some (.cells #[.int .i64 0, .int .i64 0, .slice none 0 0, .slice none 0 0, .slice none 0 0, .slice none 0 0] 27 (0, 0)) := by rw [hG.block _ (by have := hbB.size; omega) (fun e => by have := Option.some.inj e; omega)]; exact hqB
  have hgl := hR.lt
  have hql : w.heap.size < w2.heap.size := by omega
  clear hq1 hb1 hbB hRB hqB hwB hI hlE hlF
  subst hv
  have HO := Lib.hid hO
  have HTAB := Lib.hid (hTab.via hb2)
  clear hO hG
  obtain ⟨T, hTT⟩ : ∃ T, T = (taskS b (5, false)).1 := ⟨_, rfl⟩
  rw [← hTT] at HO
  rw [hT] at hR
  have r0 := hR.c0
  have r1 := hR.c1
  have r2 := hR.c2
  simp only [errV] at r2
  have d0 := cell_of_row w2 w.heap.size 0 _ _ _ hq2
  have d1 := cell_of_row w2 w.heap.size 1 _ _ _ hq2
  have d2 := cell_of_row w2 w.heap.size 2 _ _ _ hq2
  have d3 := cell_of_row w2 w.heap.size 3 _ _ _ hq2
  have d4 := cell_of_row w2 w.heap.size 4 _ _ _ hq2
  have d5 := cell_of_row w2 w.heap.size 5 _ _ _ hq2
  simp at d0 d1 d2 d3 d4 d5
  have z0 := frozen_of_row w2 w.heap.size 0 _ _ hq2
  have z1 := frozen_of_row w2 w.heap.size 1 _ _ hq2
  have z2 := frozen_of_row w2 w.heap.size 2 _ _ hq2
  have z3 := frozen_of_row w2 w.heap.size 3 _ _ hq2
  have z4 := frozen_of_row w2 w.heap.size 4 _ _ hq2
  have z5 := frozen_of_row w2 w.heap.size 5 _ _ hq2
  have HQ := Lib.hid hq2
  have HB2 := Lib.hid hb2
  clear hq2 hb2 hR
  rw [← hTT]
  clear hTT hT
  go_wp2_with fail
  obtain ⟨w3, hw3⟩ : ∃ w3, w3 = w2.alloc (.cells #[.int .i64 T.period, .int .i64 T.deadline, .slice sh.P sh.np sh.pc, .slice sh.E sh.ne sh.ec, .slice sh.F sh.nf sh.fc, .slice sh.R sh.nr sh.rc] 27) := ⟨_, rfl⟩
  have hb3 : Below w2.heap.size w2 w3 := by rw [hw3]; exact below_alloc _
  have hp3 : w3.heap[w2.heap.size]? = some (.cells #[.int .i64 T.period, .int .i64 T.deadline, .slice sh.P sh.np sh.pc, .slice sh.E sh.ne sh.ec, .slice sh.F sh.nf sh.fc, .slice sh.R sh.nr sh.rc] 27 (0, 0)) := by rw [hw3]; exact heap_alloc_new w2 _
  have hq3 := (hb3.block _ hql).trans HQ.out
  have s0 := (hb3.cell hgl).trans r0
  have s1 := (hb3.cell hgl).trans r1
  have s2 := (hb3.cell hgl).trans r2
  have hne : w1.heap.size ≠ w.heap.size := by omega
  have hne2 : w.heap.size ≠ w1.heap.size := by omega
  rw [← hw3]
  clear d0 d1 d2 d3 d4 d5 z0 z1 z2 z3 z4 z5 r0 r1 r2
  have d0 := cell_of_row w3 w.heap.size 0 _ _ _ hq3
  have d1 := cell_of_row w3 w.heap.size 1 _ _ _ hq3
  have d2 := cell_of_row w3 w.heap.size 2 _ _ _ hq3
  have d3 := cell_of_row w3 w.heap.size 3 _ _ _ hq3
  have d4 := cell_of_row w3 w.heap.size 4 _ _ _ hq3
  have d5 := cell_of_row w3 w.heap.size 5 _ _ _ hq3
  simp at d0 d1 d2 d3 d4 d5
  have z0 := frozen_of_row w3 w.heap.size 0 _ _ hq3
  have z1 := frozen_of_row w3 w.heap.size 1 _ _ hq3
  have z2 := frozen_of_row w3 w.heap.size 2 _ _ hq3
  have z3 := frozen_of_row w3 w.heap.size 3 _ _ hq3
  have z4 := frozen_of_row w3 w.heap.size 4 _ _ hq3
  have z5 := frozen_of_row w3 w.heap.size 5 _ _ hq3
  have HQ3 := Lib.hid hq3
  have HP3 := Lib.hid hp3
  have HB3 := Lib.hid (HB2.out.trans (hb3.mono HB2.out.size))
  clear hw3 hb3 hp3 hq3 HQ HB2
  go_region
  go_wp2
  obtain ⟨w4, hw4, hq4, _, hb4⟩ := six_cells HQ3.out (.int .i64 0) (.int .i64 0) (.slice none 0 0) (.slice none 0 0) (.slice none 0 0) (.slice none 0 0)
  rw [← hw4]
  obtain ⟨w5, hw5⟩ : ∃ w5, w5 = w4.drew := ⟨_, rfl⟩
  have hq5 : w5.heap[w.heap.size]? = some (.cells #[.int .i64 0, .int .i64 0, .slice none 0 0, .slice none 0 0, .slice none 0 0, .slice none 0 0] 27 (0, 0)) := by rw [hw5]; exact hq4
  have hb5 : Below w.heap.size w w5 := by rw [hw5]; exact (HB3.out.trans (hb4 _ (Nat.le_refl _))).drew
  rw [← hw5]
  have k0 := cell_of_row w5 w.heap.size 0 _ _ _ hq5
  have k1 := cell_of_row w5 w.heap.size 1 _ _ _ hq5
  have k2 := cell_of_row w5 w.heap.size 2 _ _ _ hq5
  have k3 := cell_of_row w5 w.heap.size 3 _ _ _ hq5
  have k4 := cell_of_row w5 w.heap.size 4 _ _ _ hq5
  have k5 := cell_of_row w5 w.heap.size 5 _ _ _ hq5
  simp at k0 k1 k2 k3 k4 k5
  clear hw4 hw5
  refine bodyPost_ret (v := .tuple #[.agg #[.int .i64 0, .int .i64 0, .slice none 0 0, .slice none 0 0, .slice none 0 0, .slice none 0 0], faultV (q : Int) 65]) ?_ rfl ⟨zeroSh, rfl, zero_own _ _, hb5⟩
  rw [results_cell_tmp rfl]
  go_simp
end Go.Proofs.YtlimcimioeepaaaGreatDoor
set_option linter.unusedVariables false
namespace Go.Proofs.YtlimcimioeepaaaGreatDoor
open Go.RowKit

theorem read_any (s : ByteArray) (w : World) (hs : s.size ≤ 1000) (hT : CTab w) : Calls Tryz.prog 27 #[.string s] w (Got2 (decT s) (errO (flaw s)) w) := by
  unfold decT
  unfold flaw
  by_cases h0 : s.size < 21
  · rw [if_pos h0]
    exact read_shut s w 0 60 (fun W _ => open_short s W h0)
  rw [if_neg h0]
  have h21 : 21 ≤ s.size := by omega
  by_cases h1 : ¬ sound s
  · rw [if_pos h1]
    exact read_shut s w ((s.size : Int) - 4) 61 (fun W hW => open_sum s W hs (hT.crc.via hW) h21 h1)
  rw [if_neg h1]
  by_cases h2 : ¬ magicB (txB s)
  · rw [if_pos h2]
    exact read_shut s w 0 62 (fun W hW => open_magic s W hs (hT.crc.via hW) h21 (Classical.not_not.mp h1) h2)
  rw [if_neg h2]
  by_cases h3 : ¬ verB (txB s)
  · rw [if_pos h3]
    exact read_shut s w 4 63 (fun W hW => open_rest s W hs (hT.crc.via hW) h21 (Classical.not_not.mp h1) (Classical.not_not.mp h2) (faultV 4 63) ⟨#[]⟩ (.inr ⟨h3, rfl, rfl⟩))
  rw [if_neg h3]
  have hC : ∀ W, Below w.heap.size w W → Calls Tryz.prog 60 #[.string s] W fun e w' => e = .returned (.tuple #[.string (text s), .nilIface]) ∧ Below W.heap.size W w' := fun W hW =>
    open_rest s W hs (hT.crc.via hW) h21 (Classical.not_not.mp h1) (Classical.not_not.mp h2) .nilIface (text s) (.inl ⟨Classical.not_not.mp h3, rfl, rfl⟩)
  by_cases h4 : ¬ fitsB (txB s)
  · rw [if_pos h4]
    exact cread_cut s w hs h21 hT hC h4
  rw [if_neg h4]
  have h4' := Classical.not_not.mp h4
  by_cases h5 : wholeB (txB s) < (txB s).length
  · rw [if_pos h5]
    exact cread_tail s w hs h21 hT hC h4' h5
  rw [if_neg h5]
  have h5' : wholeB (txB s) = (txB s).length := by
    have h := (barsB_R _ _ h4'.2).2
    have h6 := h4'.1
    rw [List.length_drop] at h
    unfold wholeB at h5 ⊢
    omega
  by_cases h6 : chkT (taskR (txB s)) ≠ 0
  · rw [if_pos h6]
    exact cread_bad s w hs h21 hT hC h4' h5' h6
  rw [if_neg h6]
  exact cread_fine s w hs h21 hT hC h4' h5' (Classical.not_not.mp h6)

/-- Up to where the bytes of an error are. -/
def endV (z n : Int) : Int := if n = 60 ∨ n = 61 then z else if n = 62 then 4 else if n = 63 then 5 else z - 4
set_option maxRecDepth 100000 in
set_option maxHeartbeats 2000000 in
theorem end_any (s : ByteArray) (a n : Int) (w : World) (hs : s.size ≤ 1000) : Calls Tryz.prog 33 #[.string s, faultV a n] w fun e w' => e = .returned (.int .i64 (endV s.size n)) ∧ Below w.heap.size w w' := by
  have C60 := Lib.hid (fun W => is_any a n 60 W)
  have C61 := Lib.hid (fun W => is_any a n 61 W)
  have C62 := Lib.hid (fun W => is_any a n 62 W)
  have C63 := Lib.hid (fun W => is_any a n 63 W)
  by_cases h0 : n = 60
  · have HR := Lib.hid (show endV s.size n = s.size by unfold endV; rw [if_pos (.inl h0)])
    rw [beq_iff_eq.mpr h0] at C60
    clear h0
    go_enter Tryz.func33, Tryz.ntmps33
    go_wp2_with fail
    refine (C60.out _).mono ?_
    rintro e w1 ⟨rfl, b1⟩
    have HB := Lib.hid b1
    clear b1
    go_wp2
    go_ret
    exact ⟨by rw [HR.out]; rfl, HB.out⟩
  rw [beq_eq_false_iff_ne.mpr h0] at C60
  by_cases h1 : n = 61
  · have HR := Lib.hid (show endV s.size n = s.size by unfold endV; rw [if_pos (.inr h1)])
    rw [beq_iff_eq.mpr h1] at C61
    clear h0 h1
    go_enter Tryz.func33, Tryz.ntmps33
    go_wp2_with fail
    refine (C60.out _).mono ?_
    rintro e w1 ⟨rfl, b1⟩
    go_wp2_with fail
    refine (C61.out _).mono ?_
    rintro e w2 ⟨rfl, b2⟩
    have HB := Lib.hid (b1.trans (b2.mono b1.size))
    clear b1 b2
    go_wp2
    go_ret
    exact ⟨by rw [HR.out]; rfl, HB.out⟩
  rw [beq_eq_false_iff_ne.mpr h1] at C61
  by_cases h2 : n = 62
  · have HR := Lib.hid (show endV s.size n = 4 by unfold endV; rw [if_neg (by omega), if_pos h2])
    rw [beq_iff_eq.mpr h2] at C62
    clear h0 h1 h2
    go_enter Tryz.func33, Tryz.ntmps33
    go_wp2_with fail
    refine (C60.out _).mono ?_
    rintro e w1 ⟨rfl, b1⟩
    go_wp2_with fail
    refine (C61.out _).mono ?_
    rintro e w2 ⟨rfl, b2⟩
    have b3 := b1.trans (b2.mono b1.size)
    clear b1 b2
    go_wp2_with fail
    refine (C62.out _).mono ?_
    rintro e w3 ⟨rfl, b2⟩
    have HB := Lib.hid (b3.trans (b2.mono b3.size))
    clear b3 b2
    go_wp2
    go_ret
    exact ⟨by rw [HR.out]; rfl, HB.out⟩
  rw [beq_eq_false_iff_ne.mpr h2] at C62
  have HR := Lib.hid (show endV s.size n = if n = 63 then 5 else (s.size : Int) - 4 by unfold endV; rw [if_neg (by omega), if_neg h2])
  obtain ⟨r, hr⟩ : ∃ r, (n == 63) = r := ⟨_, rfl⟩
  rw [hr] at C63
  have HR2 := Lib.hid hr
  clear h0 h1 h2 hr
  cases r with
  | true =>
    go_enter Tryz.func33, Tryz.ntmps33
    go_wp2_with fail
    refine (C60.out _).mono ?_
    rintro e w1 ⟨rfl, b1⟩
    go_wp2_with fail
    refine (C61.out _).mono ?_
    rintro e w2 ⟨rfl, b2⟩
    have b3 := b1.trans (b2.mono b1.size)
    clear b1 b2
    go_wp2_with fail
    refine (C62.out _).mono ?_
    rintro e w3 ⟨rfl, b2⟩
    have b4 := b3.trans (b2.mono b3.size)
    clear b3 b2
    go_wp2_with fail
    refine (C63.out _).mono ?_
    rintro e w4 ⟨rfl, b2⟩
    have HB := Lib.hid (b4.trans (b2.mono b4.size))
    clear b4 b2
    go_wp2
    go_ret
    exact ⟨by rw [HR.out, if_pos (beq_iff_eq.mp HR2.out)]; rfl, HB.out⟩
  | false =>
    go_enter Tryz.func33, Tryz.ntmps33
    go_wp2_with fail
    refine (C60.out _).mono ?_
    rintro e w1 ⟨rfl, b1⟩
    go_wp2_with fail
    refine (C61.out _).mono ?_
    rintro e w2 ⟨rfl, b2⟩
    have b3 := b1.trans (b2.mono b1.size)
    clear b1 b2
    go_wp2_with fail
    refine (C62.out _).mono ?_
    rintro e w3 ⟨rfl, b2⟩
    have b4 := b3.trans (b2.mono b3.size)
    clear b3 b2
    go_wp2_with fail
    refine (C63.out _).mono ?_
    rintro e w4 ⟨rfl, b2⟩
    have HB := Lib.hid (b4.trans (b2.mono b4.size))
    clear b4 b2
    go_wp2
    go_ret
    exact ⟨by rw [HR.out, if_neg (beq_eq_false_iff_ne.mp HR2.out)]; rfl, HB.out⟩

/-- An error's number. -/
def enoO : Option (Int × Int × Int) → Int
  | none => 0
  | some f => f.2.2
theorem told_any (f : Option (Int × Int × Int)) (w : World) (hg : ErrT w) : Calls Tryz.prog 28 #[errO f] w fun e w' => e = .returned (.int .i64 (enoO f)) ∧ Below w.heap.size w w' := by
  cases f with
  | none => exact told_nil w
  | some f => exact told_fault f.1 f.2.2 w hg
theorem eg_told : ∀ args w, (callFunc 28 args).run Tryz.prog w = .ok (.enter 28 args) w := eg_of Tryz.func28 (by kernel_rfl) rfl
theorem eg_end : ∀ args w, (callFunc 33 args).run Tryz.prog w = .ok (.enter 33 args) w := eg_of Tryz.func33 (by kernel_rfl) rfl
theorem aggDesc : ∀ w, (isAgg 27).run Tryz.prog w = .ok true w := fun w => by kernel_rfl
theorem sizeDesc : ∀ w, (sizeOf 27).run Tryz.prog w = .ok 6 w := fun w => by kernel_rfl
/-- What Decode hands back. -/
def GotDec (T : Task) (n : Int) (w : World) (e : Ending) (w' : World) : Prop := ∃ s : Sh, e = .returned (.tuple #[s.arg T.period T.deadline, .int .i64 n]) ∧ OwnD w.heap.size T (s.arg T.period T.deadline) w' ∧ Below w.heap.size w w'
def VD (v er : Value) (n : Int) : Nat → Value
  | 0 => v
  | 1 => er
  | 2 => .int .i64 n
  | 4 => .int .i64 n
  | _ => undef
set_option maxRecDepth 100000 in
set_option maxHeartbeats 4000000 in
theorem decode_any (s : ByteArray) (w : World) (hs : s.size ≤ 1000) (hTab : CTab w) : Calls Tryz.prog 15 #[.string s] w (GotDec (decT s) (enoO (flaw s)) w) := by
  obtain ⟨T, hT⟩ : ∃ T, T = decT s := ⟨_, rfl⟩
  obtain ⟨f, hf⟩ : ∃ f, f = flaw s := ⟨_, rfl⟩
  have C := Lib.hid (fun W (h : CTab W) => read_any s W hs h)
  rw [← hT, ← hf] at C
  rw [← hf, ← hT]
  have HTAB := Lib.hid hTab
  clear hTab hs hT hf
  go_enter Tryz.func15, Tryz.ntmps15
  go_wp2_with fail
  obtain ⟨wA, hwA⟩ : ∃ wA, wA = w.alloc (.cells #[.int .i64 0, .int .i64 0, .slice none 0 0, .slice none 0 0, .slice none 0 0, .slice none 0 0] 27) := ⟨_, rfl⟩
  have hbA : Below w.heap.size w wA := by rw [hwA]; exact below_alloc _
  have hqA : wA.heap[w.heap.size]? = some (.cells #[.int .i64 0, .int .i64 0, .slice none 0 0, .slice none 0 0, .slice none 0 0, .slice none 0 0] 27 (0, 0)) := by rw [hwA]; exact heap_alloc_new w _
  have hsA : w.heap.size < wA.heap.size := by rw [hwA]; simp
  rw [← hwA]
  refine (C.out wA (HTAB.out.via hbA)).mono ?_
  rintro e w1 ⟨sh, rfl, hO, b1⟩
  have hq1 := (b1.block _ hsA).trans hqA
  have hb1 := hbA.trans (b1.mono hbA.size)
  have hl1 : w.heap.size < w1.heap.size := by have := b1.size; omega
  clear hqA hwA hbA b1 C
  go_wp2_with fail
  obtain ⟨wC, hwC⟩ : ∃ wC, wC = w1.alloc (.cells #[.int .i64 T.period, .int .i64 T.deadline, .slice sh.P sh.np sh.pc, .slice sh.E sh.ne sh.ec, .slice sh.F sh.nf sh.fc, .slice sh.R sh.nr sh.rc] 27) := ⟨_, rfl⟩
  have hbC : Below w1.heap.size w1 wC := by rw [hwC]; exact below_alloc _
  have hpC : wC.heap[w1.heap.size]? = some (.cells #[.int .i64 T.period, .int .i64 T.deadline, .slice sh.P sh.np sh.pc, .slice sh.E sh.ne sh.ec, .slice sh.F sh.nf sh.fc, .slice sh.R sh.nr sh.rc] 27 (0, 0)) := by rw [hwC]; exact heap_alloc_new w1 _
  have hqC := (hbC.block _ hl1).trans hq1
  have hOC := hO.below hbC
  have hBC := hb1.trans (hbC.mono hb1.size)
  have hplt : w1.heap.size < wC.heap.size := (Array.getElem?_eq_some_iff.mp hpC).1
  have hET := (HTAB.out.via hBC).err
  rw [← hwC]
  clear hwC hbC hq1 hO hb1
  refine wp_region_chain2 5 [11, 12, 13, 1003, 3] [2, 3] (by kernel_rfl) (by kernel_rfl) (by intro d hd; simp at hd ⊢; omega) (by simp)
    (fun j x => if j ≤ 1 then Below wC.heap.size wC x else x.heap[w.heap.size]? = some (.cells #[.int .i64 T.period, .int .i64 T.deadline, .slice sh.P sh.np sh.pc, .slice sh.E sh.ne sh.ec, .slice sh.F sh.nf sh.fc, .slice sh.R sh.nr sh.rc] 27 (0, 0)) ∧ wC.grownBy x (some w.heap.size)) (fun _ _ => True) (fun k v _ => v = VD (sh.arg T.period T.deadline) (errO f) (enoO f) k)
    (fun _ _ _ => trivial) (fun j x y h hb => by
      split at h
      · rename_i hj
        rw [if_pos hj]
        exact h.trans (hb.mono h.size)
      · rename_i hj
        rw [if_neg hj]
        exact ⟨by rw [hb.block _ (Array.getElem?_eq_some_iff.mp h.1).1]; exact h.1, grown_trans h.2 (Below.grows hb _)⟩) (fun k v x y h _ => h) (by rw [if_pos (by omega)]; exact (Below.refl _ _).drew) ?hstep ?hcall ?hend (fun o ho => by cases ho)
  case hstep =>
    intro k o hk hkc ho ρ j x hJ hA hd
    match k, hk, hkc, ho with
    | 0, _, _, ho =>
      have hoo := Option.some.inj ho
      subst hoo
      have hpx : x.heap[w1.heap.size]? = some (.cells #[.int .i64 T.period, .int .i64 T.deadline, .slice sh.P sh.np sh.pc, .slice sh.E sh.ne sh.ec, .slice sh.F sh.nf sh.fc, .slice sh.R sh.nr sh.rc] 27 (0, 0)) := by
        split at hJ
        · rw [hJ.block _ hplt]; exact hpC
        · rw [hJ.2.block _ hplt (fun e => by have := Option.some.inj e; omega)]; exact hpC
      exact ⟨sh.arg T.period T.deadline, x, run_load_box _ rfl w1.heap.size #[.int .i64 T.period, .int .i64 T.deadline, .slice sh.P sh.np sh.pc, .slice sh.E sh.ne sh.ec, .slice sh.F sh.nf sh.fc, .slice sh.R sh.nr sh.rc] _ _ x (hA.tmp 4 (by decide)) aggDesc sizeDesc hpx, rfl, Below.refl _ _⟩
    | 1, _, _, ho =>
      have hoo := Option.some.inj ho
      subst hoo
      have f5 : ρ (.tmp 5) = errO f := hA.tmp 5 (by decide)
      exact ⟨errO f, x, by simp [execOp, f5, go_sem], rfl, Below.refl _ _⟩
    | 2, _, hkc, _ => exact absurd (by decide) hkc
    | 3, _, hkc, _ => exact absurd (by decide) hkc
    | 4, _, _, ho =>
      have hoo := Option.some.inj ho
      subst hoo
      have f2 : ρ (.tmp 13) = .int .i64 (enoO f) := hd ⟨2, .data⟩ (by simp) (by rfl)
      exact ⟨.int .i64 (enoO f), x, by simp [execOp, f2, go_sem], rfl, Below.refl _ _⟩
  case hcall =>
    intro i o hi ho a x hJ hA hd K hK
    match i, hi, ho with
    | 0, _, ho =>
      have hoo := Option.some.inj ho
      subst hoo
      have f1 : a.eval (.tmp 12) = errO f := hd ⟨1, .data⟩ (by simp) (by rfl)
      have hJ' : Below wC.heap.size wC x := hJ
      refine cx_fun rfl 28 _ _ #[errO f] rfl (by rw [← f1]; simp only [List.map_toArray, List.map_cons, List.map_nil]) eg_told ?_
      refine (told_any f x (hET.via hJ')).mono ?_
      rintro e x' ⟨rfl, b⟩
      exact ⟨_, rfl, hK _ x' rfl trivial (hJ'.trans (b.mono hJ'.size)) (fun e => by cases e)⟩
    | 1, _, ho =>
      have hoo := Option.some.inj ho
      subst hoo
      have f0 : a.eval (.tmp 11) = sh.arg T.period T.deadline := hd ⟨0, .data⟩ (by simp) (by rfl)
      have hJ' : Below wC.heap.size wC x := hJ
      have hqx : x.heap[w.heap.size]? = some (.cells #[.int .i64 0, .int .i64 0, .slice none 0 0, .slice none 0 0, .slice none 0 0, .slice none 0 0] 27 (0, 0)) := by rw [hJ'.block _ (by omega)]; exact hqC
      refine ox_skip rfl rfl (run_store_box (.tmp 2) (.tmp 11) rfl w.heap.size _ #[.int .i64 T.period, .int .i64 T.deadline, .slice sh.P sh.np sh.pc, .slice sh.E sh.ne sh.ec, .slice sh.F sh.nf sh.fc, .slice sh.R sh.nr sh.rc] _ x (hA.tmp 2 (by decide)) f0 sizeDesc hqx rfl (by simp [Value.oneCell'])) ?_
      exact hK undef _ rfl trivial ⟨setRow_at hqx, grown_trans (Below.grows hJ' _) (setRow_grown _ _ _)⟩ (fun _ => rfl)
  case hend =>
    intro _ vals x hJ hF
    have f4 : vals 3 = .int .i64 (enoO f) := hF 4 (by decide)
    obtain ⟨hqx, hgx⟩ : x.heap[w.heap.size]? = some (.cells #[.int .i64 T.period, .int .i64 T.deadline, .slice sh.P sh.np sh.pc, .slice sh.E sh.ne sh.ec, .slice sh.F sh.nf sh.fc, .slice sh.R sh.nr sh.rc] 27 (0, 0)) ∧ wC.grownBy x (some w.heap.size) := hJ
    simp only [fillA, fillL, List.contains_cons, List.contains_nil, Nat.reduceBEq, Bool.or_false, Bool.false_or, Bool.or_true, Bool.true_or, cond_true, cond_false, Nat.zero_add, Nat.reduceAdd]
    rw [f4]
    have HOX := Lib.hid ((hOC.grown hgx hsA).less (Nat.le_of_lt hsA))
    have HBX : Hid (Below w.heap.size w x) := Lib.hid ⟨hgx.os.trans hBC.os, hgx.tape.trans hBC.tape, hgx.output.trans hBC.output, Nat.le_trans hBC.size hgx.size, fun k hk => (hgx.block k (by omega) (fun e => by have := Option.some.inj e; omega)).trans (hBC.block k hk)⟩
    have k0 := cell_of_row x w.heap.size 0 _ _ _ hqx
    have k1 := cell_of_row x w.heap.size 1 _ _ _ hqx
    have k2 := cell_of_row x w.heap.size 2 _ _ _ hqx
    have k3 := cell_of_row x w.heap.size 3 _ _ _ hqx
    have k4 := cell_of_row x w.heap.size 4 _ _ _ hqx
    have k5 := cell_of_row x w.heap.size 5 _ _ _ hqx
    simp at k0 k1 k2 k3 k4 k5
    clear hqx hgx hOC hBC hpC hqC hF hET
    go_wp2
    refine bodyPost_ret (v := .tuple #[sh.arg T.period T.deadline, .int .i64 (enoO f)]) ?_ rfl ⟨sh, rfl, HOX.out, HBX.out⟩
    rw [results_cell_tmp rfl]
    go_simp
end Go.Proofs.YtlimcimioeepaaaGreatDoor
set_option linter.unusedVariables false
namespace Go.Proofs.YtlimcimioeepaaaGreatDoor
open Go.RowKit

theorem chkT_le (T : Task) : 0 ≤ chkT T ∧ chkT T ≤ 55 := by
  unfold chkT
  split
  · omega
  · split
    · omega
    · split
      · omega
      · split
        · omega
        · split
          · omega
          · split <;> omega
theorem flaw_end {s : ByteArray} {f : Int × Int × Int} (h : flaw s = some f) : endV s.size f.2.2 = f.2.1 := by
  unfold flaw at h
  split at h
  · obtain rfl := Option.some.inj h
    unfold endV; rw [if_pos (.inl rfl)]
  · split at h
    · obtain rfl := Option.some.inj h
      unfold endV; rw [if_pos (.inr rfl)]
    · split at h
      · obtain rfl := Option.some.inj h
        unfold endV; rw [if_neg (by simp), if_pos rfl]
      · split at h
        · obtain rfl := Option.some.inj h
          unfold endV; rw [if_neg (by simp), if_neg (by simp), if_pos rfl]
        · split at h
          · obtain rfl := Option.some.inj h
            unfold endV; rw [if_neg (by simp), if_neg (by simp), if_neg (by simp)]
          · split at h
            · obtain rfl := Option.some.inj h
              unfold endV; rw [if_neg (by simp), if_neg (by simp), if_neg (by simp)]
            · split at h
              · obtain rfl := Option.some.inj h
                have := chkT_le (taskR (txB s))
                unfold endV
                simp only
                rw [if_neg (by omega), if_neg (by omega), if_neg (by omega)]
              · cases h
def fromO : Option (Int × Int × Int) → Int
  | none => 0
  | some f => f.1
def toO : Option (Int × Int × Int) → Int
  | none => 0
  | some f => f.2.1
def isO : Option (Int × Int × Int) → Bool
  | none => false
  | some _ => true
def VW (fb : Nat) (s : ByteArray) (f : Int × Int × Int) : Nat → Value
  | 0 => .pointer (some ⟨fb, 0, none⟩)
  | 1 => .int .i64 f.1
  | 2 => .string s
  | 3 => faultV f.1 f.2.2
  | 4 => .int .i64 (endV s.size f.2.2)
  | 5 => .agg #[.int .i64 f.1, .int .i64 (endV s.size f.2.2)]
  | 6 => faultV f.1 f.2.2
  | 7 => .int .i64 f.2.2
  | 9 => .int .i64 f.2.2
  | 10 => .bool true
  | _ => undef
theorem sizeSpan : ∀ w, (sizeOf 37).run Tryz.prog w = .ok 2 w := fun w => by kernel_rfl
theorem aggInt : ∀ w, (isAgg 3).run Tryz.prog w = .ok false w := fun w => by kernel_rfl
theorem results_cell_tmp2 {fn : Func} {p u v : Tmp} {ty : TypeId} (h : fn.results = #[.cell p ty, .tmp u, .tmp v]) (tmps : Array Value) (P : Program) (w : World) :
    (results fn tmps).run P w =
      ((asAddr (tmps.getD p undef)).run P w).andThen fun a w₁ => ((loadVar ty a).run P w₁).andThen fun x w₂ => .ok (.tuple #[x, tmps.getD u undef, tmps.getD v undef]) w₂ := by
  simp only [results, h]
  simp [Sem.run_bind, Result.andThen]
set_option maxRecDepth 100000 in
set_option maxHeartbeats 4000000 in
theorem why_none (s : ByteArray) (w : World) (hs : s.size ≤ 1000) (hTab : CTab w) (hf : flaw s = none) : Calls Tryz.prog 17 #[.string s] w fun e w' => e = .returned (.tuple #[.agg #[.int .i64 (fromO (flaw s)), .int .i64 (toO (flaw s))], .int .i64 (enoO (flaw s)), .bool (isO (flaw s))]) ∧ Below w.heap.size w w' := by
  obtain ⟨T, hT⟩ : ∃ T, T = decT s := ⟨_, rfl⟩
  have C := Lib.hid (fun W (h : CTab W) => read_any s W hs h)
  rw [← hT, hf] at C
  rw [hf]
  have HTAB := Lib.hid hTab
  clear hTab hT hf
  go_enter Tryz.func17, Tryz.ntmps17
  go_wp2_with fail
  obtain ⟨wA, hwA⟩ : ∃ wA, wA = w.alloc (.cells #[.int .i64 0, .int .i64 0] 37) := ⟨_, rfl⟩
  have hbA : Below w.heap.size w wA := by rw [hwA]; exact below_alloc _
  have hqA : wA.heap[w.heap.size]? = some (.cells #[.int .i64 0, .int .i64 0] 37 (0, 0)) := by rw [hwA]; exact heap_alloc_new w _
  have hsA : w.heap.size < wA.heap.size := by rw [hwA]; simp
  rw [← hwA]
  refine (C.out wA (HTAB.out.via hbA)).mono ?_
  rintro e w1 ⟨sh, rfl, hO, b1⟩
  have hq1 := (b1.block _ hsA).trans hqA
  have hb1 := hbA.trans (b1.mono hbA.size)
  have hl1 : w.heap.size < w1.heap.size := by have := b1.size; omega
  clear hqA hwA hbA b1 C
  have D := Lib.hid as_nil
  have HB1 := Lib.hid hb1
  have HQ1 := Lib.hid hq1
  clear hq1 hb1 hO hsA
  simp only [errO]
  go_wp2_with fail
  refine (D.out _ _).mono ?_
  rintro e w3 ⟨rfl, rfl⟩
  obtain ⟨wD, hwD⟩ : ∃ wD, wD = (w1.alloc (.cells #[.int .i64 T.period, .int .i64 T.deadline, .slice sh.P sh.np sh.pc, .slice sh.E sh.ne sh.ec, .slice sh.F sh.nf sh.fc, .slice sh.R sh.nr sh.rc] 27)).alloc (.cells #[.int .i64 0, .nilIface] 73) := ⟨_, rfl⟩
  have hbD : Below w1.heap.size w1 wD := by rw [hwD]; exact (below_alloc _).alloc (by simp) _
  have hqD := (hbD.block _ hl1).trans HQ1.out
  have HBD := Lib.hid (HB1.out.trans (hbD.mono HB1.out.size))
  rw [← hwD]
  clear hwD hbD
  have d0 := cell_of_row wD w.heap.size 0 _ _ _ hqD
  have d1 := cell_of_row wD w.heap.size 1 _ _ _ hqD
  simp at d0 d1
  have z0 := frozen_of_row wD w.heap.size 0 _ _ hqD
  have z1 := frozen_of_row wD w.heap.size 1 _ _ hqD
  have HQD := Lib.hid hqD
  clear hqD
  go_wp2
  have h1 := heap_setCell_same wD w.heap.size 0 _ _ (.int .i64 0) HQD.out
  have h2 := heap_setCell_same _ w.heap.size 1 _ _ (.int .i64 0) h1
  have hbe := ((Below.refl w.heap.size wD).setCell (p := ⟨w.heap.size, 0, none⟩) (Nat.le_refl _) (.int .i64 0)).setCell (p := ⟨w.heap.size, 1, none⟩) (Nat.le_refl _) (.int .i64 0)
  obtain ⟨wE, hwE⟩ : ∃ wE, wE = (wD.setCell ⟨w.heap.size, 0, none⟩ (.int .i64 0)).setCell ⟨w.heap.size, 1, none⟩ (.int .i64 0) := ⟨_, rfl⟩
  rw [← hwE] at h2 hbe ⊢
  have k0 := cell_of_row wE w.heap.size 0 _ _ _ h2
  have k1 := cell_of_row wE w.heap.size 1 _ _ _ h2
  simp at k0 k1
  clear hwE
  refine bodyPost_ret (v := .tuple #[.agg #[.int .i64 0, .int .i64 0], .int .i64 0, .bool false]) ?_ rfl ⟨rfl, HBD.out.trans hbe⟩
  rw [results_cell_tmp2 rfl]
  go_simp
set_option maxRecDepth 100000 in
set_option maxHeartbeats 4000000 in
theorem why_some (s : ByteArray) (w : World) (hs : s.size ≤ 1000) (hTab : CTab w) (f : Int × Int × Int) (hf : flaw s = some f) : Calls Tryz.prog 17 #[.string s] w fun e w' => e = .returned (.tuple #[.agg #[.int .i64 (fromO (flaw s)), .int .i64 (toO (flaw s))], .int .i64 (enoO (flaw s)), .bool (isO (flaw s))]) ∧ Below w.heap.size w w' := by
  obtain ⟨T, hT⟩ : ∃ T, T = decT s := ⟨_, rfl⟩
  have C := Lib.hid (fun W (h : CTab W) => read_any s W hs h)
  rw [← hT, hf] at C
  rw [hf]
  have HEND := Lib.hid (flaw_end hf)
  have HTAB := Lib.hid hTab
  clear hTab hT hf
  go_enter Tryz.func17, Tryz.ntmps17
  go_wp2_with fail
  obtain ⟨wA, hwA⟩ : ∃ wA, wA = w.alloc (.cells #[.int .i64 0, .int .i64 0] 37) := ⟨_, rfl⟩
  have hbA : Below w.heap.size w wA := by rw [hwA]; exact below_alloc _
  have hqA : wA.heap[w.heap.size]? = some (.cells #[.int .i64 0, .int .i64 0] 37 (0, 0)) := by rw [hwA]; exact heap_alloc_new w _
  have hsA : w.heap.size < wA.heap.size := by rw [hwA]; simp
  rw [← hwA]
  refine (C.out wA (HTAB.out.via hbA)).mono ?_
  rintro e w1 ⟨sh, rfl, hO, b1⟩
  have hq1 := (b1.block _ hsA).trans hqA
  have hb1 := hbA.trans (b1.mono hbA.size)
  have hl1 : w.heap.size < w1.heap.size := by have := b1.size; omega
  clear hqA hwA hbA b1 C
  simp only [errO]
  obtain ⟨wD, hwD⟩ : ∃ wD, wD = (w1.alloc (.cells #[.int .i64 T.period, .int .i64 T.deadline, .slice sh.P sh.np sh.pc, .slice sh.E sh.ne sh.ec, .slice sh.F sh.nf sh.fc, .slice sh.R sh.nr sh.rc] 27)).alloc (.cells #[.int .i64 0, .nilIface] 73) := ⟨_, rfl⟩
  have hbD : Below w1.heap.size w1 wD := by rw [hwD]; exact (below_alloc _).alloc (by simp) _
  have hfD : wD.heap[w1.heap.size + 1]? = some (.cells #[.int .i64 0, .nilIface] 73 (0, 0)) := by
    rw [hwD]
    have h := heap_alloc_new (w1.alloc (.cells #[.int .i64 T.period, .int .i64 T.deadline, .slice sh.P sh.np sh.pc, .slice sh.E sh.ne sh.ec, .slice sh.F sh.nf sh.fc, .slice sh.R sh.nr sh.rc] 27)) (.cells #[.int .i64 0, .nilIface] 73)
    simpa using h
  have hqD := (hbD.block _ hl1).trans hq1
  have hBD := hb1.trans (hbD.mono hb1.size)
  have hED := (HTAB.out.via hBD).err
  have hflt : w1.heap.size + 1 < wD.heap.size := (Array.getElem?_eq_some_iff.mp hfD).1
  have D := Lib.hid (as_fault f.1 f.2.2 (w1.heap.size + 1) (.int .i64 0) .nilIface wD hED hfD)
  clear hq1 hb1 hO hbD
  go_wp2_with fail
  rw [← hwD]
  clear hwD
  refine D.out.mono ?_
  rintro e w3 ⟨rfl, w2, hb2, hw3⟩
  have hf2 := (hb2.block _ hflt).trans hfD
  have hf3 : w3.heap[w1.heap.size + 1]? = some (.cells #[.int .i64 f.1, .iface 30 (.int .i64 f.2.2)] 73 (0, 0)) := by rw [hw3]; exact setRow_at hf2
  have hb3 : Below w.heap.size w w3 := by
    rw [hw3]
    exact (hBD.trans (hb2.mono hBD.size)).trans (setRow_below _ (by omega))
  have hq3 : w3.heap[w.heap.size]? = some (.cells #[.int .i64 0, .int .i64 0] 37 (0, 0)) := by rw [hw3, setRow_far _ _ _ (by omega), hb2.block _ (by omega)]; exact hqD
  have hE3 := (HTAB.out.via hb3).err
  have hl3 : w1.heap.size + 1 < w3.heap.size := (Array.getElem?_eq_some_iff.mp hf3).1
  clear hf2 hfD hb2 hw3 hqD hBD hED D hflt
  go_wp2_with fail
  refine wp_region_chain2 11 [18, 19, 20, 21, 22, 23, 24, 25, 1008, 3, 4] [4, 7, 8] (by kernel_rfl) (by kernel_rfl) (by intro d hd; simp at hd ⊢; omega) (by simp)
    (fun j x => if j ≤ 2 then Below w3.heap.size w3 x else x.heap[w.heap.size]? = some (.cells #[.int .i64 f.1, .int .i64 (endV s.size f.2.2)] 37 (0, 0)) ∧ w3.grownBy x (some w.heap.size)) (fun _ _ => True) (fun k v _ => v = VW (w1.heap.size + 1) s f k)
    (fun _ _ _ => trivial) (fun j x y h hb => by
      split at h
      · rename_i hj
        rw [if_pos hj]
        exact h.trans (hb.mono h.size)
      · rename_i hj
        rw [if_neg hj]
        exact ⟨by rw [hb.block _ (Array.getElem?_eq_some_iff.mp h.1).1]; exact h.1, grown_trans h.2 (Below.grows hb _)⟩) (fun k v x y h _ => h) (by rw [if_pos (by omega)]; exact (Below.refl _ _).drew) ?hstep ?hcall ?hend (fun o ho => by cases ho)
  case hstep =>
    intro k o hk hkc ho ρ j x hJ hA hd
    have hfx : x.heap[w1.heap.size + 1]? = some (.cells #[.int .i64 f.1, .iface 30 (.int .i64 f.2.2)] 73 (0, 0)) := by
      split at hJ
      · rw [hJ.block _ hl3]; exact hf3
      · rw [hJ.2.block _ hl3 (fun e => by have := Option.some.inj e; omega)]; exact hf3
    have hcx : x.cell? ⟨w1.heap.size + 1, 0, none⟩ = some (.int .i64 f.1) := by simp [World.cell?, hfx]
    match k, hk, hkc, ho with
    | 0, _, _, ho =>
      have hoo := Option.some.inj ho
      subst hoo
      have f7 : ρ (.tmp 7) = .pointer (some ⟨w1.heap.size + 1, 0, none⟩) := hA.tmp 7 (by decide)
      exact ⟨.pointer (some ⟨w1.heap.size + 1, 0, none⟩), x, by simp [execOp, f7, go_sem], rfl, Below.refl _ _⟩
    | 1, _, _, ho =>
      have hoo := Option.some.inj ho
      subst hoo
      have f0 : ρ (.tmp 18) = .pointer (some ⟨w1.heap.size + 1, 0, none⟩) := hd ⟨0, .data⟩ (by simp) (by rfl)
      exact ⟨.int .i64 f.1, x, run_load_cell _ rfl ⟨w1.heap.size + 1, 0, none⟩ _ x f0 aggInt hcx, rfl, Below.refl _ _⟩
    | 2, _, _, ho =>
      have hoo := Option.some.inj ho
      subst hoo
      have f : ρ (.tmp 0) = .string s := hA.tmp 0 (by decide)
      exact ⟨.string s, x, by simp [execOp, f, go_sem], rfl, Below.refl _ _⟩
    | 3, _, _, ho =>
      have hoo := Option.some.inj ho
      subst hoo
      have f6 : ρ (.tmp 6) = faultV f.1 f.2.2 := hA.tmp 6 (by decide)
      exact ⟨faultV f.1 f.2.2, x, by simp [execOp, f6, go_sem], rfl, Below.refl _ _⟩
    | 4, _, hkc, _ => exact absurd (by decide) hkc
    | 5, _, _, ho =>
      have hoo := Option.some.inj ho
      subst hoo
      have f1 : ρ (.tmp 19) = .int .i64 f.1 := hd ⟨1, .data⟩ (by simp) (by rfl)
      have f4 : ρ (.tmp 22) = .int .i64 (endV s.size f.2.2) := hd ⟨4, .data⟩ (by simp) (by rfl)
      exact ⟨.agg #[.int .i64 f.1, .int .i64 (endV s.size f.2.2)], x, by simp [execOp, f1, f4, go_sem], rfl, Below.refl _ _⟩
    | 6, _, _, ho =>
      have hoo := Option.some.inj ho
      subst hoo
      have f6 : ρ (.tmp 6) = faultV f.1 f.2.2 := hA.tmp 6 (by decide)
      exact ⟨faultV f.1 f.2.2, x, by simp [execOp, f6, go_sem], rfl, Below.refl _ _⟩
    | 7, _, hkc, _ => exact absurd (by decide) hkc
    | 8, _, hkc, _ => exact absurd (by decide) hkc
    | 9, _, _, ho =>
      have hoo := Option.some.inj ho
      subst hoo
      have f7 : ρ (.tmp 25) = .int .i64 f.2.2 := hd ⟨7, .data⟩ (by simp) (by rfl)
      exact ⟨.int .i64 f.2.2, x, by simp [execOp, f7, go_sem], rfl, Below.refl _ _⟩
    | 10, _, _, ho =>
      have hoo := Option.some.inj ho
      subst hoo
      exact ⟨.bool true, x, by simp [execOp, hA.const, go_sem], rfl, Below.refl _ _⟩
    | k + 11, hk, _, _ => exact absurd hk (by omega)
  case hcall =>
    intro i o hi ho a x hJ hA hd K hK
    match i, hi, ho with
    | 0, _, ho =>
      have hoo := Option.some.inj ho
      subst hoo
      have f2 : a.eval (.tmp 20) = .string s := hd ⟨2, .data⟩ (by simp) (by rfl)
      have f3 : a.eval (.tmp 21) = faultV f.1 f.2.2 := hd ⟨3, .data⟩ (by simp) (by rfl)
      have hJ' : Below w3.heap.size w3 x := hJ
      refine cx_fun rfl 33 _ _ #[.string s, faultV f.1 f.2.2] rfl (by rw [← f2, ← f3]; simp only [List.map_toArray, List.map_cons, List.map_nil]) eg_end ?_
      refine (end_any s f.1 f.2.2 x hs).mono ?_
      rintro e x' ⟨rfl, b⟩
      exact ⟨_, rfl, hK _ x' rfl trivial (hJ'.trans (b.mono hJ'.size)) (fun e => by cases e)⟩
    | 1, _, ho =>
      have hoo := Option.some.inj ho
      subst hoo
      have f6 : a.eval (.tmp 24) = faultV f.1 f.2.2 := hd ⟨6, .data⟩ (by simp) (by rfl)
      have hJ' : Below w3.heap.size w3 x := hJ
      refine cx_fun rfl 28 _ _ #[faultV f.1 f.2.2] rfl (by rw [← f6]; simp only [List.map_toArray, List.map_cons, List.map_nil]) eg_told ?_
      refine (told_fault f.1 f.2.2 x (hE3.via hJ')).mono ?_
      rintro e x' ⟨rfl, b⟩
      exact ⟨_, rfl, hK _ x' rfl trivial (hJ'.trans (b.mono hJ'.size)) (fun e => by cases e)⟩
    | 2, _, ho =>
      have hoo := Option.some.inj ho
      subst hoo
      have f5 : a.eval (.tmp 23) = .agg #[.int .i64 f.1, .int .i64 (endV s.size f.2.2)] := hd ⟨5, .data⟩ (by simp) (by rfl)
      have hJ' : Below w3.heap.size w3 x := hJ
      have hqx : x.heap[w.heap.size]? = some (.cells #[.int .i64 0, .int .i64 0] 37 (0, 0)) := by rw [hJ'.block _ (by omega)]; exact hq3
      refine ox_skip rfl rfl (run_store_box (.tmp 2) (.tmp 23) rfl w.heap.size _ #[.int .i64 f.1, .int .i64 (endV s.size f.2.2)] _ x (hA.tmp 2 (by decide)) f5 sizeSpan hqx rfl (by simp [Value.oneCell'])) ?_
      exact hK undef _ rfl trivial ⟨setRow_at hqx, grown_trans (Below.grows hJ' _) (setRow_grown _ _ _)⟩ (fun _ => rfl)
  case hend =>
    intro _ vals x hJ hF
    have f9 : vals 3 = .int .i64 f.2.2 := hF 9 (by decide)
    have f10 : vals 4 = .bool true := hF 10 (by decide)
    obtain ⟨hqx, hgx⟩ : x.heap[w.heap.size]? = some (.cells #[.int .i64 f.1, .int .i64 (endV s.size f.2.2)] 37 (0, 0)) ∧ w3.grownBy x (some w.heap.size) := hJ
    simp only [fillA, fillL, List.contains_cons, List.contains_nil, Nat.reduceBEq, Bool.or_false, Bool.false_or, Bool.or_true, Bool.true_or, cond_true, cond_false, Nat.zero_add, Nat.reduceAdd]
    rw [f9, f10]
    have HBX : Hid (Below w.heap.size w x) := Lib.hid ⟨hgx.os.trans hb3.os, hgx.tape.trans hb3.tape, hgx.output.trans hb3.output, Nat.le_trans hb3.size hgx.size, fun k hk => (hgx.block k (by omega) (fun e => by have := Option.some.inj e; omega)).trans (hb3.block k hk)⟩
    rw [HEND.out] at hqx
    have k0 := cell_of_row x w.heap.size 0 _ _ _ hqx
    have k1 := cell_of_row x w.heap.size 1 _ _ _ hqx
    simp at k0 k1
    clear hqx hgx hF hb3 hf3 hq3 hE3
    go_wp2
    refine bodyPost_ret (v := .tuple #[.agg #[.int .i64 f.1, .int .i64 f.2.1], .int .i64 f.2.2, .bool true]) ?_ rfl ⟨rfl, HBX.out⟩
    rw [results_cell_tmp2 rfl]
    go_simp
theorem why_any (s : ByteArray) (w : World) (hs : s.size ≤ 1000) (hTab : CTab w) : Calls Tryz.prog 17 #[.string s] w fun e w' => e = .returned (.tuple #[.agg #[.int .i64 (fromO (flaw s)), .int .i64 (toO (flaw s))], .int .i64 (enoO (flaw s)), .bool (isO (flaw s))]) ∧ Below w.heap.size w w' := by
  cases hf : flaw s with
  | none => have h := why_none s w hs hTab hf; rwa [hf] at h
  | some f => have h := why_some s w hs hTab f hf; rwa [hf] at h
end Go.Proofs.YtlimcimioeepaaaGreatDoor
