/- The walk of CodecWhere in the seat YtlimcimioeepaaaGreatDoor: at any input it answers true. No statement is proved here. -/
import Derived.Test.YtlimcimioeepaaaGreatDoorZG23
set_option linter.unusedVariables false
namespace Go.Proofs.YtlimcimioeepaaaGreatDoor
open Go.RowKit

theorem flaw_told (s : ByteArray) : 0 ≤ fromO (flaw s) ∧ fromO (flaw s) ≤ toO (flaw s) ∧ toO (flaw s) ≤ s.size ∧ isO (flaw s) = (enoO (flaw s) != 0) ∧ (isO (flaw s) = false → fromO (flaw s) = 0 ∧ toO (flaw s) = 0) := by
  cases h : flaw s with
  | none => exact ⟨Int.le_refl _, Int.le_refl _, by show (0 : Int) ≤ _; omega, rfl, fun _ => ⟨rfl, rfl⟩⟩
  | some f =>
    obtain ⟨h1, h2, h3, h4⟩ := flaw_some h
    refine ⟨h1, h2, h3, ?_, fun k => by cases k⟩
    show true = (f.2.2 != 0)
    exact (bne_iff_ne.mpr h4).symm
set_option maxRecDepth 100000 in
set_option maxHeartbeats 4000000 in
theorem where_long (w : World) (s : ByteArray) (hs : s.size ≤ 9223372036854775807) (h : 700 < s.size) (hT : CTab w) :
    Calls Tryz.prog 8 #[.string s] w fun e w' => e = .returned (.bool true) ∧ Below w.heap.size w w' := by
  have HT := Lib.hid hT
  clear hT
  have d5 : decide ((700 : Int) < (s.size : Int)) = true := by rw [decide_eq_true_eq]; omega
  go_enter Tryz.func8, Tryz.ntmps8
  go_wp2_with fail
  refine (awake_any _ HT.out).mono ?_
  rintro e w1 ⟨rfl, b1⟩
  have HT1 := Lib.hid (HT.out.via b1)
  have HB1 := Lib.hid b1
  clear b1
  go_wp2_with fail
  refine (awake_any _ HT1.out).mono ?_
  rintro e w2 ⟨rfl, b2⟩
  have HB2 := Lib.hid (HB1.out.trans (b2.mono HB1.out.size))
  clear b2
  go_wp2_with fail
  go_ret
  exact ⟨rfl, HB2.out⟩
set_option maxRecDepth 100000 in
set_option maxHeartbeats 8000000 in
theorem where_short (w : World) (s : ByteArray) (h : s.size ≤ 700) (hT : CTab w) :
    Calls Tryz.prog 8 #[.string s] w fun e w' => e = .returned (.bool true) ∧ Below w.heap.size w w' := by
  have HT := Lib.hid hT
  have C := Lib.hid (fun W (k : CTab W) => why_any s W (by omega) k)
  have F := flaw_told s
  obtain ⟨p, hp⟩ : ∃ p, p = fromO (flaw s) := ⟨_, rfl⟩
  obtain ⟨q, hq⟩ : ∃ q, q = toO (flaw s) := ⟨_, rfl⟩
  obtain ⟨n, hn⟩ : ∃ n, n = enoO (flaw s) := ⟨_, rfl⟩
  obtain ⟨b, hb⟩ : ∃ b, b = isO (flaw s) := ⟨_, rfl⟩
  rw [← hp, ← hq, ← hn, ← hb] at C F
  obtain ⟨f1, f2, f3, f4, f5⟩ := F
  clear hT hp hq hn hb
  have d5 : decide ((700 : Int) < (s.size : Int)) = false := by rw [decide_eq_false_iff_not]; omega
  have g1 : decide ((0 : Int) ≤ p) = true := decide_eq_true f1
  have g2 : decide (p ≤ q) = true := decide_eq_true f2
  have g3 : decide (q ≤ (s.size : Int)) = true := decide_eq_true f3
  go_enter Tryz.func8, Tryz.ntmps8
  go_wp2_with fail
  refine (awake_any _ HT.out).mono ?_
  rintro e w1 ⟨rfl, b1⟩
  have HT1 := Lib.hid (HT.out.via b1)
  have HB1 := Lib.hid b1
  clear b1
  go_wp2_with fail
  refine (C.out _ HT1.out).mono ?_
  rintro e w2 ⟨rfl, b2⟩
  have HB2 := Lib.hid (HB1.out.trans (b2.mono HB1.out.size))
  clear b2 HT HT1 HB1 C
  obtain ⟨w3, hw3⟩ : ∃ w3, w3 = w2.alloc (.cells #[.int .i64 p, .int .i64 q] 37) := ⟨_, rfl⟩
  have hb3 : Below w2.heap.size w2 w3 := by rw [hw3]; exact below_alloc _
  have hs3 : w3.heap[w2.heap.size]? = some (.cells #[.int .i64 p, .int .i64 q] 37 (0, 0)) := by rw [hw3]; exact heap_alloc_new w2 _
  have HB3 := Lib.hid (HB2.out.trans (hb3.mono HB2.out.size))
  have s0 := cell_of_row w3 w2.heap.size 0 _ _ _ hs3
  have s1 := cell_of_row w3 w2.heap.size 1 _ _ _ hs3
  simp at s0 s1
  clear hs3 hb3
  cases b with
  | true =>
    have f6 : (n != 0) = true := f4.symm
    clear f4 f5
    go_wp2_with fail
    rw [← hw3]
    clear hw3
    go_wp2
    go_ret
    exact ⟨rfl, HB3.out⟩
  | false =>
    have f6 : (n != 0) = false := f4.symm
    obtain ⟨rfl, rfl⟩ := f5 rfl
    clear f4 f5
    go_wp2_with fail
    rw [← hw3]
    clear hw3
    go_wp2
    go_ret
    exact ⟨rfl, HB3.out⟩
theorem walk_CodecWhere (w : World) (s : ByteArray) (hs : s.size ≤ 9223372036854775807) (hT : CTab w) :
    Calls Tryz.prog 8 #[.string s] w fun e w' => e = .returned (.bool true) ∧ Below w.heap.size w w' := by
  by_cases h : s.size ≤ 700
  · exact where_short w s h hT
  · exact where_long w s hs (by omega) hT
end Go.Proofs.YtlimcimioeepaaaGreatDoor
