/- The contract of the document's own Open of layer 3 (trefoilref03) in the seat YtjngnejmgfncnaaDoor. No statement is proved here. -/
import Derived.Test.YtjngnejmgfncnaaDoorTail
import Derived.Test.YtjngnejmgfncnaaDoorNear
set_option linter.unusedVariables false
namespace Go.Proofs.YtjngnejmgfncnaaDoor
open Go.RowKit Go.BigFrame

/-- A text's bytes ahead of its last four, and these. -/
def text (s : ByteArray) : ByteArray := s.extract 0 (s.size - 4)
def tail (s : ByteArray) : ByteArray := s.extract (s.size - 4) s.size
def sound (s : ByteArray) : Prop := 4 ≤ s.size ∧ tail s = ⟨(tl (crc (text s).data.toList)).toArray⟩

theorem str_beq {S T : ByteArray} (h : S ≠ T) : (S.toList == T.toList) = false := by
  rw [beq_eq_false_iff_ne]
  intro e
  apply h
  apply ByteArray.ext
  apply Array.toList_inj.mp
  rwa [ByteArray.toList_eq, ByteArray.toList_eq] at e
theorem str_ne {S T : ByteArray} (h : S ≠ T) : (S.toList != T.toList) = true := by
  unfold bne
  rw [str_beq h]
  rfl

theorem run_slice_string_hi (s : ByteArray) (W : World) (i : Int) (h0 : 0 ≤ i) (h1 : i ≤ s.size) :
    (Instr.slice 9 (.string s) (some (.int .i64 i)) none none).run Tryd.prog W = .ok (.string (s.extract i.toNat s.size)) W := by
  have hi : 0 ≤ i ∧ i ≤ ((s.size : Nat) : Int) := ⟨h0, h1⟩
  simp [Instr.slice, Instr.sliceBounds, Instr.sliceBound, asIntOf, run_underlying Tryd.underlying9, hi]
  done
theorem run_slice_string_lo (s : ByteArray) (W : World) (i : Int) (h0 : 0 ≤ i) (h1 : i ≤ s.size) :
    (Instr.slice 9 (.string s) none (some (.int .i64 i)) none).run Tryd.prog W = .ok (.string (s.extract 0 i.toNat)) W := by
  have hi : 0 ≤ i ∧ i ≤ ((s.size : Nat) : Int) := ⟨h0, h1⟩
  simp [Instr.slice, Instr.sliceBounds, Instr.sliceBound, asIntOf, run_underlying Tryd.underlying9, hi]
  done

set_option maxRecDepth 100000 in
set_option maxHeartbeats 2000000 in
theorem ropen_yes (s : ByteArray) (w : World) (hs : s.size ≤ 1000) (h : sound s) :
    Calls Tryd.prog 15 #[.string s] w fun e w' => e = .returned (.tuple #[.string (text s), .bool true]) ∧ Below w.heap.size w w' := by
  obtain ⟨h4, ht⟩ := h
  have hts : (text s).size ≤ 9223372036854775807 := by unfold text; rw [ByteArray.size_extract]; omega
  have C := Lib.hid (fun W => rsum_any (text s) W hts)
  have D := Lib.hid (fun W => rtail_any (crc (text s).data.toList) W (crc_lt _))
  rw [← ht] at D
  have g1 : decide (((s.size : Int) - 4) < 0) = false := by rw [decide_eq_false_iff_not]; omega
  have g2 : decide ((s.size : Int) < 4) = false := by rw [decide_eq_false_iff_not]; omega
  have g3 : decide (s.size < 4) = false := by rw [decide_eq_false_iff_not]; omega
  have e1 : ∀ W : World, (Instr.slice 9 (.string s) (some (.int .i64 ((s.size : Int) - 4))) none none).run Tryd.prog W = .ok (.string (tail s)) W := fun W => by
    have h := run_slice_string_hi s W ((s.size : Int) - 4) (by omega) (by omega)
    rwa [show ((s.size : Int) - 4).toNat = s.size - 4 by omega] at h
  have e2 : ∀ W : World, (Instr.slice 9 (.string s) none (some (.int .i64 ((s.size : Int) - 4))) none).run Tryd.prog W = .ok (.string (text s)) W := fun W => by
    have h := run_slice_string_lo s W ((s.size : Int) - 4) (by omega) (by omega)
    rwa [show ((s.size : Int) - 4).toNat = s.size - 4 by omega] at h
  obtain ⟨n, hn⟩ : ∃ n, n = crc (text s).data.toList := ⟨_, rfl⟩
  rw [← hn] at C D
  obtain ⟨T, hT⟩ : ∃ T, T = text s := ⟨_, rfl⟩
  obtain ⟨U, hU⟩ : ∃ U, U = tail s := ⟨_, rfl⟩
  rw [← hT] at C e2
  rw [← hU] at D e1
  have hne : (U.toList != U.toList) = false := by simp
  rw [← hT]
  clear hn ht hT hU hts
  go_enter Tryd.func15, Tryd.ntmps15
  go_wp2_with fail
  refine wp_region_near w.heap.size (by kernel_rfl) (by kernel_rfl) (Nat.le_refl _) ?_
  repeat (go_big_quiet_step (first
    | (go_at_call 11; exact near_same (C.out _))
    | (go_at_call 13; exact near_of (D.out _) (Nat.le_refl _))))
  refine wpQuiet_nil ?_
  intro W hW
  have HW := Lib.hid hW
  clear hW
  go_wp2
  go_ret2
  exact ⟨rfl, HW.out⟩
set_option maxRecDepth 100000 in
set_option maxHeartbeats 2000000 in
theorem ropen_other (s : ByteArray) (w : World) (hs : s.size ≤ 1000) (h4 : 4 ≤ s.size) (h : ¬ sound s) :
    Calls Tryd.prog 15 #[.string s] w fun e w' => e = .returned (.tuple #[.string ⟨#[]⟩, .bool false]) ∧ Below w.heap.size w w' := by
  have ht : tail s ≠ ⟨(tl (crc (text s).data.toList)).toArray⟩ := fun e => h ⟨h4, e⟩
  clear h
  have hts : (text s).size ≤ 9223372036854775807 := by unfold text; rw [ByteArray.size_extract]; omega
  have C := Lib.hid (fun W => rsum_any (text s) W hts)
  have D := Lib.hid (fun W => rtail_any (crc (text s).data.toList) W (crc_lt _))
  have g1 : decide (((s.size : Int) - 4) < 0) = false := by rw [decide_eq_false_iff_not]; omega
  have g2 : decide ((s.size : Int) < 4) = false := by rw [decide_eq_false_iff_not]; omega
  have g3 : decide (s.size < 4) = false := by rw [decide_eq_false_iff_not]; omega
  have e1 : ∀ W : World, (Instr.slice 9 (.string s) (some (.int .i64 ((s.size : Int) - 4))) none none).run Tryd.prog W = .ok (.string (tail s)) W := fun W => by
    have h := run_slice_string_hi s W ((s.size : Int) - 4) (by omega) (by omega)
    rwa [show ((s.size : Int) - 4).toNat = s.size - 4 by omega] at h
  have e2 : ∀ W : World, (Instr.slice 9 (.string s) none (some (.int .i64 ((s.size : Int) - 4))) none).run Tryd.prog W = .ok (.string (text s)) W := fun W => by
    have h := run_slice_string_lo s W ((s.size : Int) - 4) (by omega) (by omega)
    rwa [show ((s.size : Int) - 4).toNat = s.size - 4 by omega] at h
  obtain ⟨V, hV⟩ : ∃ V : ByteArray, V = ⟨(tl (crc (text s).data.toList)).toArray⟩ := ⟨_, rfl⟩
  rw [← hV] at D ht
  obtain ⟨n, hn⟩ : ∃ n, n = crc (text s).data.toList := ⟨_, rfl⟩
  rw [← hn] at C D
  obtain ⟨T, hT⟩ : ∃ T, T = text s := ⟨_, rfl⟩
  obtain ⟨U, hU⟩ : ∃ U, U = tail s := ⟨_, rfl⟩
  rw [← hT] at C e2
  rw [← hU] at e1 ht
  have hne := str_ne ht
  have hne2 := str_beq ht
  clear hn hT hU hV hts ht
  go_enter Tryd.func15, Tryd.ntmps15
  go_wp2_with fail
  refine wp_region_near w.heap.size (by kernel_rfl) (by kernel_rfl) (Nat.le_refl _) ?_
  repeat (go_big_quiet_step (first
    | (go_at_call 11; exact near_same (C.out _))
    | (go_at_call 13; exact near_of (D.out _) (Nat.le_refl _))))
  refine wpQuiet_nil ?_
  intro W hW
  have HW := Lib.hid hW
  clear hW
  go_wp2
  go_ret2
  exact ⟨rfl, HW.out⟩
theorem ropen_no (s : ByteArray) (w : World) (hs : s.size ≤ 1000) (h : ¬ sound s) :
    Calls Tryd.prog 15 #[.string s] w fun e w' => e = .returned (.tuple #[.string ⟨#[]⟩, .bool false]) ∧ Below w.heap.size w w' := by
  by_cases h4 : 4 ≤ s.size
  · exact ropen_other s w hs h4 h
  · have g1 : decide (((s.size : Int) - 4) < 0) = true := by rw [decide_eq_true_iff]; omega
    have g2 : decide ((s.size : Int) < 4) = true := by rw [decide_eq_true_iff]; omega
    have g3 : decide (s.size < 4) = true := by rw [decide_eq_true_iff]; omega
    clear h
    go_enter Tryd.func15, Tryd.ntmps15
    go_wp2_with fail
    go_quiet (fail)
    go_wp2
    go_ret2
    exact ⟨rfl, below_drewN (Below.refl _ _) _⟩
end Go.Proofs.YtjngnejmgfncnaaDoor
