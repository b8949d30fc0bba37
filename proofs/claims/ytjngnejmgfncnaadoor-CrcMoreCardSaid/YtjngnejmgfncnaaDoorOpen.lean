/- The contract of crc.Open in the seat YtjngnejmgfncnaaDoor. No statement is proved here. -/
import Derived.Test.YtjngnejmgfncnaaDoorRefOpen
import Derived.Test.YtjngnejmgfncnaaDoorClone
set_option linter.unusedVariables false
namespace Go.Proofs.YtjngnejmgfncnaaDoor
open Go.RowKit Go.BigFrame

theorem text_size (s : ByteArray) : (text s).size = s.size - 4 := by unfold text; rw [ByteArray.size_extract]; omega
set_option maxRecDepth 100000 in
set_option maxHeartbeats 1000000 in
theorem open_yes (s : ByteArray) (w : World) (hs : s.size ≤ 1000) (hT : Tab w) (h : sound s) :
    Calls Tryd.prog 14 #[.string s] w fun e w' => e = .returned (.tuple #[.string (text s), .bool true]) ∧ Below w.heap.size w w' := by
  obtain ⟨h4, ht⟩ := h
  have hts := text_size s
  have C := Lib.hid (fun W => sum_any (text s) W (by omega))
  have D := Lib.hid (fun W => spell_any (crc (text s).data.toList) W (crc_lt _))
  have E := Lib.hid (fun W => clone_any (text s) W (by omega))
  have g2 : decide ((s.size : Int) < 4) = false := by rw [decide_eq_false_iff_not]; omega
  have g3 : decide (s.size < 4) = false := by rw [decide_eq_false_iff_not]; omega
  have e1 : ∀ W : World, (Instr.slice 9 (.string s) (some (.int .i64 ((text s).size : Int))) none none).run Tryd.prog W = .ok (.string (tail s)) W := fun W => by
    have h := run_slice_string_hi s W ((text s).size : Int) (by omega) (by omega)
    rwa [show ((text s).size : Int).toNat = s.size - 4 by omega] at h
  have e2 : ∀ W : World, (Instr.slice 9 (.string s) none (some (.int .i64 ((s.size : Int) - 4))) none).run Tryd.prog W = .ok (.string (text s)) W := fun W => by
    have h := run_slice_string_lo s W ((s.size : Int) - 4) (by omega) (by omega)
    rwa [show ((s.size : Int) - 4).toNat = s.size - 4 by omega] at h
  obtain ⟨n, hn⟩ : ∃ n, n = crc (text s).data.toList := ⟨_, rfl⟩
  rw [← hn] at C D ht
  obtain ⟨T, hT2⟩ : ∃ T, T = text s := ⟨_, rfl⟩
  rw [← hT2] at C E e1 e2 hts ⊢
  rw [ht] at e1
  clear hn ht hT2 hts
  go_enter Tryd.func14, Tryd.ntmps14
  go_wp2_with fail
  refine (C.out _ hT).mono ?_
  rintro e w1 ⟨rfl, rfl⟩
  go_wp2_with fail
  refine (D.out _).mono ?_
  rintro e w1 ⟨rfl, b1⟩
  have HB1 := Lib.hid b1
  clear b1
  go_wp2_with fail
  have hvd := conv_tailN w1 n 37
  go_quiet (fail)
  go_wp2_with fail
  refine (E.out _).mono ?_
  rintro e w2 ⟨rfl, b2⟩
  have HB2 := Lib.hid (HB1.out.trans (((below_drewN (below_alloc _) _).trans (b2.mono (by simp))).mono HB1.out.size))
  clear b2
  go_wp2
  go_ret2
  exact ⟨rfl, HB2.out⟩
set_option maxRecDepth 100000 in
set_option maxHeartbeats 1000000 in
theorem open_other (s : ByteArray) (w : World) (hs : s.size ≤ 1000) (hT : Tab w) (h4 : 4 ≤ s.size) (h : ¬ sound s) :
    Calls Tryd.prog 14 #[.string s] w fun e w' => e = .returned (.tuple #[.string ⟨#[]⟩, .bool false]) ∧ Below w.heap.size w w' := by
  have ht : tail s ≠ ⟨(tl (crc (text s).data.toList)).toArray⟩ := fun e => h ⟨h4, e⟩
  clear h
  have hts := text_size s
  have C := Lib.hid (fun W => sum_any (text s) W (by omega))
  have D := Lib.hid (fun W => spell_any (crc (text s).data.toList) W (crc_lt _))
  have g2 : decide ((s.size : Int) < 4) = false := by rw [decide_eq_false_iff_not]; omega
  have g3 : decide (s.size < 4) = false := by rw [decide_eq_false_iff_not]; omega
  have e1 : ∀ W : World, (Instr.slice 9 (.string s) (some (.int .i64 ((text s).size : Int))) none none).run Tryd.prog W = .ok (.string (tail s)) W := fun W => by
    have h := run_slice_string_hi s W ((text s).size : Int) (by omega) (by omega)
    rwa [show ((text s).size : Int).toNat = s.size - 4 by omega] at h
  have e2 : ∀ W : World, (Instr.slice 9 (.string s) none (some (.int .i64 ((s.size : Int) - 4))) none).run Tryd.prog W = .ok (.string (text s)) W := fun W => by
    have h := run_slice_string_lo s W ((s.size : Int) - 4) (by omega) (by omega)
    rwa [show ((s.size : Int) - 4).toNat = s.size - 4 by omega] at h
  obtain ⟨n, hn⟩ : ∃ n, n = crc (text s).data.toList := ⟨_, rfl⟩
  rw [← hn] at C D ht
  obtain ⟨T, hT2⟩ : ∃ T, T = text s := ⟨_, rfl⟩
  obtain ⟨U, hU⟩ : ∃ U, U = tail s := ⟨_, rfl⟩
  rw [← hT2] at C e1 e2 hts
  rw [← hU] at e1 ht
  have hne := str_ne ht
  have hne2 := str_beq ht
  have hne3 : (U.toList == tl n) = false := by rw [← hne2, ByteArray.toList_eq ⟨(tl n).toArray⟩]
  clear hn ht hT2 hU hts
  go_enter Tryd.func14, Tryd.ntmps14
  go_wp2_with fail
  refine (C.out _ hT).mono ?_
  rintro e w1 ⟨rfl, rfl⟩
  go_wp2_with fail
  refine (D.out _).mono ?_
  rintro e w1 ⟨rfl, b1⟩
  have HB1 := Lib.hid b1
  clear b1
  go_wp2_with fail
  have hvd := conv_tailN w1 n 37
  go_quiet (fail)
  go_wp2
  go_ret2
  exact ⟨rfl, HB1.out.trans ((below_drewN (below_alloc _) _).mono HB1.out.size)⟩
theorem open_no (s : ByteArray) (w : World) (hs : s.size ≤ 1000) (hT : Tab w) (h : ¬ sound s) :
    Calls Tryd.prog 14 #[.string s] w fun e w' => e = .returned (.tuple #[.string ⟨#[]⟩, .bool false]) ∧ Below w.heap.size w w' := by
  by_cases h4 : 4 ≤ s.size
  · exact open_other s w hs hT h4 h
  · have g2 : decide ((s.size : Int) < 4) = true := by rw [decide_eq_true_iff]; omega
    have g3 : decide (s.size < 4) = true := by rw [decide_eq_true_iff]; omega
    clear h hT
    go_enter Tryd.func14, Tryd.ntmps14
    go_wp2
    go_ret2
    exact ⟨rfl, Below.refl _ _⟩
end Go.Proofs.YtjngnejmgfncnaaDoor
