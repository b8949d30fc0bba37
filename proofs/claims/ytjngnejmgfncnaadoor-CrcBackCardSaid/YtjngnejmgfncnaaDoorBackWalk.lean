/- The walk of CrcBack in the seat YtjngnejmgfncnaaDoor: at any input it answers true. No statement is proved here. -/
import Derived.Test.YtjngnejmgfncnaaDoorSumsWalk
set_option linter.unusedVariables false
namespace Go.Proofs.YtjngnejmgfncnaaDoor
open Go.RowKit

set_option maxHeartbeats 1000000 in
theorem back_long (w : World) (s t : ByteArray) (hs : s.size ≤ 9223372036854775807) (ht : t.size ≤ 9223372036854775807) (hl : ¬ (s.size ≤ 300 ∧ t.size ≤ 300)) (hT : Tab w) :
    Calls Tryd.prog 7 #[.string s, .string t] w fun e w' => e = .returned (.bool true) ∧ Below w.heap.size w w' := by
  have HT := Lib.hid hT
  clear hT
  have h : 300 < s.size ∨ (s.size ≤ 300 ∧ 300 < t.size) := by omega
  clear hl
  rcases h with h | ⟨h, h1⟩
  all_goals
    go_enter Tryd.func7, Tryd.ntmps7
    go_wp2_with fail
    refine (awake_any _ HT.out).mono ?_
    rintro e w1 ⟨rfl, b1⟩
    have HT1 := below_tab HT b1
    have HB1 := Lib.hid b1
    clear b1
    go_wp2_with fail
    refine (awake_any _ HT1.out).mono ?_
    rintro e w2 ⟨rfl, b2⟩
    have HB2 := below_then HB1 b2
    clear b2
    go_wp2_with fail
    go_ret
    exact ⟨rfl, HB2.out⟩
set_option maxHeartbeats 1000000 in
theorem back_sound (w : World) (s t Z Y T : ByteArray) (c : Bool) (hs : s.size ≤ 300) (ht : t.size ≤ 300) (hT : Tab w)
    (e1 : (s.toList == t.toList) = c) (e2 : (Z.toList == Y.toList) = c)
    (h1 : ∀ W : World, Tab W → Calls Tryd.prog 12 #[.string s] W fun e w' => e = .returned (.string Z) ∧ Below W.heap.size W w')
    (h2 : ∀ W : World, Tab W → Calls Tryd.prog 14 #[.string Z] W fun e w' => e = .returned (.tuple #[.string s, .bool true]) ∧ Below W.heap.size W w')
    (h3 : ∀ W : World, Tab W → Calls Tryd.prog 14 #[.string t] W fun e w' => e = .returned (.tuple #[.string T, .bool true]) ∧ Below W.heap.size W w')
    (h4 : ∀ W : World, Tab W → Calls Tryd.prog 12 #[.string t] W fun e w' => e = .returned (.string Y) ∧ Below W.heap.size W w')
    (h5 : ∀ W : World, Tab W → Calls Tryd.prog 12 #[.string T] W fun e w' => e = .returned (.string t) ∧ Below W.heap.size W w') :
    Calls Tryd.prog 7 #[.string s, .string t] w fun e w' => e = .returned (.bool true) ∧ Below w.heap.size w w' := by
  have HT := Lib.hid hT
  have C1 := Lib.hid h1
  have C2 := Lib.hid h2
  have C3 := Lib.hid h3
  have C4 := Lib.hid h4
  have C5 := Lib.hid h5
  clear hT h1 h2 h3 h4 h5
  go_enter Tryd.func7, Tryd.ntmps7
  go_wp2_with fail
  refine (awake_any _ HT.out).mono ?_
  rintro e w1 ⟨rfl, b1⟩
  have HT1 := below_tab HT b1
  have HB1 := Lib.hid b1
  clear b1
  go_wp2_with fail
  refine (C1.out _ HT1.out).mono ?_
  rintro e w2 ⟨rfl, b2⟩
  have HT2 := below_tab HT1 b2
  have HB2 := below_then HB1 b2
  clear b2
  go_wp2_with fail
  refine (C2.out _ HT2.out).mono ?_
  rintro e w3 ⟨rfl, b3⟩
  have HT3 := below_tab HT2 b3
  have HB3 := below_then HB2 b3
  clear b3
  go_wp2_with fail
  refine (C3.out _ HT3.out).mono ?_
  rintro e w4 ⟨rfl, b4⟩
  have HT4 := below_tab HT3 b4
  have HB4 := below_then HB3 b4
  clear b4
  go_wp2_with fail
  refine (C1.out _ HT4.out).mono ?_
  rintro e w5 ⟨rfl, b5⟩
  have HT5 := below_tab HT4 b5
  have HB5 := below_then HB4 b5
  clear b5
  go_wp2_with fail
  refine (C4.out _ HT5.out).mono ?_
  rintro e w6 ⟨rfl, b6⟩
  have HT6 := below_tab HT5 b6
  have HB6 := below_then HB5 b6
  clear b6
  go_wp2_with fail
  refine (C5.out _ HT6.out).mono ?_
  rintro e w7 ⟨rfl, b7⟩
  have HB7 := below_then HB6 b7
  clear b7
  go_wp2_with fail
  go_ret
  exact ⟨rfl, HB7.out⟩
set_option maxHeartbeats 1000000 in
theorem back_not (w : World) (s t Z Y : ByteArray) (c : Bool) (hs : s.size ≤ 300) (ht : t.size ≤ 300) (hT : Tab w)
    (e1 : (s.toList == t.toList) = c) (e2 : (Z.toList == Y.toList) = c)
    (h1 : ∀ W : World, Tab W → Calls Tryd.prog 12 #[.string s] W fun e w' => e = .returned (.string Z) ∧ Below W.heap.size W w')
    (h2 : ∀ W : World, Tab W → Calls Tryd.prog 14 #[.string Z] W fun e w' => e = .returned (.tuple #[.string s, .bool true]) ∧ Below W.heap.size W w')
    (h3 : ∀ W : World, Tab W → Calls Tryd.prog 14 #[.string t] W fun e w' => e = .returned (.tuple #[.string ⟨#[]⟩, .bool false]) ∧ Below W.heap.size W w')
    (h4 : ∀ W : World, Tab W → Calls Tryd.prog 12 #[.string t] W fun e w' => e = .returned (.string Y) ∧ Below W.heap.size W w') :
    Calls Tryd.prog 7 #[.string s, .string t] w fun e w' => e = .returned (.bool true) ∧ Below w.heap.size w w' := by
  have HT := Lib.hid hT
  have C1 := Lib.hid h1
  have C2 := Lib.hid h2
  have C3 := Lib.hid h3
  have C4 := Lib.hid h4
  clear hT h1 h2 h3 h4
  go_enter Tryd.func7, Tryd.ntmps7
  go_wp2_with fail
  refine (awake_any _ HT.out).mono ?_
  rintro e w1 ⟨rfl, b1⟩
  have HT1 := below_tab HT b1
  have HB1 := Lib.hid b1
  clear b1
  go_wp2_with fail
  refine (C1.out _ HT1.out).mono ?_
  rintro e w2 ⟨rfl, b2⟩
  have HT2 := below_tab HT1 b2
  have HB2 := below_then HB1 b2
  clear b2
  go_wp2_with fail
  refine (C2.out _ HT2.out).mono ?_
  rintro e w3 ⟨rfl, b3⟩
  have HT3 := below_tab HT2 b3
  have HB3 := below_then HB2 b3
  clear b3
  go_wp2_with fail
  refine (C3.out _ HT3.out).mono ?_
  rintro e w4 ⟨rfl, b4⟩
  have HT4 := below_tab HT3 b4
  have HB4 := below_then HB3 b4
  clear b4
  go_wp2_with fail
  refine (C1.out _ HT4.out).mono ?_
  rintro e w5 ⟨rfl, b5⟩
  have HT5 := below_tab HT4 b5
  have HB5 := below_then HB4 b5
  clear b5
  go_wp2_with fail
  refine (C4.out _ HT5.out).mono ?_
  rintro e w6 ⟨rfl, b6⟩
  have HB6 := below_then HB5 b6
  clear b6
  go_wp2_with fail
  go_ret
  exact ⟨rfl, HB6.out⟩
theorem walk_CrcBack (w : World) (s : ByteArray) (hs : s.size ≤ 9223372036854775807) (t : ByteArray) (ht : t.size ≤ 9223372036854775807) (hT : Tab w) :
    Calls Tryd.prog 7 #[.string s, .string t] w fun e w' => e = .returned (.bool true) ∧ Below w.heap.size w w' := by
  by_cases hl : s.size ≤ 300 ∧ t.size ≤ 300
  · obtain ⟨ls, lt⟩ := hl
    have hc : ∃ c, (s.toList == t.toList) = c ∧ ((sealS s).toList == (sealS t).toList) = c := by
      by_cases h : s = t
      · subst h
        exact ⟨true, beq_self_eq_true _, beq_self_eq_true _⟩
      · exact ⟨false, str_beq h, str_beq fun e => h (seal_inj e)⟩
    obtain ⟨c, e1, e2⟩ := hc
    by_cases h : sound t
    · refine back_sound w s t (sealS s) (sealS t) (text t) c ls lt hT e1 e2 (fun W hT => seal_any s W (by omega) hT) (fun W hT => open_seal s W (by omega) hT) (fun W hT => open_yes t W (by omega) hT h) (fun W hT => seal_any t W (by omega) hT) (fun W hT => ?_)
      have k := seal_any (text t) W (by rw [text_size]; omega) hT
      rwa [seal_text h] at k
    · exact back_not w s t (sealS s) (sealS t) c ls lt hT e1 e2 (fun W hT => seal_any s W (by omega) hT) (fun W hT => open_seal s W (by omega) hT) (fun W hT => open_no t W (by omega) hT h) (fun W hT => seal_any t W (by omega) hT)
  · exact back_long w s t hs ht hl hT
end Go.Proofs.YtjngnejmgfncnaaDoor
