/- The walks of CrcSums, CrcOpens and CrcMore in the seat YtjngnejmgfncnaaDoor: at any input they answer true. No statement is proved here. -/
import Derived.Test.YtjngnejmgfncnaaDoorCrcAwake
set_option linter.unusedVariables false
namespace Go.Proofs.YtjngnejmgfncnaaDoor
open Go.RowKit

theorem below_tab {w w' : World} (h : Hid (Tab w)) (b : Below w.heap.size w w') : Hid (Tab w') := Lib.hid (h.out.below b h.out.lt)
theorem below_then {w w1 w2 : World} (h : Hid (Below w.heap.size w w1)) (b : Below w1.heap.size w1 w2) : Hid (Below w.heap.size w w2) := Lib.hid (h.out.trans (b.mono h.out.size))

set_option maxHeartbeats 1000000 in
theorem sums_long (w : World) (s : ByteArray) (hs : s.size ≤ 9223372036854775807) (hl : 300 < s.size) (hT : Tab w) :
    Calls Tryd.prog 3 #[.string s] w fun e w' => e = .returned (.bool true) ∧ Below w.heap.size w w' := by
  have HT := Lib.hid hT
  clear hT
  go_enter Tryd.func3, Tryd.ntmps3
  go_wp2_with fail
  refine (awake_any _ HT.out).mono ?_
  rintro e w1 ⟨rfl, b1⟩
  have HT1 := below_tab HT b1
  have HB1 := Lib.hid b1
  clear b1
  go_wp2_with fail
  refine (awake_any _ HT1.out).mono ?_
  rintro e w2 ⟨rfl, b2⟩
  have HB2 := below_then HB1 b2
  clear b2
  go_wp2_with fail
  go_ret
  exact ⟨rfl, HB2.out⟩
set_option maxHeartbeats 1000000 in
theorem walk_CrcSums (w : World) (s : ByteArray) (hs : s.size ≤ 9223372036854775807) (hT : Tab w) :
    Calls Tryd.prog 3 #[.string s] w fun e w' => e = .returned (.bool true) ∧ Below w.heap.size w w' := by
  by_cases hl : s.size ≤ 300
  · have HT := Lib.hid hT
    have C1 := Lib.hid (fun W hT => sum_any s W hs hT)
    have C2 := Lib.hid (fun W => rsum_any s W hs)
    have C3 := Lib.hid (fun W hT => seal_any s W (by omega) hT)
    have C4 := Lib.hid (fun W => rtail_any (crc s.data.toList) W (crc_lt _))
    have HE : Hid (sealS s = s ++ ⟨(tl (crc s.data.toList)).toArray⟩) := Lib.hid rfl
    obtain ⟨n, hn⟩ : ∃ n, n = crc s.data.toList := ⟨_, rfl⟩
    rw [← hn] at C1 C2 C4 HE
    obtain ⟨T, hTe⟩ : ∃ T : ByteArray, T = ⟨(tl n).toArray⟩ := ⟨_, rfl⟩
    have hTs : T.size = 4 := by rw [hTe]; rfl
    rw [← hTe] at C4 HE
    rw [HE.out] at C3
    clear hT hn hTe HE
    go_enter Tryd.func3, Tryd.ntmps3
    go_wp2_with fail
    refine (awake_any _ HT.out).mono ?_
    rintro e w1 ⟨rfl, b1⟩
    have HT1 := below_tab HT b1
    have HB1 := Lib.hid b1
    clear b1
    go_wp2_with fail
    refine (C1.out _ HT1.out).mono ?_
    rintro e w2 ⟨rfl, rfl⟩
    go_wp2_with fail
    refine (C2.out _).mono ?_
    rintro e w2 ⟨rfl, rfl⟩
    go_wp2_with fail
    refine (C3.out _ HT1.out).mono ?_
    rintro e w2 ⟨rfl, b2⟩
    have HB2 := below_then HB1 b2
    clear b2
    go_wp2_with fail
    refine (C2.out _).mono ?_
    rintro e w3 ⟨rfl, rfl⟩
    go_wp2_with fail
    refine (C4.out _).mono ?_
    rintro e w3 ⟨rfl, b3⟩
    have HB3 := below_then HB2 b3
    clear b3
    go_wp2_with fail
    go_ret
    exact ⟨rfl, HB3.out⟩
  · exact sums_long w s hs (by omega) hT

set_option maxHeartbeats 1000000 in
theorem opens_long (w : World) (s : ByteArray) (hs : s.size ≤ 9223372036854775807) (hl : 300 < s.size) (hT : Tab w) :
    Calls Tryd.prog 4 #[.string s] w fun e w' => e = .returned (.bool true) ∧ Below w.heap.size w w' := by
  have HT := Lib.hid hT
  clear hT
  go_enter Tryd.func4, Tryd.ntmps4
  go_wp2_with fail
  refine (awake_any _ HT.out).mono ?_
  rintro e w1 ⟨rfl, b1⟩
  have HT1 := below_tab HT b1
  have HB1 := Lib.hid b1
  clear b1
  go_wp2_with fail
  refine (awake_any _ HT1.out).mono ?_
  rintro e w2 ⟨rfl, b2⟩
  have HB2 := below_then HB1 b2
  clear b2
  go_wp2_with fail
  go_ret
  exact ⟨rfl, HB2.out⟩
set_option maxHeartbeats 1000000 in
theorem opens_core (w : World) (s : ByteArray) (a : ByteArray) (b : Bool) (hl : s.size ≤ 300) (hT : Tab w)
    (h1 : ∀ W : World, Tab W → Calls Tryd.prog 14 #[.string s] W fun e w' => e = .returned (.tuple #[.string a, .bool b]) ∧ Below W.heap.size W w')
    (h2 : ∀ W : World, Calls Tryd.prog 15 #[.string s] W fun e w' => e = .returned (.tuple #[.string a, .bool b]) ∧ Below W.heap.size W w') :
    Calls Tryd.prog 4 #[.string s] w fun e w' => e = .returned (.bool true) ∧ Below w.heap.size w w' := by
  have HT := Lib.hid hT
  have C1 := Lib.hid h1
  have C2 := Lib.hid h2
  clear hT h1 h2
  go_enter Tryd.func4, Tryd.ntmps4
  go_wp2_with fail
  refine (awake_any _ HT.out).mono ?_
  rintro e w1 ⟨rfl, b1⟩
  have HT1 := below_tab HT b1
  have HB1 := Lib.hid b1
  clear b1
  go_wp2_with fail
  refine (C1.out _ HT1.out).mono ?_
  rintro e w2 ⟨rfl, b2⟩
  have HB2 := below_then HB1 b2
  clear b2
  go_wp2_with fail
  refine (C2.out _).mono ?_
  rintro e w3 ⟨rfl, b3⟩
  have HB3 := below_then HB2 b3
  clear b3
  go_wp2_with fail
  go_ret
  exact ⟨rfl, HB3.out⟩
theorem walk_CrcOpens (w : World) (s : ByteArray) (hs : s.size ≤ 9223372036854775807) (hT : Tab w) :
    Calls Tryd.prog 4 #[.string s] w fun e w' => e = .returned (.bool true) ∧ Below w.heap.size w w' := by
  by_cases hl : s.size ≤ 300
  · by_cases h : sound s
    · exact opens_core w s (text s) true hl hT (fun W hT => open_yes s W (by omega) hT h) (fun W => ropen_yes s W (by omega) h)
    · exact opens_core w s ⟨#[]⟩ false hl hT (fun W hT => open_no s W (by omega) hT h) (fun W => ropen_no s W (by omega) h)
  · exact opens_long w s hs (by omega) hT

set_option maxHeartbeats 1000000 in
theorem more_long (w : World) (a b c : ByteArray) (ha : a.size ≤ 9223372036854775807) (hb : b.size ≤ 9223372036854775807) (hc : c.size ≤ 9223372036854775807) (hl : ¬ (a.size ≤ 100 ∧ b.size ≤ 100 ∧ c.size ≤ 100)) (hT : Tab w) :
    Calls Tryd.prog 5 #[.string a, .string b, .string c] w fun e w' => e = .returned (.bool true) ∧ Below w.heap.size w w' := by
  have HT := Lib.hid hT
  clear hT
  have h : 100 < a.size ∨ (a.size ≤ 100 ∧ 100 < b.size) ∨ (a.size ≤ 100 ∧ b.size ≤ 100 ∧ 100 < c.size) := by omega
  clear hl
  rcases h with h | ⟨h, h1⟩ | ⟨h, h1, h2⟩
  all_goals
    go_enter Tryd.func5, Tryd.ntmps5
    go_wp2_with fail
    refine (awake_any _ HT.out).mono ?_
    rintro e w1 ⟨rfl, b1⟩
    have HT1 := below_tab HT b1
    have HB1 := Lib.hid b1
    clear b1
    go_wp2_with fail
    refine (awake_any _ HT1.out).mono ?_
    rintro e w2 ⟨rfl, b2⟩
    have HB2 := below_then HB1 b2
    clear b2
    go_wp2_with fail
    go_ret
    exact ⟨rfl, HB2.out⟩
set_option maxHeartbeats 1000000 in
theorem walk_CrcMore (w : World) (a : ByteArray) (ha : a.size ≤ 9223372036854775807) (b : ByteArray) (hb : b.size ≤ 9223372036854775807) (c : ByteArray) (hc : c.size ≤ 9223372036854775807) (hT : Tab w) :
    Calls Tryd.prog 5 #[.string a, .string b, .string c] w fun e w' => e = .returned (.bool true) ∧ Below w.heap.size w w' := by
  by_cases hl : a.size ≤ 100 ∧ b.size ≤ 100 ∧ c.size ≤ 100
  · obtain ⟨la, lb, lc⟩ := hl
    have HT := Lib.hid hT
    have C1 := Lib.hid (fun W hT => sum_any a W ha hT)
    have C2 := Lib.hid (fun W hT => more_any (crc a.data.toList) b W (crc_lt _) hb hT)
    have C3 := Lib.hid (fun W hT => more_any (crc (a.data.toList ++ b.data.toList)) c W (crc_lt _) hc hT)
    have C4 := Lib.hid (fun W hT => sum_any (a ++ b ++ c) W (by rw [ByteArray.size_append, ByteArray.size_append]; omega) hT)
    have C5 := Lib.hid (fun W hT => more_any (crc a.data.toList) ⟨#[]⟩ W (crc_lt _) (by decide) hT)
    rw [more_crc] at C2 C3
    rw [show more (crc a.data.toList) (⟨#[]⟩ : ByteArray).data.toList = crc a.data.toList from more_nil _] at C5
    rw [show (a ++ b ++ c).data.toList = a.data.toList ++ b.data.toList ++ c.data.toList by rw [ByteArray.data_append, Array.toList_append, ByteArray.data_append, Array.toList_append]] at C4
    obtain ⟨x, hx⟩ : ∃ x, x = crc a.data.toList := ⟨_, rfl⟩
    obtain ⟨y, hy⟩ : ∃ y, y = crc (a.data.toList ++ b.data.toList) := ⟨_, rfl⟩
    obtain ⟨z, hz⟩ : ∃ z, z = crc (a.data.toList ++ b.data.toList ++ c.data.toList) := ⟨_, rfl⟩
    rw [← hx] at C1 C2 C5
    rw [← hy] at C2 C3
    rw [← hz] at C3 C4
    have hab : (a ++ b).size = a.size + b.size := ByteArray.size_append
    have hab2 : (a ++ b).size ≤ 200 := by omega
    clear hab
    clear hT hx hy hz
    go_enter Tryd.func5, Tryd.ntmps5
    go_wp2_with fail
    refine (awake_any _ HT.out).mono ?_
    rintro e w1 ⟨rfl, b1⟩
    have HT1 := below_tab HT b1
    have HB1 := Lib.hid b1
    clear b1
    go_wp2_with fail
    refine (C1.out _ HT1.out).mono ?_
    rintro e w2 ⟨rfl, rfl⟩
    go_wp2_with fail
    refine (C2.out _ HT1.out).mono ?_
    rintro e w2 ⟨rfl, rfl⟩
    go_wp2_with fail
    refine (C3.out _ HT1.out).mono ?_
    rintro e w2 ⟨rfl, rfl⟩
    go_wp2_with fail
    refine (C4.out _ HT1.out).mono ?_
    rintro e w2 ⟨rfl, rfl⟩
    go_wp2_with fail
    refine (C1.out _ HT1.out).mono ?_
    rintro e w2 ⟨rfl, rfl⟩
    go_wp2_with fail
    refine (C5.out _ HT1.out).mono ?_
    rintro e w2 ⟨rfl, rfl⟩
    go_wp2_with fail
    refine (C1.out _ HT1.out).mono ?_
    rintro e w2 ⟨rfl, rfl⟩
    go_wp2_with fail
    go_ret
    exact ⟨rfl, HB1.out⟩
  · exact more_long w a b c ha hb hc hl hT
end Go.Proofs.YtjngnejmgfncnaaDoor
