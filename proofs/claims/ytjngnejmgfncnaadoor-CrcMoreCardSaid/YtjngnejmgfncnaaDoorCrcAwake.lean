/- What is sealed opens, and nothing else does (plain), and the contract of awake of trefoillaw03 in the seat YtjngnejmgfncnaaDoor. No statement is proved here. -/
import Derived.Test.YtjngnejmgfncnaaDoorOpen
import Derived.Lib.Strings
set_option linter.unusedVariables false
namespace Go.Proofs.YtjngnejmgfncnaaDoor
open Go.RowKit

theorem bytes_ext {S T : ByteArray} (h : S.data.toList = T.data.toList) : S = T := ByteArray.ext (Array.toList_inj.mp h)
theorem text_list (s : ByteArray) : (text s).data.toList = s.data.toList.take (s.size - 4) := by
  unfold text
  rw [Lib.extract_data]
  simp
theorem tail_list (s : ByteArray) : (tail s).data.toList = s.data.toList.drop (s.size - 4) := by
  unfold tail
  rw [Lib.extract_data, List.take_of_length_le]
  rw [List.length_drop, show s.data.toList.length = s.size from rfl]
  omega
theorem text_seal (s : ByteArray) : text (sealS s) = s := by
  apply bytes_ext
  rw [text_list, sealS_list, sealS_size]
  unfold sealL
  rw [show s.size + 4 - 4 = s.data.toList.length by rw [show s.data.toList.length = s.size from rfl]; omega, List.take_left]
theorem tail_seal (s : ByteArray) : tail (sealS s) = ⟨(tl (crc s.data.toList)).toArray⟩ := by
  apply bytes_ext
  rw [tail_list, sealS_list, sealS_size]
  unfold sealL
  rw [show s.size + 4 - 4 = s.data.toList.length by rw [show s.data.toList.length = s.size from rfl]; omega, List.drop_left]
theorem sound_seal (s : ByteArray) : sound (sealS s) := ⟨by rw [sealS_size]; omega, by rw [tail_seal, text_seal]⟩
theorem seal_text {s : ByteArray} (h : sound s) : sealS (text s) = s := by
  obtain ⟨h4, ht⟩ := h
  apply bytes_ext
  have e : (sealS (text s)) = text s ++ tail s := by unfold sealS; rw [← ht]
  rw [e, ByteArray.data_append, Array.toList_append, text_list, tail_list, List.take_append_drop]
theorem seal_inj {s t : ByteArray} (h : sealS s = sealS t) : s = t := by rw [← text_seal s, h, text_seal]
theorem open_seal (s : ByteArray) (w : World) (hs : s.size ≤ 500) (hT : Tab w) :
    Calls Tryd.prog 14 #[.string (sealS s)] w fun e w' => e = .returned (.tuple #[.string s, .bool true]) ∧ Below w.heap.size w w' := by
  have h := open_yes (sealS s) w (by rw [sealS_size]; omega) hT (sound_seal s)
  rwa [text_seal] at h
theorem unsound_abcd : ¬ sound ⟨#[97, 98, 99, 100]⟩ := by
  rintro ⟨_, h⟩
  have h1 := congrArg (fun s : ByteArray => s.data.toList) h
  simp only [tail_list, text_list] at h1
  revert h1
  decide +kernel
theorem crc_9 : crc [49, 50, 51, 52, 53, 54, 55, 56, 57] = 3421780262 := by decide +kernel
theorem crc_0 : crc [] = 0 := by decide +kernel
theorem more_9 : more (crc [49, 50, 51, 52]) [53, 54, 55, 56, 57] = 3421780262 := by decide +kernel
theorem sum_9 (w : World) (hT : Tab w) : Calls Tryd.prog 10 #[.string ⟨#[49, 50, 51, 52, 53, 54, 55, 56, 57]⟩] w fun e w' => e = .returned (.int .u32 3421780262) ∧ w = w' := by
  have h := sum_any ⟨#[49, 50, 51, 52, 53, 54, 55, 56, 57]⟩ w (by decide) hT
  rw [show crc (⟨#[49, 50, 51, 52, 53, 54, 55, 56, 57]⟩ : ByteArray).data.toList = 3421780262 from crc_9] at h
  exact h
theorem sum_0 (w : World) (hT : Tab w) : Calls Tryd.prog 10 #[.string ⟨#[]⟩] w fun e w' => e = .returned (.int .u32 0) ∧ w = w' := by
  have h := sum_any ⟨#[]⟩ w (by decide) hT
  rw [show crc (⟨#[]⟩ : ByteArray).data.toList = 0 from crc_0] at h
  exact h
theorem sum_4 (w : World) (hT : Tab w) : Calls Tryd.prog 10 #[.string ⟨#[49, 50, 51, 52]⟩] w fun e w' => e = .returned (.int .u32 (crc [49, 50, 51, 52] : Nat)) ∧ w = w' :=
  sum_any ⟨#[49, 50, 51, 52]⟩ w (by decide) hT
theorem more_5 (w : World) (hT : Tab w) : Calls Tryd.prog 16 #[.int .u32 (crc [49, 50, 51, 52] : Nat), .string ⟨#[53, 54, 55, 56, 57]⟩] w fun e w' => e = .returned (.int .u32 3421780262) ∧ w = w' := by
  have h := more_any (crc [49, 50, 51, 52]) ⟨#[53, 54, 55, 56, 57]⟩ w (crc_lt _) (by decide) hT
  rw [show more (crc [49, 50, 51, 52]) (⟨#[53, 54, 55, 56, 57]⟩ : ByteArray).data.toList = 3421780262 from more_9] at h
  exact h

set_option maxRecDepth 100000 in
set_option maxHeartbeats 1000000 in
theorem awake_any (w : World) (hT : Tab w) : Calls Tryd.prog 9 #[] w fun e w' => e = .returned (.bool true) ∧ Below w.heap.size w w' := by
  have HT := Lib.hid hT
  clear hT
  obtain ⟨c, hc⟩ : ∃ c, c = crc [49, 50, 51, 52] := ⟨_, rfl⟩
  have S4 := fun w => sum_4 w
  have M5 := fun w => more_5 w
  rw [← hc] at S4 M5
  have C4 := Lib.hid S4
  have C5 := Lib.hid M5
  have CS := Lib.hid (fun W => seal_any ⟨#[97, 98, 99]⟩ W (by decide))
  have CO := Lib.hid (fun W => open_seal ⟨#[97, 98, 99]⟩ W (by decide))
  have CN := Lib.hid (fun W hT => open_no ⟨#[97, 98, 99, 100]⟩ W (by decide) hT unsound_abcd)
  obtain ⟨Z, hZ⟩ : ∃ Z, Z = sealS ⟨#[97, 98, 99]⟩ := ⟨_, rfl⟩
  rw [← hZ] at CS CO
  clear S4 M5 hc hZ
  go_enter Tryd.func9, Tryd.ntmps9
  go_wp2_with fail
  refine (CS.out _ HT.out).mono ?_
  rintro e w1 ⟨rfl, b1⟩
  have HT1 := Lib.hid (HT.out.below b1 HT.out.lt)
  have HB1 := Lib.hid b1
  clear b1
  go_wp2_with fail
  refine (CO.out _ HT1.out).mono ?_
  rintro e w2 ⟨rfl, b2⟩
  have HT2 := Lib.hid (HT1.out.below b2 HT1.out.lt)
  have HB2 := Lib.hid (HB1.out.trans (b2.mono HB1.out.size))
  clear b2
  go_wp2_with fail
  refine (CN.out _ HT2.out).mono ?_
  rintro e w3 ⟨rfl, b3⟩
  have HT3 := Lib.hid (HT2.out.below b3 HT2.out.lt)
  have HB3 := Lib.hid (HB2.out.trans (b3.mono HB2.out.size))
  clear b3
  go_wp2_with fail
  refine (sum_9 _ HT3.out).mono ?_
  rintro e w4 ⟨rfl, rfl⟩
  go_wp2_with fail
  refine (sum_0 _ HT3.out).mono ?_
  rintro e w4 ⟨rfl, rfl⟩
  go_wp2_with fail
  refine (C4.out _ HT3.out).mono ?_
  rintro e w4 ⟨rfl, rfl⟩
  go_wp2_with fail
  refine (C5.out _ HT3.out).mono ?_
  rintro e w4 ⟨rfl, rfl⟩
  go_wp2_with fail
  go_ret
  exact ⟨rfl, HB3.out⟩
end Go.Proofs.YtjngnejmgfncnaaDoor
