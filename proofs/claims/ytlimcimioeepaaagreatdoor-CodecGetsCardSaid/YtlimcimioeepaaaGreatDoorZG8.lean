/- Contracts of the library's shelf at the seat YtlimcimioeepaaaGreatDoor, in plain words.
   The contract of strings.Clone in the seat YtlimcimioeepaaaGreatDoor.
   The contract of crc.Open in the seat YtlimcimioeepaaaGreatDoor.
   What is sealed opens, and nothing else does (plain), in the seat YtlimcimioeepaaaGreatDoor (parted out of CrcAwake in round 6).
   Bytes that are turned (plain): what the laws of layer 3 turn, and that it is told, in the seat YtlimcimioeepaaaGreatDoor.
   Words for memory in the seat YtlimcimioeepaaaGreatDoor: a row of bytes that '[]byte(s)' lays, one of its cells written, the row as a string again.
   No statement is proved here. -/
import Derived.Shelf.Strings.Builder1
import Derived.Shelf.Strings.Builder2
import Derived.Shelf.Strings.BuilderF
import Derived.Shelf.Strings.BuilderK
import Derived.Shelf.Strings.Builder2Cap
import Derived.Shelf.LaysM
import Derived.Shelf.Strconv.Clone
import Derived.Shelf.Strings.BuilderCap
import Derived.Test.YtlimcimioeepaaaGreatDoorProg
import Derived.Test.YtlimcimioeepaaaGreatDoorChecked
import Derived.WalkKit
import Derived.Below
import Derived.Lib.Hide
import Derived.Test.YtlimcimioeepaaaGreatDoorZG7
import Derived.Lib.Strings
import Derived.WalkSmall
import Derived.Laws.Rows
import Derived.Laws.IdiomStrings
import Derived.Lib.BufferMore
namespace Go.Proofs
open Go.Shelf Go.RowKit
def Tryz.lays169_ren : Go.Shelf.Ren := ⟨fun | 169 => 53 | n => n, fun | 70 => 92 | 9 => 9 | 0 => 0 | 72 => 94 | 37 => 45 | 127 => 142 | 3 => 3 | 5 => 5 | n => n, fun | n => n⟩
theorem Tryz.lays169 : Go.Proofs.Lays.n169 Tryz.prog Tryz.lays169_ren := {
  mixed := by kernel_rfl
  f169 := Tryz.func53.trans (congrArg some (by kernel_rfl))
  t0 := Tryz.underlying0
  a0 := Tryz.isAgg0
  z0 := Tryz.sizeOf0
  v0 := Tryz.zeroValue0
  t3 := Tryz.underlying3
  a3 := Tryz.isAgg3
  z3 := Tryz.sizeOf3
  v3 := Tryz.zeroValue3
  t9 := Tryz.underlying9
  a9 := Tryz.isAgg9
  z9 := Tryz.sizeOf9
  v9 := Tryz.zeroValue9
  t37 := Tryz.underlying45
  a37 := Tryz.isAgg45
  z37 := Tryz.sizeOf45
  v37 := Tryz.zeroValue45
  t70 := Tryz.underlying92
  a70 := Tryz.isAgg92
  z70 := Tryz.sizeOf92
  v70 := Tryz.zeroValue92
  t72 := Tryz.underlying94
  a72 := Tryz.isAgg94
  z72 := Tryz.sizeOf94
  v72 := Tryz.zeroValue94
  t127 := Tryz.underlying142
  a127 := Tryz.isAgg142
  z127 := Tryz.sizeOf142
  v127 := Tryz.zeroValue142 }
theorem Tryz.Builder_Extra_169 : Builder.Extra Tryz.prog Tryz.lays169_ren := {
  sizeBuilder := by kernel_rfl
  liesBuilder := by kernel_rfl
  t5 := Tryz.underlying5
  a5 := Tryz.isAgg5
  z5 := Tryz.sizeOf5
  v5 := Tryz.zeroValue5
  infoByte := by kernel_rfl
  cellsByte := by kernel_rfl
  sizeByte := by kernel_rfl
  neB5 := by decide }
theorem Tryz.Builder_String_any (B b : Nat) (l : List UInt8) (w : World) (h : Lib.IsBuilder 94 5 B b (Lib.byteCells l) w) (hBw : B ≤ w.heap.size) :
    Calls Tryz.prog 53 #[.pointer (some ⟨b, 0, none⟩)] w fun e w' => e = .returned (.string ⟨l.toArray⟩) ∧ Below B w w' := Any.Builder_String_any Tryz.lays169 Tryz.Builder_Extra_169 B b l w h hBw
def Tryz.lays165_ren : Go.Shelf.Ren := ⟨fun | 165 => 86 | 240 => 89 | 241 => 123 | 276 => 124 | 277 => 133 | n => n, fun | 70 => 92 | 3 => 3 | 0 => 0 | 4 => 4 | 9 => 9 | 20 => 20 | 72 => 94 | 37 => 45 | 164 => 110 | 5 => 5 | n => n, fun | n => n⟩
theorem Tryz.lays165 : Go.Proofs.Lays.n165 Tryz.prog Tryz.lays165_ren := {
  mixed := by kernel_rfl
  f165 := Tryz.func86.trans (congrArg some (by kernel_rfl))
  f240 := Tryz.func89.trans (congrArg some (by kernel_rfl))
  f241 := Tryz.func123.trans (congrArg some (by kernel_rfl))
  f276 := Tryz.func124.trans (congrArg some (by kernel_rfl))
  f277 := Tryz.func133.trans (congrArg some (by kernel_rfl))
  t0 := Tryz.underlying0
  a0 := Tryz.isAgg0
  z0 := Tryz.sizeOf0
  v0 := Tryz.zeroValue0
  t3 := Tryz.underlying3
  a3 := Tryz.isAgg3
  z3 := Tryz.sizeOf3
  v3 := Tryz.zeroValue3
  t4 := Tryz.underlying4
  a4 := Tryz.isAgg4
  z4 := Tryz.sizeOf4
  v4 := Tryz.zeroValue4
  t9 := Tryz.underlying9
  a9 := Tryz.isAgg9
  z9 := Tryz.sizeOf9
  v9 := Tryz.zeroValue9
  t20 := Tryz.underlying20
  a20 := Tryz.isAgg20
  z20 := Tryz.sizeOf20
  v20 := Tryz.zeroValue20
  t37 := Tryz.underlying45
  a37 := Tryz.isAgg45
  z37 := Tryz.sizeOf45
  v37 := Tryz.zeroValue45
  t70 := Tryz.underlying92
  a70 := Tryz.isAgg92
  z70 := Tryz.sizeOf92
  v70 := Tryz.zeroValue92
  t72 := Tryz.underlying94
  a72 := Tryz.isAgg94
  z72 := Tryz.sizeOf94
  v72 := Tryz.zeroValue94
  t164 := Tryz.underlying110
  a164 := Tryz.isAgg110
  z164 := Tryz.sizeOf110
  v164 := Tryz.zeroValue110 }
theorem Tryz.Builder_Extra_165 : Builder.Extra Tryz.prog Tryz.lays165_ren := {
  sizeBuilder := by kernel_rfl
  liesBuilder := by kernel_rfl
  t5 := Tryz.underlying5
  a5 := Tryz.isAgg5
  z5 := Tryz.sizeOf5
  v5 := Tryz.zeroValue5
  infoByte := by kernel_rfl
  cellsByte := by kernel_rfl
  sizeByte := by kernel_rfl
  neB5 := by decide }
theorem Tryz.Builder_Grow_fresh (B b n : Nat) (w : World) (hB : B ≤ b) (hbk : w.heap[b]? = some (.cells #[.pointer none, .slice none 0 0] 94 (0, 0))) (hBw : B ≤ w.heap.size) (hn : n ≤ 281474976710656) :
    Calls Tryz.prog 86 #[.pointer (some ⟨b, 0, none⟩), .int .i64 n] w fun e w' => e = .returned (.tuple #[]) ∧ (Lib.BuilderAt 94 5 B b (.pointer (some ⟨b, 0, none⟩)) [] w' ∧ Below B w w') := Any.Builder_Grow_fresh Tryz.lays165 Tryz.Builder_Extra_165 B b n w hB hbk hBw hn
def Tryz.laysM316_ren : Go.Shelf.Ren := ⟨fun | 316 => 134 | n => n, fun | 9 => 9 | 3 => 3 | 4 => 4 | 37 => 45 | 0 => 0 | 127 => 142 | 5 => 5 | n => n, fun | n => n⟩
theorem Tryz.laysM316 : Go.Proofs.LaysM.n316 Tryz.prog Tryz.laysM316_ren := {
  mixed := by kernel_rfl
  f316 := Tryz.func134.trans (congrArg some (by kernel_rfl))
  t0 := Tryz.underlying0
  a0 := Tryz.isAgg0
  z0 := Tryz.sizeOf0
  v0 := Tryz.zeroValue0
  t3 := Tryz.underlying3
  a3 := Tryz.isAgg3
  z3 := Tryz.sizeOf3
  v3 := Tryz.zeroValue3
  t4 := Tryz.underlying4
  a4 := Tryz.isAgg4
  z4 := Tryz.sizeOf4
  v4 := Tryz.zeroValue4
  t9 := Tryz.underlying9
  a9 := Tryz.isAgg9
  z9 := Tryz.sizeOf9
  v9 := Tryz.zeroValue9
  t37 := Tryz.underlying45
  a37 := Tryz.isAgg45
  z37 := Tryz.sizeOf45
  v37 := Tryz.zeroValue45
  t127 := Tryz.underlying142
  a127 := Tryz.isAgg142
  z127 := Tryz.sizeOf142
  v127 := Tryz.zeroValue142
  t5 := Tryz.underlying5
  a5 := Tryz.isAgg5
  z5 := Tryz.sizeOf5
  v5 := Tryz.zeroValue5
  i0 := by kernel_rfl
  i3 := by kernel_rfl
  i4 := by kernel_rfl
  i5 := by kernel_rfl
  i9 := by kernel_rfl
  i37 := by kernel_rfl
  i127 := by kernel_rfl }
theorem Tryz.stringslite_Clone (s : ByteArray) (w : World) (hlim : s.size ≤ 281474976710656) :
    Calls Tryz.prog 134 #[.string s] w fun e w' => e = .returned (.string s) ∧ Below w.heap.size w w' := Any.stringslite_Clone Tryz.laysM316 s w hlim
end Go.Proofs
namespace Go.Proofs.YtlimcimioeepaaaGreatDoor
open Go.RowKit

theorem clone_any (s : ByteArray) (w : World) (hs : s.size ≤ 1000) :
    Calls Tryz.prog 125 #[.string s] w fun e w' => e = .returned (.string s) ∧ Below w.heap.size w w' := by
  have C := Lib.hid (fun W => Tryz.stringslite_Clone s W (by omega))
  go_enter Tryz.func125, Tryz.ntmps125
  go_wp2_with fail
  refine (C.out _).mono ?_
  rintro e w1 ⟨rfl, b1⟩
  go_wp2
  go_ret
  exact ⟨rfl, b1⟩
end Go.Proofs.YtlimcimioeepaaaGreatDoor
set_option linter.unusedVariables false
namespace Go.Proofs.YtlimcimioeepaaaGreatDoor
open Go.RowKit Go.BigFrame

theorem text_size (s : ByteArray) : (text s).size = s.size - 4 := by unfold text; rw [ByteArray.size_extract]; omega
set_option maxRecDepth 100000 in
set_option maxHeartbeats 1000000 in
theorem open_yes (s : ByteArray) (w : World) (hs : s.size ≤ 1000) (hT : Tab w) (h : sound s) :
    Calls Tryz.prog 94 #[.string s] w fun e w' => e = .returned (.tuple #[.string (text s), .bool true]) ∧ Below w.heap.size w w' := by
  obtain ⟨h4, ht⟩ := h
  have hts := text_size s
  have C := Lib.hid (fun W => sum_any (text s) W (by omega))
  have D := Lib.hid (fun W => spell_any (crc (text s).data.toList) W (crc_lt _))
  have E := Lib.hid (fun W => clone_any (text s) W (by omega))
  have g2 : decide ((s.size : Int) < 4) = false := by rw [decide_eq_false_iff_not]; omega
  have g3 : decide (s.size < 4) = false := by rw [decide_eq_false_iff_not]; omega
  have e1 : ∀ W : World, (Instr.slice 9 (.string s) (some (.int .i64 ((text s).size : Int))) none none).run Tryz.prog W = .ok (.string (tail s)) W := fun W => by
    have h := run_slice_string_hi s W ((text s).size : Int) (by omega) (by omega)
    rwa [show ((text s).size : Int).toNat = s.size - 4 by omega] at h
  have e2 : ∀ W : World, (Instr.slice 9 (.string s) none (some (.int .i64 ((s.size : Int) - 4))) none).run Tryz.prog W = .ok (.string (text s)) W := fun W => by
    have h := run_slice_string_lo s W ((s.size : Int) - 4) (by omega) (by omega)
    rwa [show ((s.size : Int) - 4).toNat = s.size - 4 by omega] at h
  obtain ⟨n, hn⟩ : ∃ n, n = crc (text s).data.toList := ⟨_, rfl⟩
  rw [← hn] at C D ht
  obtain ⟨T, hT2⟩ : ∃ T, T = text s := ⟨_, rfl⟩
  rw [← hT2] at C E e1 e2 hts ⊢
  rw [ht] at e1
  clear hn ht hT2 hts
  go_enter Tryz.func94, Tryz.ntmps94
  go_wp2_with fail
  refine (C.out _ hT).mono ?_
  rintro e w1 ⟨rfl, rfl⟩
  go_wp2_with fail
  refine (D.out _).mono ?_
  rintro e w1 ⟨rfl, b1⟩
  have HB1 := Lib.hid b1
  clear b1
  go_wp2_with fail
  have hvd := conv_tailN w1 n 90
  go_quiet (fail)
  go_wp2_with fail
  refine (E.out _).mono ?_
  rintro e w2 ⟨rfl, b2⟩
  have HB2 := Lib.hid (HB1.out.trans (((below_drewN (below_alloc _) _).trans (b2.mono (by simp))).mono HB1.out.size))
  clear b2
  go_wp2
  go_ret2
  exact ⟨rfl, HB2.out⟩
set_option maxRecDepth 100000 in
set_option maxHeartbeats 1000000 in
theorem open_other (s : ByteArray) (w : World) (hs : s.size ≤ 1000) (hT : Tab w) (h4 : 4 ≤ s.size) (h : ¬ sound s) :
    Calls Tryz.prog 94 #[.string s] w fun e w' => e = .returned (.tuple #[.string ⟨#[]⟩, .bool false]) ∧ Below w.heap.size w w' := by
  have ht : tail s ≠ ⟨(tl (crc (text s).data.toList)).toArray⟩ := fun e => h ⟨h4, e⟩
  clear h
  have hts := text_size s
  have C := Lib.hid (fun W => sum_any (text s) W (by omega))
  have D := Lib.hid (fun W => spell_any (crc (text s).data.toList) W (crc_lt _))
  have g2 : decide ((s.size : Int) < 4) = false := by rw [decide_eq_false_iff_not]; omega
  have g3 : decide (s.size < 4) = false := by rw [decide_eq_false_iff_not]; omega
  have e1 : ∀ W : World, (Instr.slice 9 (.string s) (some (.int .i64 ((text s).size : Int))) none none).run Tryz.prog W = .ok (.string (tail s)) W := fun W => by
    have h := run_slice_string_hi s W ((text s).size : Int) (by omega) (by omega)
    rwa [show ((text s).size : Int).toNat = s.size - 4 by omega] at h
  have e2 : ∀ W : World, (Instr.slice 9 (.string s) none (some (.int .i64 ((s.size : Int) - 4))) none).run Tryz.prog W = .ok (.string (text s)) W := fun W => by
    have h := run_slice_string_lo s W ((s.size : Int) - 4) (by omega) (by omega)
    rwa [show ((s.size : Int) - 4).toNat = s.size - 4 by omega] at h
  obtain ⟨n, hn⟩ : ∃ n, n = crc (text s).data.toList := ⟨_, rfl⟩
  rw [← hn] at C D ht
  obtain ⟨T, hT2⟩ : ∃ T, T = text s := ⟨_, rfl⟩
  obtain ⟨U, hU⟩ : ∃ U, U = tail s := ⟨_, rfl⟩
  rw [← hT2] at C e1 e2 hts
  rw [← hU] at e1 ht
  have hne := str_ne ht
  have hne2 := str_beq ht
  have hne3 : (U.toList == tl n) = false := by rw [← hne2, ByteArray.toList_eq ⟨(tl n).toArray⟩]
  clear hn ht hT2 hU hts
  go_enter Tryz.func94, Tryz.ntmps94
  go_wp2_with fail
  refine (C.out _ hT).mono ?_
  rintro e w1 ⟨rfl, rfl⟩
  go_wp2_with fail
  refine (D.out _).mono ?_
  rintro e w1 ⟨rfl, b1⟩
  have HB1 := Lib.hid b1
  clear b1
  go_wp2_with fail
  have hvd := conv_tailN w1 n 90
  go_quiet (fail)
  go_wp2
  go_ret2
  exact ⟨rfl, HB1.out.trans ((below_drewN (below_alloc _) _).mono HB1.out.size)⟩
theorem open_no (s : ByteArray) (w : World) (hs : s.size ≤ 1000) (hT : Tab w) (h : ¬ sound s) :
    Calls Tryz.prog 94 #[.string s] w fun e w' => e = .returned (.tuple #[.string ⟨#[]⟩, .bool false]) ∧ Below w.heap.size w w' := by
  by_cases h4 : 4 ≤ s.size
  · exact open_other s w hs hT h4 h
  · have g2 : decide ((s.size : Int) < 4) = true := by rw [decide_eq_true_iff]; omega
    have g3 : decide (s.size < 4) = true := by rw [decide_eq_true_iff]; omega
    clear h hT
    go_enter Tryz.func94, Tryz.ntmps94
    go_wp2
    go_ret2
    exact ⟨rfl, Below.refl _ _⟩
end Go.Proofs.YtlimcimioeepaaaGreatDoor
set_option linter.unusedVariables false
namespace Go.Proofs.YtlimcimioeepaaaGreatDoor
open Go.RowKit

theorem bytes_ext {S T : ByteArray} (h : S.data.toList = T.data.toList) : S = T := ByteArray.ext (Array.toList_inj.mp h)
theorem text_list (s : ByteArray) : (text s).data.toList = s.data.toList.take (s.size - 4) := by
  unfold text
  rw [Lib.extract_data]
  simp
theorem tail_list (s : ByteArray) : (tail s).data.toList = s.data.toList.drop (s.size - 4) := by
  unfold tail
  rw [Lib.extract_data, List.take_of_length_le]
  rw [List.length_drop, show s.data.toList.length = s.size from rfl]
  omega
theorem text_seal (s : ByteArray) : text (sealS s) = s := by
  apply bytes_ext
  rw [text_list, sealS_list, sealS_size]
  unfold sealL
  rw [show s.size + 4 - 4 = s.data.toList.length by rw [show s.data.toList.length = s.size from rfl]; omega, List.take_left]
theorem tail_seal (s : ByteArray) : tail (sealS s) = ⟨(tl (crc s.data.toList)).toArray⟩ := by
  apply bytes_ext
  rw [tail_list, sealS_list, sealS_size]
  unfold sealL
  rw [show s.size + 4 - 4 = s.data.toList.length by rw [show s.data.toList.length = s.size from rfl]; omega, List.drop_left]
theorem sound_seal (s : ByteArray) : sound (sealS s) := ⟨by rw [sealS_size]; omega, by rw [tail_seal, text_seal]⟩
theorem seal_text {s : ByteArray} (h : sound s) : sealS (text s) = s := by
  obtain ⟨h4, ht⟩ := h
  apply bytes_ext
  have e : (sealS (text s)) = text s ++ tail s := by unfold sealS; rw [← ht]
  rw [e, ByteArray.data_append, Array.toList_append, text_list, tail_list, List.take_append_drop]
theorem seal_inj {s t : ByteArray} (h : sealS s = sealS t) : s = t := by rw [← text_seal s, h, text_seal]
theorem open_seal (s : ByteArray) (w : World) (hs : s.size ≤ 500) (hT : Tab w) :
    Calls Tryz.prog 94 #[.string (sealS s)] w fun e w' => e = .returned (.tuple #[.string s, .bool true]) ∧ Below w.heap.size w w' := by
  have h := open_yes (sealS s) w (by rw [sealS_size]; omega) hT (sound_seal s)
  rwa [text_seal] at h
end Go.Proofs.YtlimcimioeepaaaGreatDoor
set_option linter.unusedVariables false
namespace Go.Proofs.YtlimcimioeepaaaGreatDoor
open Go.RowKit

/-- k bytes from place a on, each exclusive-ored with its own. -/
def turnB (l : List UInt8) (a : Nat) (d : Nat → UInt8) : Nat → List UInt8
  | 0 => l
  | k + 1 => (turnB l a d k).set (a + k) ((turnB l a d k).getD (a + k) 0 ^^^ d k)
theorem turnB_length (l : List UInt8) (a : Nat) (d : Nat → UInt8) : ∀ k, (turnB l a d k).length = l.length
  | 0 => rfl
  | k + 1 => by
    show ((turnB l a d k).set _ _).length = _
    rw [List.length_set, turnB_length l a d k]
theorem turnB_at (l : List UInt8) (a : Nat) (d : Nat → UInt8) : ∀ (k i : Nat), a + k ≤ l.length → i < l.length →
    (turnB l a d k)[i]? = some (if a ≤ i ∧ i < a + k then l.getD i 0 ^^^ d (i - a) else l.getD i 0)
  | 0, i, _, hi => by
    rw [if_neg (by omega)]
    show l[i]? = _
    rw [List.getD_eq_getElem?_getD, List.getElem?_eq_getElem hi]
    rfl
  | k + 1, i, hk, hi => by
    have hl := turnB_length l a d k
    show ((turnB l a d k).set (a + k) ((turnB l a d k).getD (a + k) 0 ^^^ d k))[i]? = _
    by_cases h : i = a + k
    · subst h
      rw [List.getElem?_set_self (by omega), List.getD_eq_getElem?_getD, turnB_at l a d k (a + k) (by omega) hi, if_neg (by omega), if_pos (by omega), show a + k - a = k by omega]
      rfl
    · rw [List.getElem?_set_ne (fun e => h e.symm), turnB_at l a d k i (by omega) hi]
      by_cases h1 : a ≤ i ∧ i < a + k
      · rw [if_pos h1, if_pos (by omega)]
      · rw [if_neg h1, if_neg (by omega)]
theorem xor_back (x d : UInt8) : x.toNat ^^^ (x ^^^ d).toNat = d.toNat := by
  rw [UInt8.toNat_xor, ← Nat.xor_assoc, Nat.xor_self, Nat.zero_xor]
/-- What the two differ in. -/
theorem turnB_diff (l : List UInt8) (a k : Nat) (d : Nat → UInt8) (h : a + k ≤ l.length) :
    List.zipWith (fun u v : UInt8 => u.toNat ^^^ v.toNat) l (turnB l a d k) = List.replicate a 0 ++ ((List.range k).map (fun i => (d i).toNat) ++ List.replicate (l.length - a - k) 0) := by
  apply List.ext_getElem?
  intro i
  have hl := turnB_length l a d k
  rw [List.getElem?_zipWith]
  rcases Nat.lt_or_ge i l.length with hi | hi
  · rw [turnB_at l a d k i h hi, List.getElem?_eq_getElem hi]
    have hg : l.getD i 0 = l[i] := by rw [List.getD_eq_getElem?_getD, List.getElem?_eq_getElem hi]; rfl
    rw [hg]
    rcases Nat.lt_or_ge i a with h1 | h1
    · rw [if_neg (by omega), List.getElem?_append_left (by rw [List.length_replicate]; exact h1), List.getElem?_replicate, if_pos h1]
      simp
    · rw [List.getElem?_append_right (by rw [List.length_replicate]; exact h1), List.length_replicate]
      rcases Nat.lt_or_ge i (a + k) with h2 | h2
      · rw [if_pos (by omega), List.getElem?_append_left (by rw [List.length_map, List.length_range]; omega), List.getElem?_map, List.getElem?_range (by omega)]
        simp only [Option.map_some]
        rw [xor_back]
      · rw [if_neg (by omega), List.getElem?_append_right (by rw [List.length_map, List.length_range]; omega), List.length_map, List.length_range, List.getElem?_replicate, if_pos (by omega)]
        simp
  · rw [List.getElem?_eq_none hi, List.getElem?_eq_none (l := turnB l a d k) (by omega), List.getElem?_eq_none (by rw [List.length_append, List.length_append, List.length_replicate, List.length_replicate, List.length_map, List.length_range]; omega)]

/-- A number's four bytes. -/
def quad (n : Nat) : Nat → UInt8
  | 0 => UInt8.ofNat (n % 256)
  | 1 => UInt8.ofNat (n / 256 % 256)
  | 2 => UInt8.ofNat (n / 65536 % 256)
  | _ => UInt8.ofNat (n / 16777216 % 256)
theorem ofNat_mod (n : Nat) : (UInt8.ofNat (n % 256)).toNat = n % 256 := by
  rw [UInt8.toNat_ofNat']
  omega
theorem quad_list (n : Nat) : (List.range 4).map (fun i => (quad n i).toNat) = [n % 256, n / 256 % 256, n / 65536 % 256, n / 16777216 % 256] := by
  show [(quad n 0).toNat, (quad n 1).toNat, (quad n 2).toNat, (quad n 3).toNat] = _
  unfold quad
  simp only [ofNat_mod]
theorem crc_iff (a b : List UInt8) : crc a = crc b ↔ run 4294967295 a = run 4294967295 b := by
  unfold crc
  constructor
  · intro h
    have h2 := congrArg (· ^^^ 4294967295) h
    simpa [xor_xor] using h2
  · intro h
    rw [h]
theorem crc_turned (l : List UInt8) (a n : Nat) (hn : n < 4294967296) (h : a + 4 ≤ l.length) : crc (turnB l a (quad n) 4) = crc l ↔ n = 0 := by
  rw [eq_comm, crc_iff]
  refine turned 4294967295 a (l.length - a - 4) n l (turnB l a (quad n) 4) hn (turnB_length l a (quad n) 4).symm ?_
  rw [turnB_diff l a 4 (quad n) h, quad_list]
/-- One byte that is another one is told. -/
theorem crc_one (l : List UInt8) (a : Nat) (y : UInt8) (hy : y ≠ 0) (h : a < l.length) : crc (turnB l a (fun _ => y) 1) ≠ crc l := by
  intro e
  have e1 := ((crc_iff _ _).mp e).symm
  have hd := run_diff l (turnB l a (fun _ => y) 1) 4294967295 4294967295 (turnB_length l a _ 1).symm
  rw [e1, Nat.xor_self, Nat.xor_self, turnB_diff l a 1 _ (by omega), drun_append, drun_ahead, drun_append] at hd
  have hlt : drun 0 ((List.range 1).map fun _ => y.toNat) < 4294967296 := by
    show up 0 y.toNat < _
    exact up_lt (by omega) y.toNat_lt
  have hz := (drun_zeros _ _ hlt).mp hd.symm
  have hz1 : up 0 y.toNat = 0 := hz
  unfold up at hz1
  rw [Nat.zero_xor] at hz1
  have hb := y.toNat_lt
  have hy0 := st8_zero (by omega) hz1
  apply hy
  apply UInt8.toNat_inj.mp
  rw [hy0]
  rfl
theorem tl_inj {n m : Nat} (hn : n < 4294967296) (hm : m < 4294967296) (h : tl n = tl m) : n = m := by
  unfold tl at h
  simp only [List.cons.injEq, and_true] at h
  obtain ⟨h0, h1, h2, h3⟩ := h
  have k0 := congrArg UInt8.toNat h0
  have k1 := congrArg UInt8.toNat h1
  have k2 := congrArg UInt8.toNat h2
  have k3 := congrArg UInt8.toNat h3
  simp only [UInt8.toNat_ofNat'] at k0 k1 k2 k3
  omega
theorem sound_list (l : List UInt8) : sound ⟨l.toArray⟩ ↔ 4 ≤ l.length ∧ l.drop (l.length - 4) = tl (crc (l.take (l.length - 4))) := by
  have hs : (⟨l.toArray⟩ : ByteArray).size = l.length := by simp [ByteArray.size]
  unfold sound
  rw [hs]
  refine and_congr_right fun h4 => ?_
  constructor
  · intro h
    have h1 := congrArg (fun s : ByteArray => s.data.toList) h
    simp only [tail_list, text_list, hs] at h1
    exact h1
  · intro h
    apply bytes_ext
    rw [tail_list, text_list, hs]
    exact h
/-- One byte of what is sealed. -/
theorem one_unsound (s : ByteArray) (a : Nat) (y : UInt8) (hy : y ≠ 0) (h : a < s.size + 4) : ¬ sound ⟨(turnB (sealL s.data.toList) a (fun _ => y) 1).toArray⟩ := by
  rw [sound_list, turnB_length]
  rintro ⟨_, hd⟩
  have hsz : s.data.toList.length = s.size := rfl
  obtain ⟨l, hl⟩ : ∃ l, l = s.data.toList := ⟨_, rfl⟩
  rw [← hl] at hd hsz
  clear hl
  have hlen : (sealL l).length - 4 = l.length := by unfold sealL; rw [List.length_append, tl_length]; omega
  rw [hlen] at hd
  rcases Nat.lt_or_ge a l.length with h1 | h1
  · have e : turnB (sealL l) a (fun _ => y) 1 = turnB l a (fun _ => y) 1 ++ tl (crc l) := by
      show (sealL l).set (a + 0) ((sealL l).getD (a + 0) 0 ^^^ y) = l.set (a + 0) (l.getD (a + 0) 0 ^^^ y) ++ tl (crc l)
      unfold sealL
      rw [List.set_append, if_pos (by omega), List.getD_eq_getElem?_getD, List.getElem?_append_left (by omega), List.getD_eq_getElem?_getD]
    have hl2 := turnB_length l a (fun _ => y) 1
    rw [e, ← hl2, List.drop_left, List.take_left] at hd
    exact crc_one l a y hy h1 (tl_inj (crc_lt _) (crc_lt _) hd).symm
  · have e : turnB (sealL l) a (fun _ => y) 1 = l ++ (tl (crc l)).set (a - l.length) ((tl (crc l)).getD (a - l.length) 0 ^^^ y) := by
      show (sealL l).set (a + 0) ((sealL l).getD (a + 0) 0 ^^^ y) = _
      unfold sealL
      rw [List.set_append, if_neg (by omega), Nat.add_zero, List.getD_eq_getElem?_getD, List.getElem?_append_right h1, List.getD_eq_getElem?_getD]
    rw [e, List.drop_left, List.take_left] at hd
    have hk : a - l.length < (tl (crc l)).length := by rw [tl_length]; omega
    have h2 := congrArg (fun r : List UInt8 => r[a - l.length]?) hd
    simp only [List.getElem?_set_self hk] at h2
    rw [List.getD_eq_getElem?_getD, List.getElem?_eq_getElem hk] at h2
    have h3 : (tl (crc l))[a - l.length] ^^^ y = (tl (crc l))[a - l.length] := by simpa using h2
    obtain ⟨x, hx⟩ : ∃ x, x = (tl (crc l))[a - l.length] := ⟨_, rfl⟩
    rw [← hx] at h3
    have h4 := xor_back x y
    rw [h3, Nat.xor_self] at h4
    apply hy
    apply UInt8.toNat_inj.mp
    rw [← h4]
    rfl
end Go.Proofs.YtlimcimioeepaaaGreatDoor
set_option linter.unusedVariables false
namespace Go.Proofs.YtlimcimioeepaaaGreatDoor
open Go.RowKit

/-- Block g holds these bytes, at its head; its last cells may be more. -/
def Row8 (g : Nat) (B : List UInt8) (w : World) : Prop :=
  ∃ cur : Array Value, w.heap[g]? = some (.cells cur 5 (cur.size, cur.size + 1)) ∧ B.length ≤ cur.size ∧ ∀ (j : Nat) (hj : j < B.length), cur[j]? = some (.int .u8 (B[j].toNat : Int))
theorem to_row8 (s : ByteArray) (w : World) : ∃ (c : Nat) (W1 : World), (convert 9 45 (.string s)).run Tryz.prog w = .ok (.slice (some ⟨w.heap.size, 0, none⟩) s.size c) W1 ∧ s.size ≤ c ∧
    Row8 w.heap.size s.data.toList W1 ∧ Below w.heap.size w W1 := by
  refine ⟨grownCap w s.size 0 5, _, run_bytes_of_string w 9 45 5 s Tryz.underlying9 Tryz.underlying45 Tryz.underlying5, grownCap_ge _ _ _ _, ⟨bytesRow s (grownCap w s.size 0 5), heap_alloc_new w.drew _, ?_, ?_⟩, ?_⟩
  · unfold bytesRow
    rw [Array.size_append, Array.size_map]
    show s.data.size ≤ _
    omega
  · intro j hj
    unfold bytesRow
    have hj' : j < s.data.size := by simpa using hj
    rw [Array.getElem?_append_left (by simpa using hj'), Array.getElem?_map, Array.getElem?_eq_getElem hj']
    rfl
  · exact (Below.refl _ _).drew.alloc (Nat.le_refl _) _
theorem Row8.cell {g : Nat} {B : List UInt8} {w : World} (h : Row8 g B w) {j : Nat} (hj : j < B.length) : w.cell? ⟨g, j, none⟩ = some (.int .u8 ((B.getD j 0).toNat : Int)) := by
  obtain ⟨cur, hg, _, hc⟩ := h
  rw [cell_of_row _ _ _ _ _ _ hg, hc j hj, List.getD_eq_getElem?_getD, List.getElem?_eq_getElem hj]
  rfl
theorem Row8.frozen {g : Nat} {B : List UInt8} {w : World} (h : Row8 g B w) {j : Nat} (hj : j < B.length) : w.frozen? ⟨g, j, none⟩ = false := by
  obtain ⟨cur, hg, hs, hc⟩ := h
  unfold World.frozen?
  simp [hg]
  omega
theorem Row8.set {g : Nat} {B : List UInt8} {w : World} (h : Row8 g B w) (j : Nat) (hj : j < B.length) (b : UInt8) : Row8 g (B.set j b) (w.setCell ⟨g, j, none⟩ (.int .u8 (b.toNat : Int))) := by
  obtain ⟨cur, hg, hs, hc⟩ := h
  refine ⟨cur.setIfInBounds j (.int .u8 (b.toNat : Int)), ?_, by rw [List.length_set, Array.size_setIfInBounds]; exact hs, fun i hi => ?_⟩
  · rw [Array.size_setIfInBounds]
    exact Lib.heap_setCell_same hg _
  · rw [List.length_set] at hi
    by_cases e : j = i
    · subst e
      rw [Array.getElem?_setIfInBounds_self_of_lt (by omega), List.getElem_set_self]
    · rw [Array.getElem?_setIfInBounds_ne e, hc i hi, List.getElem_set_ne e]
theorem Row8.back {g : Nat} {B : List UInt8} {w : World} (h : Row8 g B w) (n c : Nat) (hn : B.length = n) :
    (convert 45 9 (.slice (some ⟨g, 0, none⟩) n c)).run Tryz.prog w = .ok (.string ⟨B.toArray⟩) w := by
  subst hn
  exact run_convert_bytes_back w 45 9 5 ⟨g, 0, none⟩ c B Tryz.underlying45 Tryz.underlying5 Tryz.underlying9 (fun j hj => by
    have e : (⟨g, 0, none⟩ : Addr).add j = ⟨g, j, none⟩ := by unfold Addr.add; by_cases h0 : j = 0 <;> simp [h0]
    rw [e, h.cell hj, List.getD_eq_getElem?_getD, List.getElem?_eq_getElem hj]
    rfl)
end Go.Proofs.YtlimcimioeepaaaGreatDoor
