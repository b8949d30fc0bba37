/- The walk of CodecGets in the seat YtlimcimioeepaaaGreatDoor, given what the document's own Why answers: at any input it answers true. No statement is proved here. -/
import Derived.Test.YtlimcimioeepaaaGreatDoorZOnlyWalk
import Derived.Test.YtlimcimioeepaaaGreatDoorZWhereWalk
import Derived.Test.YtlimcimioeepaaaGreatDoorZG12
import Derived.Laws.StructEq
set_option linter.unusedVariables false
namespace Go.Proofs.YtlimcimioeepaaaGreatDoor
open Go.RowKit

/-- A task that came out, put in a box. -/
theorem BxO.start2 {w w1 : World} {s : Sh} {T : Task} (hI : IsT w1 w1.heap.size s T) (k1 : s.ne ≤ s.ec) (k2 : s.nf ≤ s.fc) (hf : FewT T) (hB : Below w.heap.size w w1) (hT : CTab w1) :
    BxO w w1.heap.size s T (w1.alloc (.cells #[.int .i64 T.period, .int .i64 T.deadline, .slice s.P s.np s.pc, .slice s.E s.ne s.ec, .slice s.F s.nf s.fc, .slice s.R s.nr s.rc] 27)) := by
  have hb : Below w1.heap.size w1 (w1.alloc (.cells #[.int .i64 T.period, .int .i64 T.deadline, .slice s.P s.np s.pc, .slice s.E s.ne s.ec, .slice s.F s.nf s.fc, .slice s.R s.nr s.rc] 27)) := below_alloc _
  refine ⟨hB.trans (hb.mono hB.size), ?_, ⟨(hI.below hb).more hb.size, hf, (hT.via hb).two, k1, k2⟩, hT.via hb⟩
  exact ⟨by simp, by simp, by simp, by simp, by simp, by simp⟩
/-- A span in its box. -/
structure SpB (g : Nat) (p q : Int) (w : World) : Prop where
  row : w.heap[g]? = some (.cells #[.int .i64 p, .int .i64 q] 37 (0, 0))
theorem SpB.next {g : Nat} {p q : Int} {w w' : World} (h : SpB g p q w) (hb : Below w.heap.size w w') : SpB g p q w' := ⟨by rw [hb.block _ (Array.getElem?_eq_some_iff.mp h.row).1]; exact h.row⟩
theorem SpB.c {g : Nat} {p q : Int} {w : World} (h : SpB g p q w) : w.cell? ⟨g, 0, none⟩ = some (.int .i64 p) ∧ w.cell? ⟨g, 1, none⟩ = some (.int .i64 q) := by
  have s0 := cell_of_row w g 0 _ _ _ h.row
  have s1 := cell_of_row w g 1 _ _ _ h.row
  simp at s0 s1
  exact ⟨s0, s1⟩
theorem SpB.start {w : World} (p q : Int) : SpB w.heap.size p q (w.alloc (.cells #[.int .i64 p, .int .i64 q] 37)) := ⟨heap_alloc_new w _⟩
set_option maxRecDepth 100000 in
set_option maxHeartbeats 4000000 in
theorem gets_long (w : World) (s : ByteArray) (hs : s.size ≤ 9223372036854775807) (h : 700 < s.size) (hT : CTab w) :
    Calls Tryz.prog 4 #[.string s] w fun e w' => e = .returned (.bool true) ∧ Below w.heap.size w w' := by
  have HT := Lib.hid hT
  clear hT
  have d5 : decide ((700 : Int) < (s.size : Int)) = true := by rw [decide_eq_true_eq]; omega
  go_enter Tryz.func4, Tryz.ntmps4
  go_wp2_with fail
  refine (awake_any _ HT.out).mono ?_
  rintro e w1 ⟨rfl, b1⟩
  have HT1 := Lib.hid (HT.out.via b1)
  have HB1 := Lib.hid b1
  clear b1
  go_wp2_with fail
  refine (awake_any _ HT1.out).mono ?_
  rintro e w2 ⟨rfl, b2⟩
  have HB2 := Lib.hid (HB1.out.trans (b2.mono HB1.out.size))
  clear b2
  go_wp2_with fail
  go_ret
  exact ⟨rfl, HB2.out⟩
set_option maxRecDepth 100000 in
set_option maxHeartbeats 16000000 in
theorem gets_short (w : World) (s : ByteArray) (h : s.size ≤ 700) (hT : CTab w) (hW : ∀ W, Calls Tryz.prog 16 #[.string s] W (GotWhy s W)) :
    Calls Tryz.prog 4 #[.string s] w fun e w' => e = .returned (.bool true) ∧ Below w.heap.size w w' := by
  have HT := Lib.hid hT
  have C := Lib.hid (fun W (k : CTab W) => decode_any s W (by omega) k)
  have D : ∀ W, Calls Tryz.prog 16 #[.string s] W fun e w' => ∃ sh : Sh, e = .returned (.tuple #[sh.arg (decT s).period (decT s).deadline, .agg #[.int .i64 (fromO (flaw s)), .int .i64 (toO (flaw s))], .int .i64 (enoO (flaw s))]) ∧ IsT w' w'.heap.size sh (decT s) ∧ sh.ne ≤ sh.ec ∧ sh.nf ≤ sh.fc ∧ Below W.heap.size W w' := fun W => hW W
  have Y := Lib.hid (fun W (k : CTab W) => why_any s W (by omega) k)
  have FEW := Lib.hid (decT_few s)
  have F := (flaw_told s).2.2.2.1
  obtain ⟨p, hp⟩ : ∃ p, p = fromO (flaw s) := ⟨_, rfl⟩
  obtain ⟨q, hq⟩ : ∃ q, q = toO (flaw s) := ⟨_, rfl⟩
  obtain ⟨n, hn⟩ : ∃ n, n = enoO (flaw s) := ⟨_, rfl⟩
  obtain ⟨b, hb⟩ : ∃ b, b = isO (flaw s) := ⟨_, rfl⟩
  obtain ⟨T, hD⟩ : ∃ T, T = decT s := ⟨_, rfl⟩
  rw [← hD, ← hn] at C
  rw [← hp, ← hq, ← hn, ← hD] at D
  rw [← hp, ← hq, ← hn, ← hb] at Y
  rw [← hD] at FEW
  rw [← hb, ← hn] at F
  have HD := Lib.hid D
  have E1 := Lib.hid (fun s1 s2 W (k1 : IsD W s1 T) (k2 : IsD W s2 T) => same_any5 _ _ _ _ W k1.few k2.few k1.t k2.t)
  have E2 := Lib.hid (fun s1 s2 W (k1 : IsD W s1 T) (k2 : IsD W s2 T) => rsame_d k1 k2)
  rw [decide_eq_true (rfl : T = T)] at E1 E2
  clear hT hW hp hq hn hb hD
  have HF := Lib.hid F
  clear F D
  have d5 : decide ((700 : Int) < (s.size : Int)) = false := by rw [decide_eq_false_iff_not]; omega
  go_enter Tryz.func4, Tryz.ntmps4
  go_wp2_with fail
  refine (awake_any _ HT.out).mono ?_
  rintro e w1 ⟨rfl, b1⟩
  have HT1 := Lib.hid (HT.out.via b1)
  have HB1 := Lib.hid b1
  clear b1
  go_wp2_with fail
  refine (C.out _ HT1.out).mono ?_
  rintro e w2 ⟨sx, rfl, hO, b2⟩
  have B3 := Lib.hid (BxO.start hO FEW.out (HB1.out.trans (b2.mono HB1.out.size)) (HT1.out.via b2))
  obtain ⟨w3, hw3⟩ : ∃ w3, w3 = w2.alloc (.cells #[.int .i64 T.period, .int .i64 T.deadline, .slice sx.P sx.np sx.pc, .slice sx.E sx.ne sx.ec, .slice sx.F sx.nf sx.fc, .slice sx.R sx.nr sx.rc] 27) := ⟨_, rfl⟩
  rw [← hw3] at B3
  clear b2 hO HT HT1 HB1 C
  go_wp2_with fail
  rw [← hw3]
  clear hw3
  refine (HD.out _).mono ?_
  rintro e w4 ⟨sh, rfl, hI, l1, l2, b4⟩
  have B4 := Lib.hid (B3.out.next b4)
  have X5 := Lib.hid (BxO.start2 hI l1 l2 FEW.out B4.out.bel B4.out.tab)
  obtain ⟨w5, hw5⟩ : ∃ w5, w5 = w4.alloc (.cells #[.int .i64 T.period, .int .i64 T.deadline, .slice sh.P sh.np sh.pc, .slice sh.E sh.ne sh.ec, .slice sh.F sh.nf sh.fc, .slice sh.R sh.nr sh.rc] 27) := ⟨_, rfl⟩
  rw [← hw5] at X5
  have hb5 : Below w4.heap.size w4 w5 := by rw [hw5]; exact below_alloc _
  have hz5 : w5.heap.size = w4.heap.size + 1 := by rw [hw5]; simp
  have B5 := Lib.hid (B4.out.next hb5)
  have HZ5 := Lib.hid hz5
  obtain ⟨w6, hw6⟩ : ∃ w6, w6 = w5.alloc (.cells #[.int .i64 p, .int .i64 q] 37) := ⟨_, rfl⟩
  have hb6 : Below w5.heap.size w5 w6 := by rw [hw6]; exact below_alloc _
  have B6 := Lib.hid (B5.out.next hb6)
  have X6 := Lib.hid (X5.out.next hb6)
  have S6 : Hid (SpB (w4.heap.size + 1) p q w6) := Lib.hid (by rw [hw6, ← hz5]; exact SpB.start p q)
  clear b4 hI l1 l2 B3 B4 HD hb5 hz5 HZ5 hb6 X5 B5
  go_wp2_with fail
  rw [← hw5, ← hw6]
  clear hw5 hw6
  refine (Y.out _ B6.out.tab).mono ?_
  rintro e w7 ⟨rfl, b7⟩
  have B7 := Lib.hid (B6.out.next b7)
  have X7 := Lib.hid (X6.out.next b7)
  have S7 := Lib.hid (S6.out.next b7)
  obtain ⟨w8, hw8⟩ : ∃ w8, w8 = w7.alloc (.cells #[.int .i64 p, .int .i64 q] 37) := ⟨_, rfl⟩
  have hb8 : Below w7.heap.size w7 w8 := by rw [hw8]; exact below_alloc _
  have B8 := Lib.hid (B7.out.next hb8)
  have X8 := Lib.hid (X7.out.next hb8)
  have S8 := Lib.hid (S7.out.next hb8)
  have P8 : Hid (SpB w7.heap.size p q w8) := Lib.hid (by rw [hw8]; exact SpB.start p q)
  obtain ⟨c1, c2, c3, c4, c5, c6⟩ := B7.out.c
  obtain ⟨k1, k2, k3, k4, k5, k6⟩ := X7.out.c
  have hl1 : w2.heap.size < w7.heap.size := lt_of_cell c1
  have hl2 : w4.heap.size < w7.heap.size := lt_of_cell k1
  clear b7 B6 X6 S6 Y B7 X7 S7 hb8
  go_wp2_with fail
  rw [← hw8]
  clear hw8
  refine (E1.out _ _ _ B8.out.d X8.out.d).mono ?_
  rintro e w9 ⟨rfl, b9⟩
  have B9 := Lib.hid (B8.out.next b9)
  have X9 := Lib.hid (X8.out.next b9)
  have S9 := Lib.hid (S8.out.next b9)
  have P9 := Lib.hid (P8.out.next b9)
  clear b9 B8 X8 S8 P8 c1 c2 c3 c4 c5 c6 k1 k2 k3 k4 k5 k6
  obtain ⟨c1, c2, c3, c4, c5, c6⟩ := B9.out.c
  obtain ⟨k1, k2, k3, k4, k5, k6⟩ := X9.out.c
  go_wp2_with fail
  refine (E2.out _ _ _ B9.out.d X9.out.d).mono ?_
  rintro e wx ⟨rfl, bx⟩
  have BX := Lib.hid (B9.out.next bx)
  obtain ⟨s0, s1⟩ := (S9.out.next bx).c
  obtain ⟨p0, p1⟩ := (P9.out.next bx).c
  clear bx B9 X9 S9 P9 c1 c2 c3 c4 c5 c6 k1 k2 k3 k4 k5 k6 E1 E2
  cases b with
  | true =>
    have f6 : (n != 0) = true := HF.out.symm
    clear HF
    go_wp2
    go_ret
    exact ⟨rfl, BX.out.bel⟩
  | false =>
    have f6 : (n != 0) = false := HF.out.symm
    clear HF
    go_wp2
    go_ret
    exact ⟨rfl, BX.out.bel⟩
end Go.Proofs.YtlimcimioeepaaaGreatDoor
