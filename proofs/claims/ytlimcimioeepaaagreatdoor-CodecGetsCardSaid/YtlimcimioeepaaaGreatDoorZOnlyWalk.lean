/- The walk of CodecOnly in the seat YtlimcimioeepaaaGreatDoor: at any input it answers true. No statement is proved here. -/
import Derived.Test.YtlimcimioeepaaaGreatDoorZG23
import Derived.Test.YtlimcimioeepaaaGreatDoorZG24
set_option linter.unusedVariables false
namespace Go.Proofs.YtlimcimioeepaaaGreatDoor
open Go.RowKit

theorem lt_of_cell {w : World} {b off : Nat} {v : Value} (h : w.cell? ⟨b, off, none⟩ = some v) : b < w.heap.size := by
  apply Decidable.byContradiction
  intro k
  simp [World.cell?, Array.getElem?_eq_none (Nat.le_of_not_lt k)] at h
/-- A decoded task in its box. -/
structure BxO (w : World) (g : Nat) (s : Sh) (T : Task) (w' : World) : Prop where
  bel : Below w.heap.size w w'
  c : CellsD w' s T.period T.deadline g
  d : IsD w' s T
  tab : CTab w'
theorem BxO.next {w w1 w2 : World} {g : Nat} {s : Sh} {T : Task} (h : BxO w g s T w1) (hb : Below w1.heap.size w1 w2) : BxO w g s T w2 := ⟨h.bel.trans (hb.mono h.bel.size), h.c.next hb, h.d.below hb, h.tab.via hb⟩
theorem decT_few (s : ByteArray) : FewT (decT s) := by
  unfold decT
  cases flaw s with
  | none => exact few_R _
  | some f => exact zero_few
/-- What is decoded, put in a box. -/
theorem BxO.start {w w1 : World} {b : Nat} {s : Sh} {T : Task} (hO : OwnD b T (s.arg T.period T.deadline) w1) (hf : FewT T) (hB : Below w.heap.size w w1) (hT : CTab w1) :
    BxO w w1.heap.size s T (w1.alloc (.cells #[.int .i64 T.period, .int .i64 T.deadline, .slice s.P s.np s.pc, .slice s.E s.ne s.ec, .slice s.F s.nf s.fc, .slice s.R s.nr s.rc] 27)) := by
  obtain ⟨i, k1, k2⟩ := hO.at
  have hb : Below w1.heap.size w1 (w1.alloc (.cells #[.int .i64 T.period, .int .i64 T.deadline, .slice s.P s.np s.pc, .slice s.E s.ne s.ec, .slice s.F s.nf s.fc, .slice s.R s.nr s.rc] 27)) := below_alloc _
  refine ⟨hB.trans (hb.mono hB.size), ?_, ⟨(i.below hb).more hb.size, hf, (hT.via hb).two, k1, k2⟩, hT.via hb⟩
  exact ⟨by simp, by simp, by simp, by simp, by simp, by simp⟩
set_option maxRecDepth 100000 in
set_option maxHeartbeats 4000000 in
theorem only_long (w : World) (s : ByteArray) (hs : s.size ≤ 9223372036854775807) (h : 700 < s.size) (hT : CTab w) :
    Calls Tryz.prog 6 #[.string s] w fun e w' => e = .returned (.bool true) ∧ Below w.heap.size w w' := by
  have HT := Lib.hid hT
  clear hT
  have d5 : decide ((700 : Int) < (s.size : Int)) = true := by rw [decide_eq_true_eq]; omega
  go_enter Tryz.func6, Tryz.ntmps6
  go_wp2_with fail
  refine (awake_any _ HT.out).mono ?_
  rintro e w1 ⟨rfl, b1⟩
  have HT1 := Lib.hid (HT.out.via b1)
  have HB1 := Lib.hid b1
  clear b1
  go_wp2_with fail
  refine (awake_any _ HT1.out).mono ?_
  rintro e w2 ⟨rfl, b2⟩
  have HB2 := Lib.hid (HB1.out.trans (b2.mono HB1.out.size))
  clear b2
  go_wp2_with fail
  go_ret
  exact ⟨rfl, HB2.out⟩
set_option maxRecDepth 100000 in
set_option maxHeartbeats 8000000 in
theorem only_yes (w : World) (s : ByteArray) (h : s.size ≤ 700) (hT : CTab w) (hf : flaw s = none) :
    Calls Tryz.prog 6 #[.string s] w fun e w' => e = .returned (.bool true) ∧ Below w.heap.size w w' := by
  have HT := Lib.hid hT
  have C := Lib.hid (fun W (k : CTab W) => decode_any s W (by omega) k)
  obtain ⟨hM, hS⟩ := flaw_none hf
  have FEW := Lib.hid (decT_few s)
  obtain ⟨T, hD⟩ : ∃ T, T = decT s := ⟨_, rfl⟩
  rw [← hD] at C hM hS FEW
  rw [hf] at C
  simp only [enoO] at C
  have D := Lib.hid (fun sx W (k : IsD W sx T) (k' : CTab W) => encode_any sx T W k k')
  rw [chkT_zero.mpr hM, show encL T = sealL (bodyB T) by unfold encL; rw [if_pos hM], hS] at D
  have E := Lib.hid (fun sx W (k : IsD W sx T) => check_any5 sx T W k)
  rw [chkT_zero.mpr hM] at E
  clear hT hD hM hS hf
  have d5 : decide ((700 : Int) < (s.size : Int)) = false := by rw [decide_eq_false_iff_not]; omega
  go_enter Tryz.func6, Tryz.ntmps6
  go_wp2_with fail
  refine (awake_any _ HT.out).mono ?_
  rintro e w1 ⟨rfl, b1⟩
  have HT1 := Lib.hid (HT.out.via b1)
  have HB1 := Lib.hid b1
  clear b1
  go_wp2_with fail
  refine (C.out _ HT1.out).mono ?_
  rintro e w2 ⟨sx, rfl, hO, b2⟩
  have B3 := Lib.hid (BxO.start hO FEW.out (HB1.out.trans (b2.mono HB1.out.size)) (HT1.out.via b2))
  obtain ⟨w3, hw3⟩ : ∃ w3, w3 = w2.alloc (.cells #[.int .i64 T.period, .int .i64 T.deadline, .slice sx.P sx.np sx.pc, .slice sx.E sx.ne sx.ec, .slice sx.F sx.nf sx.fc, .slice sx.R sx.nr sx.rc] 27) := ⟨_, rfl⟩
  rw [← hw3] at B3
  clear b2 hO HT HT1 HB1 C
  obtain ⟨c1, c2, c3, c4, c5, c6⟩ := B3.out.c
  go_wp2_with fail
  rw [← hw3]
  clear hw3
  refine (D.out _ _ B3.out.d B3.out.tab).mono ?_
  rintro e w4 ⟨rfl, b4⟩
  have B4 := Lib.hid (B3.out.next b4)
  clear b4 c1 c2 c3 c4 c5 c6 B3
  obtain ⟨c1, c2, c3, c4, c5, c6⟩ := B4.out.c
  go_wp2_with fail
  refine (E.out _ _ B4.out.d).mono ?_
  rintro e w5 ⟨rfl, b5⟩
  have B5 := Lib.hid (B4.out.next b5)
  clear b5 c1 c2 c3 c4 c5 c6 B4
  go_wp2
  go_ret
  exact ⟨rfl, B5.out.bel⟩
theorem decT_flaw {s : ByteArray} {f : Int × Int × Int} (h : flaw s = some f) : decT s = zeroT := by
  unfold decT
  rw [h]
  rfl
set_option maxRecDepth 100000 in
set_option maxHeartbeats 8000000 in
theorem only_no (w : World) (s : ByteArray) (h : s.size ≤ 700) (hT : CTab w) (f : Int × Int × Int) (hf : flaw s = some f) :
    Calls Tryz.prog 6 #[.string s] w fun e w' => e = .returned (.bool true) ∧ Below w.heap.size w w' := by
  have HT := Lib.hid hT
  have C := Lib.hid (fun W (k : CTab W) => decode_any s W (by omega) k)
  have f4 : (f.2.2 != 0) = true := bne_iff_ne.mpr (flaw_some hf).2.2.2
  rw [decT_flaw hf, hf] at C
  simp only [enoO] at C
  obtain ⟨n, hn⟩ : ∃ n, n = f.2.2 := ⟨_, rfl⟩
  rw [← hn] at C f4
  have E := Lib.hid (fun sx W (k : IsD W sx zeroT) (k' : IsD W zeroSh zeroT) => rsame_d k k')
  rw [decide_eq_true (rfl : zeroT = zeroT)] at E
  clear hT hf hn
  have d5 : decide ((700 : Int) < (s.size : Int)) = false := by rw [decide_eq_false_iff_not]; omega
  go_enter Tryz.func6, Tryz.ntmps6
  go_wp2_with fail
  refine (awake_any _ HT.out).mono ?_
  rintro e w1 ⟨rfl, b1⟩
  have HT1 := Lib.hid (HT.out.via b1)
  have HB1 := Lib.hid b1
  clear b1
  go_wp2_with fail
  refine (C.out _ HT1.out).mono ?_
  rintro e w2 ⟨sx, rfl, hO, b2⟩
  have B3 := Lib.hid (BxO.start hO zero_few (HB1.out.trans (b2.mono HB1.out.size)) (HT1.out.via b2))
  obtain ⟨w3, hw3⟩ : ∃ w3, w3 = w2.alloc (.cells #[.int .i64 zeroT.period, .int .i64 zeroT.deadline, .slice sx.P sx.np sx.pc, .slice sx.E sx.ne sx.ec, .slice sx.F sx.nf sx.fc, .slice sx.R sx.nr sx.rc] 27) := ⟨_, rfl⟩
  rw [← hw3] at B3
  clear b2 hO HT HT1 HB1 C
  obtain ⟨c1, c2, c3, c4, c5, c6⟩ := B3.out.c
  go_wp2_with fail
  rw [← hw3]
  clear hw3
  refine (E.out _ _ B3.out.d ⟨zero_isT _ _, zero_few, B3.out.d.tab, Nat.le_refl _, Nat.le_refl _⟩).mono ?_
  rintro e w4 ⟨rfl, b4⟩
  have B4 := Lib.hid (B3.out.next b4)
  clear b4 c1 c2 c3 c4 c5 c6 B3
  go_wp2
  go_ret
  exact ⟨rfl, B4.out.bel⟩
theorem walk_CodecOnly (w : World) (s : ByteArray) (hs : s.size ≤ 9223372036854775807) (hT : CTab w) :
    Calls Tryz.prog 6 #[.string s] w fun e w' => e = .returned (.bool true) ∧ Below w.heap.size w w' := by
  by_cases h : s.size ≤ 700
  · cases hf : flaw s with
    | none => exact only_yes w s h hT hf
    | some f => exact only_no w s h hT f hf
  · exact only_long w s hs (by omega) hT
end Go.Proofs.YtlimcimioeepaaaGreatDoor
