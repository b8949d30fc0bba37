/- The walk of CrcOne in the seat YtjngnejmgfncnaaDoor: at any input it answers true. No statement is proved here. -/
import Derived.Test.YtjngnejmgfncnaaDoorTurnedWalk
set_option linter.unusedVariables false
namespace Go.Proofs.YtjngnejmgfncnaaDoor
open Go.RowKit

set_option maxRecDepth 100000 in
set_option maxHeartbeats 2000000 in
theorem one_fine (w : World) (s : ByteArray) (a : Nat) (y : UInt8) (hy : y ≠ 0) (hs : s.size ≤ 300) (ha : a < s.size + 4) (hT : Tab w) :
    Calls Tryd.prog 8 #[.string s, .int .i64 a, .int .u8 (y.toNat : Int)] w fun e w' => e = .returned (.bool true) ∧ Below w.heap.size w w' := by
  have HT := Lib.hid hT
  have C1 := Lib.hid (fun W hT => seal_any s W (by omega) hT)
  have hsz := sealS_size s
  have HU := Lib.hid (one_unsound s a y hy ha)
  rw [← sealS_list] at HU
  obtain ⟨Z, hZ⟩ : ∃ Z, Z = sealS s := ⟨_, rfl⟩
  rw [← hZ] at C1 hsz HU
  obtain ⟨l, hl⟩ : ∃ l, l = Z.data.toList := ⟨_, rfl⟩
  have HL : Hid (l.length = s.size + 4) := Lib.hid (by rw [hl, ← hsz]; rfl)
  rw [← hl] at HU
  have C2 := Lib.hid (fun W hT => open_no ⟨(turnB l a (fun _ => y) 1).toArray⟩ W (by show (turnB l a (fun _ => y) 1).toArray.size ≤ _; rw [List.size_toArray, turnB_length, HL.out]; omega) hT HU.out)
  have TR := fun W => to_row8 Z W
  rw [← hl] at TR
  have HTR := Lib.hid TR
  have hy0 : (((y.toNat : Nat) : Int) == 0) = false := by
    rw [beq_eq_false_iff_ne]
    intro e
    exact hy (UInt8.toNat_inj.mp (by have : y.toNat = 0 := by omega
                                     rw [this]; rfl))
  have d3 : decide ((s.size : Int) + 4 ≤ (a : Int)) = false := by rw [decide_eq_false_iff_not]; omega
  have d4 : decide ((a : Int) < 0) = false := by rw [decide_eq_false_iff_not]; omega
  have d5 : decide ((300 : Int) < (s.size : Int)) = false := by rw [decide_eq_false_iff_not]; omega
  have d6 : decide (300 < s.size) = false := by rw [decide_eq_false_iff_not]; omega
  clear hT hl hZ TR hy HU
  go_enter Tryd.func8, Tryd.ntmps8
  go_wp2_with fail
  refine (awake_any _ HT.out).mono ?_
  rintro e w1 ⟨rfl, b1⟩
  have HT1 := below_tab HT b1
  have HB1 := Lib.hid b1
  clear b1
  go_wp2_with fail
  refine (C1.out _ HT1.out).mono ?_
  rintro e w2 ⟨rfl, b2⟩
  have HT2 := below_tab HT1 b2
  have HB2 := below_then HB1 b2
  clear b2
  obtain ⟨c, W1, hcv, hc, hrow, hb1⟩ := HTR.out w2
  have HR1 := Lib.hid hrow
  have HB3 := Lib.hid hb1
  have hcell := hrow.cell (j := a) (by rw [HL.out]; exact ha)
  have hfz := hrow.frozen (j := a) (by rw [HL.out]; exact ha)
  have hxx := xor_u8 (l.getD a 0) y _ rfl
  have HN : Hid (Row8 w2.heap.size (turnB l a (fun _ => y) 1) (W1.setCell ⟨w2.heap.size, a, none⟩ (.int .u8 ((l.getD a 0 ^^^ y).toNat : Int)))) := Lib.hid (hrow.set a (by rw [HL.out]; exact ha) _)
  have HB4 : Hid (Below w2.heap.size w2 (W1.setCell ⟨w2.heap.size, a, none⟩ (.int .u8 ((l.getD a 0 ^^^ y).toNat : Int)))) := Lib.hid (hb1.setCell (Nat.le_refl _) _)
  have hbk := HN.out.back (s.size + 4) c (by rw [turnB_length, HL.out])
  have HT4 := below_tab HT2 HB4.out
  obtain ⟨x, hx⟩ : ∃ x, x = l.getD a 0 := ⟨_, rfl⟩
  rw [← hx] at hcell hxx hbk HN HB4 HT4
  rw [UInt8.toNat_xor] at hxx hbk HN HB4 HT4
  obtain ⟨v, hv⟩ : ∃ v, v = x.toNat ^^^ y.toNat := ⟨_, rfl⟩
  rw [← hv] at hxx hbk HN HB4 HT4
  clear hrow hb1 hx hv
  rw [hsz] at hcv
  go_wp2_with fail
  refine (C2.out _ HT4.out).mono ?_
  rintro e w3 ⟨rfl, b3⟩
  have HB5 := below_then HB4 b3
  clear b3
  go_wp2_with fail
  go_ret
  exact ⟨rfl, HB2.out.trans (HB5.out.mono HB2.out.size)⟩
set_option maxHeartbeats 1000000 in
theorem one_other (w : World) (s : ByteArray) (a b : Int) (hs : s.size ≤ 9223372036854775807) (ha : -9223372036854775808 ≤ a ∧ a ≤ 9223372036854775807) (h : ¬ (s.size ≤ 300 ∧ 0 ≤ a ∧ a < (s.size : Int) + 4 ∧ b ≠ 0)) (hT : Tab w) :
    Calls Tryd.prog 8 #[.string s, .int .i64 a, .int .u8 b] w fun e w' => e = .returned (.bool true) ∧ Below w.heap.size w w' := by
  have HT := Lib.hid hT
  clear hT
  have k : 300 < s.size ∨ (s.size ≤ 300 ∧ a < 0) ∨ (s.size ≤ 300 ∧ 0 ≤ a ∧ (s.size : Int) + 4 ≤ a) ∨ (s.size ≤ 300 ∧ 0 ≤ a ∧ a < (s.size : Int) + 4 ∧ b = 0) := by omega
  clear h
  rcases k with h | ⟨h, h1⟩ | ⟨h, h1, h2⟩ | ⟨h, h1, h2, rfl⟩
  all_goals
    go_enter Tryd.func8, Tryd.ntmps8
    go_wp2_with fail
    refine (awake_any _ HT.out).mono ?_
    rintro e w1 ⟨rfl, b1⟩
    have HT1 := below_tab HT b1
    have HB1 := Lib.hid b1
    clear b1
    go_wp2_with fail
    refine (awake_any _ HT1.out).mono ?_
    rintro e w2 ⟨rfl, b2⟩
    have HB2 := below_then HB1 b2
    clear b2
    go_wp2_with fail
    go_ret
    exact ⟨rfl, HB2.out⟩
theorem walk_CrcOne (w : World) (s : ByteArray) (hs : s.size ≤ 9223372036854775807) (a : Int) (ha : (Lit.int .i64 a).wf = true) (b : Int) (hb : (Lit.int .u8 b).wf = true) (hT : Tab w) :
    Calls Tryd.prog 8 #[.string s, .int .i64 a, .int .u8 b] w fun e w' => e = .returned (.bool true) ∧ Below w.heap.size w w' := by
  have bb := u8_bounds hb
  by_cases h : s.size ≤ 300 ∧ 0 ≤ a ∧ a < (s.size : Int) + 4 ∧ b ≠ 0
  · obtain ⟨h1, h2, h3, h4⟩ := h
    obtain ⟨k, rfl⟩ : ∃ k : Nat, a = k := ⟨a.toNat, by omega⟩
    have e : ((UInt8.ofNat b.toNat).toNat : Int) = b := by rw [UInt8.toNat_ofNat']; omega
    have hy : UInt8.ofNat b.toNat ≠ 0 := by
      intro e2
      rw [e2] at e
      exact h4 e.symm
    have h := one_fine w s k (UInt8.ofNat b.toNat) hy h1 (by omega) hT
    rwa [e] at h
  · exact one_other w s a b hs (i64_bounds ha) h hT
end Go.Proofs.YtjngnejmgfncnaaDoor
