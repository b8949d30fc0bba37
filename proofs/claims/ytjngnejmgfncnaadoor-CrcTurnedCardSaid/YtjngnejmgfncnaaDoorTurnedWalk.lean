/- The walk of CrcTurned in the seat YtjngnejmgfncnaaDoor: at any input it answers true. No statement is proved here. -/
import Derived.Test.YtjngnejmgfncnaaDoorSumsWalk
import Derived.Test.YtjngnejmgfncnaaDoorTurnMath
import Derived.Test.YtjngnejmgfncnaaDoorRow8
set_option linter.unusedVariables false
namespace Go.Proofs.YtjngnejmgfncnaaDoor
open Go.RowKit

theorem turned_cell {g a j : Nat} {l : List UInt8} {d : Nat → UInt8} {w : World} (h : Row8 g (turnB l a d j) w) (hl : a + j < l.length) : ∃ x : UInt8, w.cell? ⟨g, a + j, none⟩ = some (.int .u8 (x.toNat : Int)) ∧ w.frozen? ⟨g, a + j, none⟩ = false ∧
    Hid (Row8 g (turnB l a d (j + 1)) (w.setCell ⟨g, a + j, none⟩ (.int .u8 ((x ^^^ d j).toNat : Int)))) :=
  have h1 : a + j < (turnB l a d j).length := by rw [turnB_length]; exact hl
  ⟨_, h.cell h1, h.frozen h1, Lib.hid (h.set (a + j) h1 _)⟩
theorem xor_u8 (x y : UInt8) (Y : Int) (h : Y = (y.toNat : Int)) : bits .xor .u8 (x.toNat : Int) Y = ((x ^^^ y).toNat : Int) := by
  rw [h, u8_xor_nat _ _ x.toNat_lt y.toNat_lt, UInt8.toNat_xor]
theorem quad0 (n : Nat) : (n : Int) % 256 = ((quad n 0).toNat : Int) := by
  show _ = ((UInt8.ofNat (n % 256)).toNat : Int)
  rw [ofNat_mod]
  rfl
theorem quad1 (n : Nat) : (n : Int) / 256 % 256 = ((quad n 1).toNat : Int) := by
  show _ = ((UInt8.ofNat (n / 256 % 256)).toNat : Int)
  rw [ofNat_mod]
  rfl
theorem quad2 (n : Nat) : (n : Int) / 65536 % 256 = ((quad n 2).toNat : Int) := by
  show _ = ((UInt8.ofNat (n / 65536 % 256)).toNat : Int)
  rw [ofNat_mod]
  rfl
theorem quad3 (n : Nat) (hn : n < 4294967296) : (n : Int) / 16777216 = ((quad n 3).toNat : Int) := by
  show _ = ((UInt8.ofNat (n / 16777216 % 256)).toNat : Int)
  rw [ofNat_mod]
  omega

set_option maxRecDepth 100000 in
set_option maxHeartbeats 2000000 in
theorem turned_fine (w : World) (s : ByteArray) (a n : Nat) (hn : n < 4294967296) (hs : s.size ≤ 300) (ha : a + 4 ≤ s.size) (hT : Tab w) :
    Calls Tryd.prog 6 #[.string s, .int .i64 a, .int .u32 n] w fun e w' => e = .returned (.bool true) ∧ Below w.heap.size w w' := by
  have HT := Lib.hid hT
  obtain ⟨l, hl⟩ : ∃ l, l = s.data.toList := ⟨_, rfl⟩
  have HL : Hid (l.length = s.size) := Lib.hid (by rw [hl]; rfl)
  have C1 := Lib.hid (fun W hT => sum_any s W (by omega) hT)
  have C2 := Lib.hid (fun W hT => sum_any ⟨(turnB l a (quad n) 4).toArray⟩ W (by show (turnB l a (quad n) 4).toArray.size ≤ _; rw [List.size_toArray, turnB_length, HL.out]; omega) hT)
  have hq : ((((crc (turnB l a (quad n) 4) : Nat) : Int) == ((crc l : Nat) : Int)) == ((n : Int) == 0)) = true := by
    have h := crc_turned l a n hn (by rw [HL.out]; exact ha)
    rw [beq_iff_eq]
    by_cases h0 : n = 0
    · rw [beq_iff_eq.mpr (by rw [h.mpr h0]), beq_iff_eq.mpr (by rw [h0]; rfl)]
    · rw [beq_eq_false_iff_ne.mpr (fun e => h0 (h.mp (Int.ofNat_inj.mp e))), beq_eq_false_iff_ne.mpr (by omega)]
  rw [show (⟨(turnB l a (quad n) 4).toArray⟩ : ByteArray).data.toList = turnB l a (quad n) 4 from rfl] at C2
  have TR := fun W => to_row8 s W
  rw [← hl] at C1 TR
  have HTR := Lib.hid TR
  obtain ⟨p, hp⟩ : ∃ p, p = crc (turnB l a (quad n) 4) := ⟨_, rfl⟩
  obtain ⟨q, hq2⟩ : ∃ q, q = crc l := ⟨_, rfl⟩
  rw [← hp] at C2 hq
  rw [← hq2] at C1 hq
  have d1 : decide ((s.size : Int) < 4) = false := by rw [decide_eq_false_iff_not]; omega
  have d2 : decide (s.size < 4) = false := by rw [decide_eq_false_iff_not]; omega
  have d3 : decide ((s.size : Int) - 4 < (a : Int)) = false := by rw [decide_eq_false_iff_not]; omega
  have d4 : decide ((a : Int) < 0) = false := by rw [decide_eq_false_iff_not]; omega
  have d5 : decide ((300 : Int) < (s.size : Int)) = false := by rw [decide_eq_false_iff_not]; omega
  have d6 : decide (300 < s.size) = false := by rw [decide_eq_false_iff_not]; omega
  clear hT hl hp hq2 TR
  go_enter Tryd.func6, Tryd.ntmps6
  go_wp2_with fail
  refine (awake_any _ HT.out).mono ?_
  rintro e w1 ⟨rfl, b1⟩
  have HT1 := below_tab HT b1
  have HB1 := Lib.hid b1
  clear b1
  obtain ⟨c, W1, hcv, hc, hrow, hb1⟩ := HTR.out w1
  have HR1 := Lib.hid hrow
  have HB2 := Lib.hid hb1
  clear hrow hb1
  go_wp2
  go_loopw [8] (fun i wr => ∃ j : Nat, j ≤ 4 ∧ i = .int .i64 j ∧ Hid (Row8 w1.heap.size (turnB l a (quad n) j) wr) ∧ Hid (Below w1.heap.size w1 wr)) (fun i _ => 4 - (intOf i).toNat)
  case atStart => exact ⟨0, Nat.zero_le _, rfl, HR1, HB2⟩
  case round =>
    obtain ⟨j, hj, rfl, HR, HB⟩ := hrel
    by_cases hlt : j < 4
    · obtain ⟨x, hcell, hfz, HN⟩ := turned_cell HR.out (by rw [HL.out]; omega)
      have HJ := Lib.hid hlt
      rcases (show j = 0 ∨ j = 1 ∨ j = 2 ∨ j = 3 by omega) with rfl | rfl | rfl | rfl
      · have hxx := xor_u8 x (quad n 0) _ (quad0 n)
        rw [Nat.add_zero] at hcell hfz HN
        go_wp2
        go_roundw
        case rel => exact ⟨1, by omega, by go_num, HN, Lib.hid (HB.out.setCell (Nat.le_refl _) _)⟩
        case measure => simp [intOf]
      · have hxx := xor_u8 x (quad n 1) _ (quad1 n)
        go_wp2
        go_roundw
        case rel => exact ⟨2, by omega, by go_num, HN, Lib.hid (HB.out.setCell (Nat.le_refl _) _)⟩
        case measure => simp [intOf]
      · have hxx := xor_u8 x (quad n 2) _ (quad2 n)
        go_wp2
        go_roundw
        case rel => exact ⟨3, by omega, by go_num, HN, Lib.hid (HB.out.setCell (Nat.le_refl _) _)⟩
        case measure => simp [intOf]
      · have hxx := xor_u8 x (quad n 3) _ (quad3 n hn)
        go_wp2
        go_roundw
        case rel => exact ⟨4, by omega, by go_num, HN, Lib.hid (HB.out.setCell (Nat.le_refl _) _)⟩
        case measure => simp [intOf]
    · obtain rfl : j = 4 := by omega
      have hbk := HR.out.back s.size c (by rw [turnB_length, HL.out])
      have HT3 := below_tab HT1 HB.out
      go_wp2_with fail
      refine (C2.out _ HT3.out).mono ?_
      rintro e w2 ⟨rfl, rfl⟩
      go_wp2_with fail
      refine (C1.out _ HT3.out).mono ?_
      rintro e w2 ⟨rfl, rfl⟩
      go_wp2_with fail
      go_ret
      exact ⟨rfl, HB1.out.trans (HB.out.mono HB1.out.size)⟩
set_option maxHeartbeats 1000000 in
theorem turned_other (w : World) (s : ByteArray) (a : Int) (n : Nat) (hs : s.size ≤ 9223372036854775807) (ha : -9223372036854775808 ≤ a ∧ a ≤ 9223372036854775807) (h : ¬ (4 ≤ s.size ∧ s.size ≤ 300 ∧ 0 ≤ a ∧ a ≤ (s.size : Int) - 4)) (hT : Tab w) :
    Calls Tryd.prog 6 #[.string s, .int .i64 a, .int .u32 n] w fun e w' => e = .returned (.bool true) ∧ Below w.heap.size w w' := by
  have HT := Lib.hid hT
  clear hT
  have k : s.size < 4 ∨ (4 ≤ s.size ∧ 300 < s.size) ∨ (4 ≤ s.size ∧ s.size ≤ 300 ∧ a < 0) ∨ (4 ≤ s.size ∧ s.size ≤ 300 ∧ 0 ≤ a ∧ (s.size : Int) - 4 < a) := by omega
  clear h
  rcases k with h | ⟨h, h1⟩ | ⟨h, h1, h2⟩ | ⟨h, h1, h2, h3⟩
  all_goals
    go_enter Tryd.func6, Tryd.ntmps6
    go_wp2_with fail
    refine (awake_any _ HT.out).mono ?_
    rintro e w1 ⟨rfl, b1⟩
    have HT1 := below_tab HT b1
    have HB1 := Lib.hid b1
    clear b1
    go_wp2_with fail
    refine (awake_any _ HT1.out).mono ?_
    rintro e w2 ⟨rfl, b2⟩
    have HB2 := below_then HB1 b2
    clear b2
    go_wp2_with fail
    go_ret
    exact ⟨rfl, HB2.out⟩
theorem i64_bounds {n : Int} (h : (Lit.int .i64 n).wf = true) : -9223372036854775808 ≤ n ∧ n ≤ 9223372036854775807 := by
  have e1 : IntKind.i64.min = -9223372036854775808 := by decide
  have e2 : IntKind.i64.max = 9223372036854775807 := by decide
  simp [Lit.wf, e1, e2] at h
  omega
theorem u32_bounds {n : Int} (h : (Lit.int .u32 n).wf = true) : 0 ≤ n ∧ n ≤ 4294967295 := by
  have e1 : IntKind.u32.min = 0 := by decide
  have e2 : IntKind.u32.max = 4294967295 := by decide
  simp [Lit.wf, e1, e2] at h
  omega
theorem u8_bounds {n : Int} (h : (Lit.int .u8 n).wf = true) : 0 ≤ n ∧ n ≤ 255 := by
  have e1 : IntKind.u8.min = 0 := by decide
  have e2 : IntKind.u8.max = 255 := by decide
  simp [Lit.wf, e1, e2] at h
  omega
theorem walk_CrcTurned (w : World) (s : ByteArray) (hs : s.size ≤ 9223372036854775807) (a : Int) (ha : (Lit.int .i64 a).wf = true) (n : Int) (hn : (Lit.int .u32 n).wf = true) (hT : Tab w) :
    Calls Tryd.prog 6 #[.string s, .int .i64 a, .int .u32 n] w fun e w' => e = .returned (.bool true) ∧ Below w.heap.size w w' := by
  have bn := u32_bounds hn
  obtain ⟨m, rfl⟩ : ∃ m : Nat, n = m := ⟨n.toNat, by omega⟩
  by_cases h : 4 ≤ s.size ∧ s.size ≤ 300 ∧ 0 ≤ a ∧ a ≤ (s.size : Int) - 4
  · obtain ⟨b, rfl⟩ : ∃ b : Nat, a = b := ⟨a.toNat, by omega⟩
    exact turned_fine w s b m (by omega) h.2.1 (by omega) hT
  · exact turned_other w s a m hs (i64_bounds ha) h hT
end Go.Proofs.YtjngnejmgfncnaaDoor
