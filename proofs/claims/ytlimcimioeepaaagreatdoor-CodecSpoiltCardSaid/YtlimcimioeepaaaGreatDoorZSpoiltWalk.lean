/- The walk of CodecSpoilt in the seat YtlimcimioeepaaaGreatDoor: at any input it answers true. No statement is proved here. -/
import Derived.Test.YtlimcimioeepaaaGreatDoorZPutsWalk
import Derived.Test.YtlimcimioeepaaaGreatDoorZG8
set_option linter.unusedVariables false
namespace Go.Proofs.YtlimcimioeepaaaGreatDoor
open Go.RowKit

theorem xor_u8 (x y : UInt8) (Y : Int) (h : Y = (y.toNat : Int)) : bits .xor .u8 (x.toNat : Int) Y = ((x ^^^ y).toNat : Int) := by
  rw [h, u8_xor_nat _ _ x.toNat_lt y.toNat_lt, UInt8.toNat_xor]
theorem byte_bounds {b : Int} (h : (Lit.int .u8 b).wf = true) : 0 ≤ b ∧ b ≤ 255 := by
  have e1 : IntKind.u8.min = 0 := by decide
  have e2 : IntKind.u8.max = 255 := by decide
  simp [Lit.wf, e1, e2] at h
  omega
theorem cut_txt (l : List UInt8) (a : Nat) : (txt l).extract 0 a = txt (l.take a) := by
  apply bytes_ext
  rw [Lib.extract_data, txt_list, txt_list]
  simp
set_option maxRecDepth 100000 in
set_option maxHeartbeats 4000000 in
theorem spoilt_many (w : World) (s : Sh) (T : Task) (a b : Int) (hT : CTab w) (h : InD w s T) (f : ¬ FewD T) :
    Calls Tryz.prog 7 #[s.arg T.period T.deadline, .int .i64 a, .int .u8 b] w fun e w' => e = .returned (.bool true) ∧ Below w.heap.size w w' := by
  have B0 := Lib.hid (BxM.start h hT)
  have F1 := Lib.hid f
  clear h hT f
  go_enter Tryz.func7, Tryz.ntmps7
  go_wp2_with fail
  refine (awake_any _ B0.out.tab).mono ?_
  rintro e w1 ⟨rfl, b1⟩
  have B1 := Lib.hid (B0.out.next b1)
  clear b1
  obtain ⟨c1, c2, c3, c4, c5, c6⟩ := B1.out.b.c
  go_wp2_with fail
  refine (few_n B1.out.b.t F1.out).mono ?_
  rintro e w3 ⟨rfl, b3⟩
  have B3 := Lib.hid (B1.out.next b3)
  clear b3 c1 c2 c3 c4 c5 c6 B0 B1
  go_wp2_with fail
  refine (awake_any _ B3.out.tab).mono ?_
  rintro e w4 ⟨rfl, b4⟩
  have B4 := Lib.hid (B3.out.next b4)
  clear b4
  go_wp2
  go_ret
  exact ⟨rfl, B4.out.b.bel⟩
set_option maxRecDepth 100000 in
set_option maxHeartbeats 16000000 in
/-- Where nothing is asked: the law answers true at once. -/
theorem spoilt_out (w : World) (s : Sh) (T : Task) (a b : Int) (hT : CTab w) (h : InD w s T) (f : FewD T) (S : ByteArray) (n : Int) (hS : txt (encL T) = S) (hn : chkT T = n)
    (ho : (n != 0) = true ∨ ((n != 0) = false ∧ decide (a < 0) = true) ∨ ((n != 0) = false ∧ decide (a < 0) = false ∧ decide ((S.size : Int) ≤ a) = true) ∨ ((n != 0) = false ∧ decide (a < 0) = false ∧ decide ((S.size : Int) ≤ a) = false ∧ b = 0)) :
    Calls Tryz.prog 7 #[s.arg T.period T.deadline, .int .i64 a, .int .u8 b] w fun e w' => e = .returned (.bool true) ∧ Below w.heap.size w w' := by
  have B0 := Lib.hid (BxL.start h hT f)
  have F1 := Lib.hid f
  have C := Lib.hid (fun sx W (k : IsD W sx T) (k' : CTab W) => encode_any sx T W k k')
  rw [hS, hn] at C
  clear h hT f hS hn
  rcases ho with h1 | ⟨h1, h2⟩ | ⟨h1, h2, h3⟩ | ⟨h1, h2, h3, rfl⟩
  all_goals
    go_enter Tryz.func7, Tryz.ntmps7
    go_wp2_with fail
    refine (awake_any _ B0.out.tab).mono ?_
    rintro e w1 ⟨rfl, b1⟩
    have B1 := Lib.hid (B0.out.next b1)
    clear b1
    obtain ⟨c1, c2, c3, c4, c5, c6⟩ := B1.out.b.c
    go_wp2_with fail
    refine (few_d B1.out.b.d.t F1.out).mono ?_
    rintro e w2 ⟨rfl, b2⟩
    have B2 := Lib.hid (B1.out.next b2)
    clear b2 c1 c2 c3 c4 c5 c6
    obtain ⟨c1, c2, c3, c4, c5, c6⟩ := B2.out.b.c
    go_wp2_with fail
    refine (own_d B2.out.b.d).mono ?_
    rintro e w3 ⟨sa, rfl, hd, b3⟩
    have B3 := Lib.hid (B2.out.next b3)
    have D3 := Lib.hid hd
    clear b3 c1 c2 c3 c4 c5 c6 hd
    go_wp2_with fail
    refine (C.out _ _ D3.out B3.out.tab).mono ?_
    rintro e w4 ⟨rfl, b4⟩
    have B4 := Lib.hid (B3.out.next b4)
    clear b4 D3 C B0 B1 B2 B3
    go_wp2_with fail
    go_ret
    exact ⟨rfl, B4.out.b.bel⟩
set_option maxRecDepth 100000 in
set_option maxHeartbeats 16000000 in
theorem spoilt_in (w : World) (s : Sh) (T : Task) (a : Nat) (y : UInt8) (hT : CTab w) (h : InD w s T) (f : FewD T) (hM : MayT T) (hy : y ≠ 0) (ha : a < (sealL (bodyB T)).length) :
    Calls Tryz.prog 7 #[s.arg T.period T.deadline, .int .i64 a, .int .u8 (y.toNat : Int)] w fun e w' => e = .returned (.bool true) ∧ Below w.heap.size w w' := by
  have B0 := Lib.hid (BxL.start h hT f)
  have F1 := Lib.hid f
  have C := Lib.hid (fun sx W (k : IsD W sx T) (k' : CTab W) => encode_any sx T W k k')
  rw [encL_yes hM, chkT_zero.mpr hM] at C
  have hb := hM.bytes
  have HF := Lib.hid (flaw_turned hM hy ha)
  have HC := Lib.hid (flaw_cut hM ha)
  have hx : a < (sealL (bodyB T)).length := ha
  rw [sealL_length] at ha
  obtain ⟨l, hl⟩ : ∃ l, l = sealL (bodyB T) := ⟨_, rfl⟩
  have hln : l.length ≤ 700 := by rw [hl, sealL_length]; omega
  rw [← hl] at HF HC C hx
  have D := Lib.hid (fun W (k : CTab W) => decode_any (txt (turnB l a (fun _ => y) 1)) W (by rw [txt_size, turnB_length]; omega) k)
  rw [HF.out] at D
  have D2 := Lib.hid (fun W (k : CTab W) => decode_any (txt (l.take a)) W (by rw [txt_size, List.length_take]; omega) k)
  obtain ⟨m, hm⟩ : ∃ m, m = enoO (flaw (txt (l.take a))) := ⟨_, rfl⟩
  rw [← hm] at D2 HC
  obtain ⟨n, hn⟩ : ∃ n, n = l.length := ⟨_, rfl⟩
  have hsz : (txt l).size = n := by rw [txt_size, hn]
  have TR := fun W => to_row8 (txt l) W
  rw [txt_list] at TR
  have HTR := Lib.hid TR
  have HL := Lib.hid hn
  have hx0 : a ≤ n := by rw [hn]; exact Nat.le_of_lt hx
  have hcut : ∀ W : World, (Instr.slice 9 (.string (txt l)) none (some (.int .i64 (a : Int))) none).run Tryz.prog W = .ok (.string (txt (l.take a))) W := fun W => by
    have h := run_slice_string_lo (txt l) W (a : Int) (by omega) (by rw [hsz]; omega)
    rwa [Int.toNat_natCast, cut_txt] at h
  rw [← hn] at hx hln
  have hy0 : (((y.toNat : Nat) : Int) == 0) = false := by
    rw [beq_eq_false_iff_ne]
    intro e
    exact hy (UInt8.toNat_inj.mp (by have : y.toNat = 0 := by omega
                                     rw [this]; rfl))
  have d3 : decide ((n : Int) ≤ (a : Int)) = false := by rw [decide_eq_false_iff_not]; omega
  have d4 : decide ((a : Int) < 0) = false := by rw [decide_eq_false_iff_not]; omega
  clear h hT f hM hy hl hm hn TR HF ha hb
  go_enter Tryz.func7, Tryz.ntmps7
  go_wp2_with fail
  refine (awake_any _ B0.out.tab).mono ?_
  rintro e w1 ⟨rfl, b1⟩
  have B1 := Lib.hid (B0.out.next b1)
  clear b1
  obtain ⟨c1, c2, c3, c4, c5, c6⟩ := B1.out.b.c
  go_wp2_with fail
  refine (few_d B1.out.b.d.t F1.out).mono ?_
  rintro e w2 ⟨rfl, b2⟩
  have B2 := Lib.hid (B1.out.next b2)
  clear b2 c1 c2 c3 c4 c5 c6
  obtain ⟨c1, c2, c3, c4, c5, c6⟩ := B2.out.b.c
  go_wp2_with fail
  refine (own_d B2.out.b.d).mono ?_
  rintro e w3 ⟨sa, rfl, hd, b3⟩
  have B3 := Lib.hid (B2.out.next b3)
  have D3 := Lib.hid hd
  clear b3 c1 c2 c3 c4 c5 c6 hd
  go_wp2_with fail
  refine (C.out _ _ D3.out B3.out.tab).mono ?_
  rintro e w4 ⟨rfl, b4⟩
  have B4 := Lib.hid (B3.out.next b4)
  clear b4 D3 C B0 B1 B2 B3
  obtain ⟨c, W1, hcv, hc, hrow, hb1⟩ := HTR.out w4
  have HR1 := Lib.hid hrow
  have hcell := hrow.cell (j := a) (by rw [← HL.out]; exact hx)
  have hfz := hrow.frozen (j := a) (by rw [← HL.out]; exact hx)
  have hxx := xor_u8 (l.getD a 0) y _ rfl
  have HN : Hid (Row8 w4.heap.size (turnB l a (fun _ => y) 1) (W1.setCell ⟨w4.heap.size, a, none⟩ (.int .u8 ((l.getD a 0 ^^^ y).toNat : Int)))) := Lib.hid (hrow.set a (by rw [← HL.out]; exact hx) _)
  have HB4 : Hid (BxL w s T (W1.setCell ⟨w4.heap.size, a, none⟩ (.int .u8 ((l.getD a 0 ^^^ y).toNat : Int)))) := Lib.hid (B4.out.next (hb1.setCell (Nat.le_refl _) _))
  have hbk := HN.out.back n c (by rw [turnB_length, HL.out])
  rw [show (⟨(turnB l a (fun _ => y) 1).toArray⟩ : ByteArray) = txt (turnB l a (fun _ => y) 1) from rfl] at hbk
  obtain ⟨x, hx⟩ : ∃ x, x = l.getD a 0 := ⟨_, rfl⟩
  rw [← hx] at hcell hxx hbk HN HB4
  rw [UInt8.toNat_xor] at hxx hbk HN HB4
  obtain ⟨v, hv⟩ : ∃ v, v = x.toNat ^^^ y.toNat := ⟨_, rfl⟩
  rw [← hv] at hxx hbk HN HB4
  clear hrow hb1 hx hv
  rw [hsz] at hcv hc
  go_wp2_with fail
  refine (D.out _ HB4.out.tab).mono ?_
  rintro e w5 ⟨sx, rfl, _, b5⟩
  have B5 := Lib.hid (HB4.out.next b5)
  have B6 := Lib.hid (B5.out.next (below_alloc (w := w5) (.cells #[.int .i64 (decT (txt (turnB l a (fun _ => y) 1))).period, .int .i64 (decT (txt (turnB l a (fun _ => y) 1))).deadline, .slice sx.P sx.np sx.pc, .slice sx.E sx.ne sx.ec, .slice sx.F sx.nf sx.fc, .slice sx.R sx.nr sx.rc] 27)))
  clear b5
  go_wp2_with fail
  refine (D2.out _ B6.out.tab).mono ?_
  rintro e w6 ⟨sz, rfl, _, b6⟩
  have B7 := Lib.hid (B6.out.next b6)
  have B8 := Lib.hid (B7.out.next (below_alloc (w := w6) (.cells #[.int .i64 (decT (txt (l.take a))).period, .int .i64 (decT (txt (l.take a))).deadline, .slice sz.P sz.np sz.pc, .slice sz.E sz.ne sz.ec, .slice sz.F sz.nf sz.fc, .slice sz.R sz.nr sz.rc] 27)))
  clear b6
  rcases HC.out with rfl | rfl | rfl
  · go_wp2
    go_ret
    exact ⟨rfl, B8.out.b.bel⟩
  · go_wp2
    go_ret
    exact ⟨rfl, B8.out.b.bel⟩
  · go_wp2
    go_ret
    exact ⟨rfl, B8.out.b.bel⟩
theorem walk_CodecSpoilt (w : World) {s : Sh} {T : Task} (h : InD w s T) (a : Int) (ha : -9223372036854775808 ≤ a ∧ a ≤ 9223372036854775807) (b : Int) (hb : (Lit.int .u8 b).wf = true) (hT : CTab w) :
    Calls Tryz.prog 7 #[s.arg T.period T.deadline, .int .i64 a, .int .u8 b] w fun e w' => e = .returned (.bool true) ∧ Below w.heap.size w w' := by
  have bb := byte_bounds hb
  by_cases hf : FewD T
  · by_cases hM : MayT T
    · have hn : (chkT T != 0) = false := by rw [chkT_zero.mpr hM]; rfl
      have hz : (txt (encL T)).size = (sealL (bodyB T)).length := by rw [encL_yes hM, txt_size]
      by_cases h1 : a < 0
      · exact spoilt_out w s T a b hT h hf _ _ rfl rfl (.inr (.inl ⟨hn, decide_eq_true h1⟩))
      by_cases h2 : ((txt (encL T)).size : Int) ≤ a
      · exact spoilt_out w s T a b hT h hf _ _ rfl rfl (.inr (.inr (.inl ⟨hn, decide_eq_false h1, decide_eq_true h2⟩)))
      by_cases h3 : b = 0
      · exact spoilt_out w s T a b hT h hf _ _ rfl rfl (.inr (.inr (.inr ⟨hn, decide_eq_false h1, decide_eq_false h2, h3⟩)))
      obtain ⟨k, rfl⟩ : ∃ k : Nat, a = k := ⟨a.toNat, by omega⟩
      have e : ((UInt8.ofNat b.toNat).toNat : Int) = b := by rw [UInt8.toNat_ofNat']; omega
      have hy : UInt8.ofNat b.toNat ≠ 0 := by
        intro e2
        rw [e2] at e
        exact h3 e.symm
      have g := spoilt_in w s T k (UInt8.ofNat b.toNat) hT h hf hM hy (by omega)
      rwa [e] at g
    · exact spoilt_out w s T a b hT h hf _ _ rfl rfl (.inl (bne_iff_ne.mpr fun k => hM (chkT_zero.mp k)))
  · exact spoilt_many w s T a b hT h hf
end Go.Proofs.YtlimcimioeepaaaGreatDoor
