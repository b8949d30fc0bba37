/- The walks of CodecPuts and CodecBack in the seat YtlimcimioeepaaaGreatDoor: at any input they answer true. No statement is proved here. -/
import Derived.Test.YtlimcimioeepaaaGreatDoorZOnlyWalk
set_option linter.unusedVariables false
namespace Go.Proofs.YtlimcimioeepaaaGreatDoor
open Go.RowKit

/-- The law's task in its box, and the program's tables. -/
structure BxL (w : World) (s : Sh) (T : Task) (w' : World) : Prop where
  b : Bx1D w s T w'
  tab : CTab w'
theorem BxL.next {w w1 w2 : World} {s : Sh} {T : Task} (h : BxL w s T w1) (hb : Below w1.heap.size w1 w2) : BxL w s T w2 := ⟨h.b.next hb, h.tab.via hb⟩
theorem BxL.start {w : World} {s : Sh} {T : Task} (h : InD w s T) (hT : CTab w) (hF : FewD T) : BxL w s T (w.alloc (.cells #[.int .i64 T.period, .int .i64 T.deadline, .slice s.P s.np s.pc, .slice s.E s.ne s.ec, .slice s.F s.nf s.fc, .slice s.R s.nr s.rc] 27)) :=
  ⟨(Bx1T.start h.t).few h hT.two hF, hT.via (below_alloc _)⟩
structure BxM (w : World) (s : Sh) (T : Task) (w' : World) : Prop where
  b : Bx1T w s T w'
  tab : CTab w'
theorem BxM.next {w w1 w2 : World} {s : Sh} {T : Task} (h : BxM w s T w1) (hb : Below w1.heap.size w1 w2) : BxM w s T w2 := ⟨h.b.next hb, h.tab.via hb⟩
theorem BxM.start {w : World} {s : Sh} {T : Task} (h : InD w s T) (hT : CTab w) : BxM w s T (w.alloc (.cells #[.int .i64 T.period, .int .i64 T.deadline, .slice s.P s.np s.pc, .slice s.E s.ne s.ec, .slice s.F s.nf s.fc, .slice s.R s.nr s.rc] 27)) :=
  ⟨Bx1T.start h.t, hT.via (below_alloc _)⟩
/-- The answer's bytes of what may not be. -/
theorem encL_no {T : Task} (h : ¬ MayT T) : txt (encL T) = ⟨#[]⟩ := by unfold encL; rw [if_neg h]; rfl
theorem encL_yes {T : Task} (h : MayT T) : txt (encL T) = txt (sealL (bodyB T)) := by unfold encL; rw [if_pos h]
set_option maxRecDepth 100000 in
set_option maxHeartbeats 4000000 in
theorem puts_many (w : World) (s : Sh) (T : Task) (hT : CTab w) (h : InD w s T) (f : ¬ FewD T) :
    Calls Tryz.prog 3 #[s.arg T.period T.deadline] w fun e w' => e = .returned (.bool true) ∧ Below w.heap.size w w' := by
  have B0 := Lib.hid (BxM.start h hT)
  have F1 := Lib.hid f
  clear h hT f
  go_enter Tryz.func3, Tryz.ntmps3
  go_wp2_with fail
  refine (awake_any _ B0.out.tab).mono ?_
  rintro e w1 ⟨rfl, b1⟩
  have B1 := Lib.hid (B0.out.next b1)
  clear b1
  obtain ⟨c1, c2, c3, c4, c5, c6⟩ := B1.out.b.c
  go_wp2_with fail
  refine (few_n B1.out.b.t F1.out).mono ?_
  rintro e w3 ⟨rfl, b3⟩
  have B3 := Lib.hid (B1.out.next b3)
  clear b3 c1 c2 c3 c4 c5 c6 B0 B1
  go_wp2_with fail
  refine (awake_any _ B3.out.tab).mono ?_
  rintro e w4 ⟨rfl, b4⟩
  have B4 := Lib.hid (B3.out.next b4)
  clear b4
  go_wp2
  go_ret
  exact ⟨rfl, B4.out.b.bel⟩
set_option maxRecDepth 100000 in
set_option maxHeartbeats 8000000 in
theorem puts_few (w : World) (s : Sh) (T : Task) (hT : CTab w) (h : InD w s T) (f : FewD T) :
    Calls Tryz.prog 3 #[s.arg T.period T.deadline] w fun e w' => e = .returned (.bool true) ∧ Below w.heap.size w w' := by
  have B0 := Lib.hid (BxL.start h hT f)
  have F1 := Lib.hid f
  have C := Lib.hid (fun sx W (k : IsD W sx T) (k' : CTab W) => encode_any sx T W k k')
  have D := Lib.hid (fun W (k : IsT W W.heap.size s T) (k' : FewT T) => cenc_any W s T k k')
  obtain ⟨S, hS⟩ : ∃ S, S = txt (encL T) := ⟨_, rfl⟩
  obtain ⟨n, hn⟩ : ∃ n, n = chkT T := ⟨_, rfl⟩
  rw [← hS, ← hn] at C D
  clear h hT f hS hn
  go_enter Tryz.func3, Tryz.ntmps3
  go_wp2_with fail
  refine (awake_any _ B0.out.tab).mono ?_
  rintro e w1 ⟨rfl, b1⟩
  have B1 := Lib.hid (B0.out.next b1)
  clear b1
  obtain ⟨c1, c2, c3, c4, c5, c6⟩ := B1.out.b.c
  go_wp2_with fail
  refine (few_d B1.out.b.d.t F1.out).mono ?_
  rintro e w2 ⟨rfl, b2⟩
  have B2 := Lib.hid (B1.out.next b2)
  clear b2 c1 c2 c3 c4 c5 c6
  obtain ⟨c1, c2, c3, c4, c5, c6⟩ := B2.out.b.c
  go_wp2_with fail
  refine (own_d B2.out.b.d).mono ?_
  rintro e w3 ⟨sa, rfl, hd, b3⟩
  have B3 := Lib.hid (B2.out.next b3)
  have D3 := Lib.hid hd
  clear b3 c1 c2 c3 c4 c5 c6 hd
  go_wp2_with fail
  refine (C.out _ _ D3.out B3.out.tab).mono ?_
  rintro e w4 ⟨rfl, b4⟩
  have B4 := Lib.hid (B3.out.next b4)
  clear b4 D3 C
  obtain ⟨c1, c2, c3, c4, c5, c6⟩ := B4.out.b.c
  go_wp2_with fail
  refine (D.out _ B4.out.b.d.t B4.out.b.d.few).mono ?_
  rintro e w5 ⟨rfl, b5⟩
  have B5 := Lib.hid (B4.out.next b5)
  clear b5 c1 c2 c3 c4 c5 c6
  go_wp2
  go_ret
  exact ⟨rfl, B5.out.b.bel⟩
theorem walk_CodecPuts (w : World) {s : Sh} {T : Task} (h : InD w s T) (hT : CTab w) :
    Calls Tryz.prog 3 #[s.arg T.period T.deadline] w fun e w' => e = .returned (.bool true) ∧ Below w.heap.size w w' := by
  by_cases hf : FewD T
  · exact puts_few w s T hT h hf
  · exact puts_many w s T hT h hf
set_option maxRecDepth 100000 in
set_option maxHeartbeats 4000000 in
theorem back_many (w : World) (s : Sh) (T : Task) (hT : CTab w) (h : InD w s T) (f : ¬ FewD T) :
    Calls Tryz.prog 5 #[s.arg T.period T.deadline] w fun e w' => e = .returned (.bool true) ∧ Below w.heap.size w w' := by
  have B0 := Lib.hid (BxM.start h hT)
  have F1 := Lib.hid f
  clear h hT f
  go_enter Tryz.func5, Tryz.ntmps5
  go_wp2_with fail
  refine (awake_any _ B0.out.tab).mono ?_
  rintro e w1 ⟨rfl, b1⟩
  have B1 := Lib.hid (B0.out.next b1)
  clear b1
  obtain ⟨c1, c2, c3, c4, c5, c6⟩ := B1.out.b.c
  go_wp2_with fail
  refine (few_n B1.out.b.t F1.out).mono ?_
  rintro e w3 ⟨rfl, b3⟩
  have B3 := Lib.hid (B1.out.next b3)
  clear b3 c1 c2 c3 c4 c5 c6 B0 B1
  go_wp2_with fail
  refine (awake_any _ B3.out.tab).mono ?_
  rintro e w4 ⟨rfl, b4⟩
  have B4 := Lib.hid (B3.out.next b4)
  clear b4
  go_wp2
  go_ret
  exact ⟨rfl, B4.out.b.bel⟩
set_option maxRecDepth 100000 in
set_option maxHeartbeats 16000000 in
theorem back_yes (w : World) (s : Sh) (T : Task) (hT : CTab w) (h : InD w s T) (f : FewD T) (hM : MayT T) :
    Calls Tryz.prog 5 #[s.arg T.period T.deadline] w fun e w' => e = .returned (.bool true) ∧ Below w.heap.size w w' := by
  have B0 := Lib.hid (BxL.start h hT f)
  have F1 := Lib.hid f
  have C := Lib.hid (fun sx W (k : IsD W sx T) (k' : CTab W) => encode_any sx T W k k')
  have hz : (txt (sealL (bodyB T))).size ≤ 700 := by
    have := hM.bytes
    rw [txt_size, sealL_length]
    omega
  have D := Lib.hid (fun W (k : CTab W) => decode_any (txt (sealL (bodyB T))) W (by omega) k)
  rw [encL_yes hM, chkT_zero.mpr hM] at C
  rw [(flaw_seal hM).1, (flaw_seal hM).2] at D
  simp only [enoO] at D
  have E := Lib.hid (fun sx W (k : IsD W s T) (k' : IsD W sx T) => rsame_d k k')
  rw [decide_eq_true (rfl : T = T)] at E
  obtain ⟨S, hS⟩ : ∃ S, S = txt (sealL (bodyB T)) := ⟨_, rfl⟩
  rw [← hS] at C D hz
  have g1 : decide ((S.size : Int) ≤ 700) = true := decide_eq_true (by omega)
  clear h hT f hS hM
  go_enter Tryz.func5, Tryz.ntmps5
  go_wp2_with fail
  refine (awake_any _ B0.out.tab).mono ?_
  rintro e w1 ⟨rfl, b1⟩
  have B1 := Lib.hid (B0.out.next b1)
  clear b1
  obtain ⟨c1, c2, c3, c4, c5, c6⟩ := B1.out.b.c
  go_wp2_with fail
  refine (few_d B1.out.b.d.t F1.out).mono ?_
  rintro e w2 ⟨rfl, b2⟩
  have B2 := Lib.hid (B1.out.next b2)
  clear b2 c1 c2 c3 c4 c5 c6
  obtain ⟨c1, c2, c3, c4, c5, c6⟩ := B2.out.b.c
  go_wp2_with fail
  refine (own_d B2.out.b.d).mono ?_
  rintro e w3 ⟨sa, rfl, hd, b3⟩
  have B3 := Lib.hid (B2.out.next b3)
  have D3 := Lib.hid hd
  clear b3 c1 c2 c3 c4 c5 c6 hd
  go_wp2_with fail
  refine (C.out _ _ D3.out B3.out.tab).mono ?_
  rintro e w4 ⟨rfl, b4⟩
  have B4 := Lib.hid (B3.out.next b4)
  clear b4 D3 C
  go_wp2_with fail
  refine (D.out _ B4.out.tab).mono ?_
  rintro e w5 ⟨sx, rfl, hO, b5⟩
  have B5 := Lib.hid (B4.out.next b5)
  have X6 := Lib.hid (BxO.start hO B5.out.b.d.few (B5.out.b.bel) B5.out.tab)
  obtain ⟨w6, hw6⟩ : ∃ w6, w6 = w5.alloc (.cells #[.int .i64 T.period, .int .i64 T.deadline, .slice sx.P sx.np sx.pc, .slice sx.E sx.ne sx.ec, .slice sx.F sx.nf sx.fc, .slice sx.R sx.nr sx.rc] 27) := ⟨_, rfl⟩
  have B6 := Lib.hid (B5.out.next (by rw [hw6]; exact below_alloc _ : Below w5.heap.size w5 w6))
  rw [← hw6] at X6
  clear b5 hO D B0 B1 B2 B3 B4
  obtain ⟨c1, c2, c3, c4, c5, c6⟩ := B5.out.b.c
  have hl : w.heap.size < w5.heap.size := lt_of_cell c1
  go_wp2_with fail
  rw [← hw6]
  clear hw6
  refine (E.out _ _ B6.out.b.d X6.out.d).mono ?_
  rintro e w7 ⟨rfl, b7⟩
  have B7 := Lib.hid (B6.out.next b7)
  clear b7 c1 c2 c3 c4 c5 c6
  go_wp2
  go_ret
  exact ⟨rfl, B7.out.b.bel⟩
theorem flaw_empty : flaw ⟨#[]⟩ = some ((0 : Int), ((0 : Nat) : Int), (60 : Int)) := flaw_short (s := ⟨#[]⟩) (by decide)
set_option maxRecDepth 100000 in
set_option maxHeartbeats 16000000 in
theorem back_no (w : World) (s : Sh) (T : Task) (hT : CTab w) (h : InD w s T) (f : FewD T) (hM : ¬ MayT T) :
    Calls Tryz.prog 5 #[s.arg T.period T.deadline] w fun e w' => e = .returned (.bool true) ∧ Below w.heap.size w w' := by
  have B0 := Lib.hid (BxL.start h hT f)
  have F1 := Lib.hid f
  have C := Lib.hid (fun sx W (k : IsD W sx T) (k' : CTab W) => encode_any sx T W k k')
  have D := Lib.hid (fun W (k : CTab W) => decode_any ⟨#[]⟩ W (by decide) k)
  have E := Lib.hid (fun sx W (k : IsD W sx T) => check_any5 sx T W k)
  obtain ⟨n, hn⟩ : ∃ n, n = chkT T := ⟨_, rfl⟩
  have hn0 : (n != 0) = true := bne_iff_ne.mpr fun k => hM (chkT_zero.mp (hn ▸ k))
  rw [encL_no hM, ← hn] at C
  rw [← hn] at E
  rw [decT_flaw flaw_empty, flaw_empty] at D
  simp only [enoO] at D
  clear h hT f hM hn
  go_enter Tryz.func5, Tryz.ntmps5
  go_wp2_with fail
  refine (awake_any _ B0.out.tab).mono ?_
  rintro e w1 ⟨rfl, b1⟩
  have B1 := Lib.hid (B0.out.next b1)
  clear b1
  obtain ⟨c1, c2, c3, c4, c5, c6⟩ := B1.out.b.c
  go_wp2_with fail
  refine (few_d B1.out.b.d.t F1.out).mono ?_
  rintro e w2 ⟨rfl, b2⟩
  have B2 := Lib.hid (B1.out.next b2)
  clear b2 c1 c2 c3 c4 c5 c6
  obtain ⟨c1, c2, c3, c4, c5, c6⟩ := B2.out.b.c
  go_wp2_with fail
  refine (own_d B2.out.b.d).mono ?_
  rintro e w3 ⟨sa, rfl, hd, b3⟩
  have B3 := Lib.hid (B2.out.next b3)
  have D3 := Lib.hid hd
  clear b3 c1 c2 c3 c4 c5 c6 hd
  go_wp2_with fail
  refine (C.out _ _ D3.out B3.out.tab).mono ?_
  rintro e w4 ⟨rfl, b4⟩
  have B4 := Lib.hid (B3.out.next b4)
  clear b4 D3 C
  go_wp2_with fail
  refine (D.out _ B4.out.tab).mono ?_
  rintro e w5 ⟨sx, rfl, hO, b5⟩
  have B5 := Lib.hid (B4.out.next b5)
  obtain ⟨w6, hw6⟩ : ∃ w6, w6 = w5.alloc (.cells #[.int .i64 zeroT.period, .int .i64 zeroT.deadline, .slice sx.P sx.np sx.pc, .slice sx.E sx.ne sx.ec, .slice sx.F sx.nf sx.fc, .slice sx.R sx.nr sx.rc] 27) := ⟨_, rfl⟩
  have B6 := Lib.hid (B5.out.next (by rw [hw6]; exact below_alloc _ : Below w5.heap.size w5 w6))
  clear b5 hO D B0 B1 B2 B3 B4
  obtain ⟨c1, c2, c3, c4, c5, c6⟩ := B5.out.b.c
  have hl : w.heap.size < w5.heap.size := lt_of_cell c1
  go_wp2_with fail
  rw [← hw6]
  clear hw6
  refine (own_d B6.out.b.d).mono ?_
  rintro e w7 ⟨sb, rfl, hd, b7⟩
  have B7 := Lib.hid (B6.out.next b7)
  have D7 := Lib.hid hd
  clear b7 c1 c2 c3 c4 c5 c6 hd B5 B6
  go_wp2_with fail
  refine (E.out _ _ D7.out).mono ?_
  rintro e w8 ⟨rfl, b8⟩
  have B8 := Lib.hid (B7.out.next b8)
  clear b8
  go_wp2
  go_ret
  exact ⟨rfl, B8.out.b.bel⟩
theorem walk_CodecBack (w : World) {s : Sh} {T : Task} (h : InD w s T) (hT : CTab w) :
    Calls Tryz.prog 5 #[s.arg T.period T.deadline] w fun e w' => e = .returned (.bool true) ∧ Below w.heap.size w w' := by
  by_cases hf : FewD T
  · by_cases hM : MayT T
    · exact back_yes w s T hT h hf hM
    · exact back_no w s T hT h hf hM
  · exact back_many w s T hT h hf
end Go.Proofs.YtlimcimioeepaaaGreatDoor
