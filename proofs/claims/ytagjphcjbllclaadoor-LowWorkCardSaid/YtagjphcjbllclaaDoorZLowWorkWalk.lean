/- The walk of LowWork in the seat YtagjphcjbllclaaDoor. No statement is proved here. -/
import Derived.Test.YtagjphcjbllclaaDoorZM24
import Derived.Test.YtagjphcjbllclaaDoorZM20
set_option linter.unusedVariables false
namespace Go.Proofs.YtagjphcjbllclaaDoor
open Go.RowKit

set_option maxRecDepth 100000 in
set_option maxHeartbeats 4000000 in
theorem work_many (w : World) (s : Sh) (T : Task) (hT : DTab w) (h : InD w s T) (f : ¬ FewD T) :
    Calls Tryd.prog 4 #[s.arg T.period T.deadline] w fun e w' => e = .returned (.bool true) ∧ Below w.heap.size w w' := by
  have HTW := Lib.hid (fun W (h : Below w.heap.size w W) => DTab.via hT h)
  have B0 := Lib.hid (Bx1T.start h.t)
  have F1 := Lib.hid f
  clear h hT f
  go_enter Tryd.func4, Tryd.ntmps4
  go_wp2_with fail
  refine (awakeL_any _ (HTW.out _ B0.out.bel)).mono ?_
  rintro e w1 ⟨rfl, b1⟩
  have B1 := Lib.hid (B0.out.next b1)
  clear b1
  obtain ⟨c1, c2, c3, c4, c5, c6⟩ := B1.out.c
  go_wp2_with fail
  refine (few_n B1.out.t F1.out).mono ?_
  rintro e w2 ⟨rfl, b2⟩
  have B2 := Lib.hid (B1.out.next b2)
  clear b2 c1 c2 c3 c4 c5 c6
  go_wp2_with fail
  refine (awakeL_any _ (HTW.out _ B2.out.bel)).mono ?_
  rintro e w3 ⟨rfl, b3⟩
  have B3 := Lib.hid (B2.out.next b3)
  clear b3
  go_wp2_with fail
  go_ret
  exact ⟨rfl, B3.out.bel⟩
set_option maxRecDepth 100000 in
set_option maxHeartbeats 8000000 in
theorem work_few (w : World) (s : Sh) (T : Task) (hT : DTab w) (h : InD w s T) (f : FewD T) :
    Calls Tryd.prog 4 #[s.arg T.period T.deadline] w fun e w' => e = .returned (.bool true) ∧ Below w.heap.size w w' := by
  have HTW := Lib.hid (fun W (h : Below w.heap.size w W) => DTab.via hT h)
  have B0 := Lib.hid ((Bx1T.start h.t).few h hT f)
  have F1 := Lib.hid f
  have HT := Lib.hid h.t
  have hl1 : s.np ≤ 20 := by have := f.np; have := h.t.hp; omega
  have hl3 : s.nf ≤ 20 := by have := f.nf; have := h.t.hf; omega
  have hl4 : s.nr ≤ 8 := by have := f.nr; have := h.t.hr; omega
  clear h hT f
  obtain ⟨P, np, pc, E, ne, ec, F, nf, fc, R, nr, rc⟩ := s
  simp only at hl1 hl3 hl4
  obtain ⟨n, hn⟩ : ∃ n, (lowWv T).length = n := ⟨_, rfl⟩
  obtain ⟨m, hm⟩ : ∃ n, (lowEv T).length = n := ⟨_, rfl⟩
  obtain ⟨k, hk⟩ : ∃ n, (lowPv T).length = n := ⟨_, rfl⟩
  obtain ⟨r, hr⟩ : ∃ r, r = lowX T := ⟨_, rfl⟩
  have CL := Lib.hid (fun W s (h : IsD W s T) => lower_sz hn hm hk h)
  rw [← hr] at CL
  by_cases hX : r = 0
  · subst hX
    have hOK : LowOk T := lowX_zero.mp hr.symm
    have hN : n = np + nf + nr ∧ k = n := by
      have e := low_yes hOK
      have h1 := lowW_len hOK.1
      have h2 := lowP_len hOK.1
      rw [e.1] at hn
      rw [e.2.2] at hk
      have := HT.out.hp; have := HT.out.hf; have := HT.out.hr
      simp only at *
      omega
    have HOK := Lib.hid hOK
    obtain ⟨hN, rfl⟩ := hN
    have hn36 : k ≤ 48 := by omega
    have HN := Lib.hid hN
    have HSUM : Hid (totalV (lowWv T) (lowEv T) = workK T.parts np + nr) := Lib.hid (by
      have e := low_yes hOK
      have hp := HT.out.hp; have hr := HT.out.hr
      simp only at hp hr
      rw [e.1, e.2.1]
      unfold totalV
      rw [if_pos hOK.2, lowW_sum, hp, hr])
    have HCHK : Hid (chkE (lowWv T) (lowEv T) = 0) := Lib.hid (by
      have e := low_yes hOK
      rw [e.1, e.2.1]
      exact chkE_zero.mpr hOK.2)
    have HWB : Hid (∀ j, j ≤ np → 0 ≤ workK T.parts j ∧ workK T.parts j ≤ 100 * j) := Lib.hid (by
      have hp := HT.out.hp
      simp only at hp
      rw [← hp]
      exact workK_bound hOK.1.parts)
    have HPOS : Hid (∀ z ∈ lowWv T, 1 ≤ z) := Lib.hid (by rw [(low_yes hOK).1]; exact lowW_pos hOK.1)
    have hwn := HWB.out np (Nat.le_refl _)
    obtain ⟨tw, htw⟩ : ∃ t, t = workK T.parts np := ⟨_, rfl⟩
    rw [← htw] at HSUM hwn
    have HTWK := Lib.hid htw
    clear hOK hr hm htw hN
    go_enter Tryd.func4, Tryd.ntmps4
    go_wp2_with fail
    refine (awakeL_any _ (HTW.out _ B0.out.bel)).mono ?_
    rintro e w1 ⟨rfl, b1⟩
    have B1 := Lib.hid (B0.out.next b1)
    clear b1
    obtain ⟨c1, c2, c3, c4, c5, c6⟩ := B1.out.c
    go_wp2_with fail
    refine (few_d B1.out.d.t F1.out).mono ?_
    rintro e w2 ⟨rfl, b2⟩
    have B2 := Lib.hid (B1.out.next b2)
    clear b2 c1 c2 c3 c4 c5 c6
    obtain ⟨c1, c2, c3, c4, c5, c6⟩ := B2.out.c
    go_wp2_with fail
    refine (own_d B2.out.d).mono ?_
    rintro e w3 ⟨s', rfl, hs', b3⟩
    have B3 := Lib.hid (B2.out.next b3)
    have HS := Lib.hid hs'
    clear b3 hs' c1 c2 c3 c4 c5 c6
    go_wp2_with fail
    refine (CL.out _ _ HS.out).mono ?_
    rintro e w4 ⟨A, c, F', d, R', z, rfl, hL, b4⟩
    obtain ⟨w5, hw5⟩ : ∃ w5, w5 = w4.alloc (.cells #[.slice A k c, .slice F' m d, .slice R' k z] 28) := ⟨_, rfl⟩
    have hBL := BxL.start (B3.out.next b4) hL
    rw [← hw5] at hBL
    have HW := Lib.hid hw5
    have B5 := Lib.hid hBL
    have hg : w.heap.size < w4.heap.size := World.block_lt_of_cell? _ _ (B3.out.next b4).c.1
    obtain ⟨c1, c2, c3, c4, c5, c6⟩ := (B3.out.next b4).c
    clear hw5 hBL b4 hL B0 B1 B2 B3 CL HS F1 HTW
    simp only at c1 c2 c3 c4 c5 c6
    go_wp2_with fail
    rw [← HW.out]
    clear HW c1 c2 c3 c4 c5 c6
    obtain ⟨c1, c2, c3, c4, c5, c6⟩ := B5.out.b.c
    obtain ⟨d0, d1, d2⟩ := B5.out.cells
    simp only at c1 c2 c3 c4 c5 c6
    go_loop [5, 6] (fun s i => ∃ j : Nat, j ≤ np ∧ i = .int .i64 j ∧ s = .int .i64 (nr + workK T.parts j)) (fun _ i => np - (intOf i).toNat)
    case atStart => exact ⟨0, Nat.zero_le _, rfl, by simp [workK]⟩
    case round =>
      obtain ⟨j, hj, rfl, rfl⟩ := hrel
      have hwj := HWB.out j hj
      by_cases hlt : j < np
      · have hpr := B5.out.b.d.t.parts
        obtain ⟨b1, o1, x, y, zz, rfl, hb1, hx, q0, q1, q2⟩ := hpr.at_ (k := j) (by have := HT.out.hp; simp only at this; rw [this]; exact hlt)
        have hws := workK_succ hx
        have hwj2 := HWB.out (j + 1) (by omega)
        simp only at hws
        obtain ⟨a, ha⟩ : ∃ a, a = workK T.parts j := ⟨_, rfl⟩
        rw [← ha] at hws hwj
        rw [hws] at hwj2
        rw [← ha]
        clear hx hpr q0 q1
        have HWS := Lib.hid hws
        clear ha hws
        go_wp2
        go_round
        case rel => exact ⟨j + 1, by omega, by go_num, by rw [HWS.out]; go_num⟩
        case measure => simp [intOf]; omega
      · obtain rfl : np = j := by omega
        rw [← HTWK.out]
        clear hwj
        go_wp2
        go_loop [7] (fun i => ∃ j : Nat, j ≤ k ∧ i = .int .i64 j) (fun i => k - (intOf i).toNat)
        case atStart => exact ⟨0, Nat.zero_le _, rfl⟩
        case round =>
          obtain ⟨j, hj, rfl⟩ := hrel
          by_cases hlt : j < k
          · obtain ⟨b1, o1, y, rfl, hb1, hx, q0⟩ := B5.out.l.g.ints.at_ (k := j) (by rw [hn]; exact hlt)
            have hy : 1 ≤ y := HPOS.out y (List.mem_of_getElem? hx)
            clear hx
            go_wp2
            go_round
            case rel => exact ⟨j + 1, by omega, by go_num⟩
            case measure => simp [intOf]; omega
          · obtain rfl : k = j := by omega
            have CC := check_done w5 B5.out.l.g
            rw [HCHK.out] at CC
            have CT := Lib.hid (fun W (h : Below w5.heap.size w5 W) => total_done W ((B5.out.next h).l.g))
            rw [HSUM.out] at CT
            have hnp := HN.out
            have hb : ((k : Int) == ((np : Int) + nf + nr)) = true := by simp; omega
            have HBT := Lib.hid hb
            clear hnp hb
            go_wp2_with fail
            refine CC.mono ?_
            rintro e w6 ⟨rfl, b6⟩
            have CT2 := CT.out w6 b6
            have B6 := Lib.hid (B5.out.next b6)
            clear b6 CC CT c1 c2 c3 c4 c5 c6 d0 d1 d2
            obtain ⟨c1, c2, c3, c4, c5, c6⟩ := B6.out.b.c
            obtain ⟨d0, d1, d2⟩ := B6.out.cells
            simp only at c1 c2 c3 c4 c5 c6
            have hcm : (nr : Int) + tw = tw + nr := Int.add_comm _ _
            go_wp2_with fail
            refine CT2.mono ?_
            rintro e w7 ⟨rfl, b7⟩
            have B7 := Lib.hid (B6.out.next b7)
            clear b7 CT2 c1 c2 c3 c4 c5 c6 d0 d1 d2
            obtain ⟨c1, c2, c3, c4, c5, c6⟩ := B7.out.b.c
            obtain ⟨d0, d1, d2⟩ := B7.out.cells
            simp only at c1 c2 c3 c4 c5 c6
            have hb := HBT.out
            go_wp2_with fail
            go_ret
            exact ⟨rfl, B7.out.b.bel⟩
  · obtain ⟨e1, e2, e3⟩ := low_no (T := T) (by rw [← hr]; exact hX)
    rw [e1] at hn
    rw [e2] at hm
    rw [e3] at hk
    simp only [List.length_nil] at hn hm hk
    subst hn hm hk
    rw [e1, e2, e3] at CL
    have hb : (r != 0) = true := bne_iff_ne.mpr hX
    clear e1 e2 e3 hr hX HT hl1 hl3 hl4
    go_enter Tryd.func4, Tryd.ntmps4
    go_wp2_with fail
    refine (awakeL_any _ (HTW.out _ B0.out.bel)).mono ?_
    rintro e w1 ⟨rfl, b1⟩
    have B1 := Lib.hid (B0.out.next b1)
    clear b1
    obtain ⟨c1, c2, c3, c4, c5, c6⟩ := B1.out.c
    go_wp2_with fail
    refine (few_d B1.out.d.t F1.out).mono ?_
    rintro e w2 ⟨rfl, b2⟩
    have B2 := Lib.hid (B1.out.next b2)
    clear b2 c1 c2 c3 c4 c5 c6
    obtain ⟨c1, c2, c3, c4, c5, c6⟩ := B2.out.c
    go_wp2_with fail
    refine (own_d B2.out.d).mono ?_
    rintro e w3 ⟨s', rfl, hs', b3⟩
    have B3 := Lib.hid (B2.out.next b3)
    have HS := Lib.hid hs'
    clear b3 hs' c1 c2 c3 c4 c5 c6
    go_wp2_with fail
    refine (CL.out _ _ HS.out).mono ?_
    rintro e w4 ⟨A, c, F', d, R', z, rfl, hL, b4⟩
    obtain ⟨w5, hw5⟩ : ∃ w5, w5 = w4.alloc (.cells #[.slice A 0 c, .slice F' 0 d, .slice R' 0 z] 28) := ⟨_, rfl⟩
    have hBL := BxL.start (B3.out.next b4) hL
    rw [← hw5] at hBL
    have HW := Lib.hid hw5
    have B5 := Lib.hid hBL
    have CS := rsameL_any w5 hBL.l (noL hBL.l.g.tab)
    simp only [and_self, decide_true] at CS
    clear hw5 hBL b4 hL B0 B1 B2 B3 CL HS F1 HTW
    go_wp2_with fail
    rw [← HW.out]
    refine CS.mono ?_
    rintro e w6 ⟨rfl, b6⟩
    have B6 := Lib.hid (B5.out.next b6)
    clear b6
    go_wp2
    go_ret
    exact ⟨rfl, B6.out.b.bel⟩
theorem walk_LowWork (w : World) {s : Sh} {T : Task} (h : InD w s T) (hT : DTab w) :
    Calls Tryd.prog 4 #[s.arg T.period T.deadline] w fun e w' => e = .returned (.bool true) ∧ Below w.heap.size w w' := by
  by_cases f : FewD T
  · exact work_few w s T hT h f
  · exact work_many w s T hT h f
end Go.Proofs.YtagjphcjbllclaaDoor
