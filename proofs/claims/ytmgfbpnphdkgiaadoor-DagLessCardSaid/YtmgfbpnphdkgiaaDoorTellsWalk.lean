/- The walk of DagTells in the seat YtmgfbpnphdkgiaaDoor, given what the program's functions answer. No statement is proved here. -/
import Derived.Test.YtmgfbpnphdkgiaaDoorBox
set_option linter.unusedVariables false
namespace Go.Proofs.YtmgfbpnphdkgiaaDoor
open Go.RowKit

section
variable {A : Option Addr} {n c : Nat} {F : Option Addr} {m d : Nat} {W : List Int} {E : List (Int × Int)}
set_option maxHeartbeats 2000000 in
theorem tells_many (K : DagOk) (w : World) (hT : Tab64 w) (a b : Int) (k1 : n ≤ 9223372036854775807) (k2 : m ≤ 9223372036854775807) (h : ¬ (n ≤ 70 ∧ m ≤ 300)) :
    Calls Tryd.prog 4 #[.agg #[.slice A n c, .slice F m d], .int .i64 a, .int .i64 b] w fun e w' => e = .returned (.bool true) ∧ Below w.heap.size w w' := by
  have HK := Lib.hid K
  have HTB := Lib.hid hT
  clear hT
  have B0 := Lib.hid (Cx1.start w A n c F m d)
  have F1 := Lib.hid (fun W => few_no A F n c m d W k1 k2 h)
  clear K h k1 k2
  go_enter Tryd.func4, Tryd.ntmps4
  go_wp2_with fail
  refine (awake_any HK.out _ (HTB.out.via B0.out.bel)).mono ?_
  rintro e w1 ⟨rfl, b1⟩
  have B1 := Lib.hid (B0.out.next b1)
  clear b1
  obtain ⟨c1, c2⟩ := B1.out.cells
  go_wp2_with fail
  refine (F1.out _).mono ?_
  rintro e w2 ⟨rfl, b2⟩
  have B2 := Lib.hid (B1.out.next b2)
  clear b2 c1 c2
  go_wp2_with fail
  refine (awake_any HK.out _ (HTB.out.via B2.out.bel)).mono ?_
  rintro e w4 ⟨rfl, b4⟩
  have B4 := Lib.hid (B2.out.next b4)
  clear b4
  go_wp2_with fail
  go_ret
  exact ⟨rfl, B4.out.bel⟩
set_option maxHeartbeats 4000000 in
theorem tells_not (K : DagOk) (w : World) (a b : Int) (a0 : -9223372036854775808 ≤ a) (a1 : a ≤ 9223372036854775807) (b0 : -9223372036854775808 ≤ b) (b1 : b ≤ 9223372036854775807) (h : IsG w A n c F m d W E) (l1 : n ≤ 70) (l2 : m ≤ 300) (hM : ¬ May W E) :
    Calls Tryd.prog 4 #[.agg #[.slice A n c, .slice F m d], .int .i64 a, .int .i64 b] w fun e w' => e = .returned (.bool true) ∧ Below w.heap.size w w' := by
  have HK := Lib.hid K
  have HTB := Lib.hid h.tab
  have B0 := Lib.hid (Bx1.start h)
  have F1 := Lib.hid (fun W => few_yes A F n c m d W l1 l2)
  have e1 : orderV W E = [] := by unfold orderV; rw [if_neg hM]
  have e2 : totalV W E = 0 := by unfold totalV; rw [if_neg hM]
  have e3 : longV W E = 0 := by unfold longV; rw [if_neg hM]
  have e4 : predsV W E a = [] := by unfold predsV; rw [if_neg hM]
  have e5 : succsV W E a = [] := by unfold succsV; rw [if_neg hM]
  have e6 : beforeV W E a b = false := by unfold beforeV; rw [if_neg (fun h => hM h.1)]
  have hc : (chkE W E != 0) = true := by
    rw [bne_iff_ne]
    exact fun q => hM (chkE_zero.mp q)
  have K1 := Lib.hid (fun (A : Option Addr) (n c : Nat) (F : Option Addr) (m d : Nat) (w' : World) (h : IsG w' A n c F m d W E) => K.order w' h)
  have K2 := Lib.hid (fun (A : Option Addr) (n c : Nat) (F : Option Addr) (m d : Nat) (w' : World) (h : IsG w' A n c F m d W E) => K.total w' h)
  have K3 := Lib.hid (fun (A : Option Addr) (n c : Nat) (F : Option Addr) (m d : Nat) (w' : World) (h : IsG w' A n c F m d W E) => K.long w' h)
  have K4 := Lib.hid (fun (A : Option Addr) (n c : Nat) (F : Option Addr) (m d : Nat) (w' : World) (h : IsG w' A n c F m d W E) => K.preds w' a a0 a1 h)
  have K5 := Lib.hid (fun (A : Option Addr) (n c : Nat) (F : Option Addr) (m d : Nat) (w' : World) (h : IsG w' A n c F m d W E) => K.succs w' a a0 a1 h)
  have K6 := Lib.hid (fun (A : Option Addr) (n c : Nat) (F : Option Addr) (m d : Nat) (w' : World) (h : IsG w' A n c F m d W E) => K.before w' a b a0 a1 b0 b1 h)
  simp only [e1] at K1
  simp only [e2] at K2
  simp only [e3] at K3
  simp only [e4] at K4
  simp only [e5] at K5
  simp only [e6] at K6
  clear K h l1 l2 hM e1 e2 e3 e4 e5 e6 a0 a1 b0 b1
  go_enter Tryd.func4, Tryd.ntmps4
  go_wp2_with fail
  refine (awake_any HK.out _ (HTB.out.via B0.out.bel)).mono ?_
  rintro e w1 ⟨rfl, b1⟩
  have B1 := Lib.hid (B0.out.next b1)
  clear b1
  obtain ⟨c1, c2⟩ := B1.out.cells
  go_wp2_with fail
  refine (F1.out _).mono ?_
  rintro e w2 ⟨rfl, b2⟩
  have B2 := Lib.hid (B1.out.next b2)
  clear b2 c1 c2
  obtain ⟨c1, c2⟩ := B2.out.cells
  go_wp2_with fail
  refine (rcheck_g B2.out.g).mono ?_
  rintro e w3 ⟨rfl, b3⟩
  have B3 := Lib.hid (B2.out.next b3)
  clear b3 c1 c2
  obtain ⟨c1, c2⟩ := B3.out.cells
  go_wp2_with fail
  refine (own_g B3.out.g).mono ?_
  rintro e w4 ⟨Aa, ca, Fa, da, rfl, hg, b⟩
  have B4 := Lib.hid (B3.out.next b)
  have HG := Lib.hid hg
  clear b c1 c2 hg
  obtain ⟨c1, c2⟩ := B4.out.cells
  go_wp2_with fail
  refine (K1.out _ _ _ _ _ _ _ HG.out).mono ?_
  rintro e w5 ⟨Ab, cb, rfl, _, b⟩
  have B5 := Lib.hid (B4.out.next b)
  clear b c1 c2 HG
  obtain ⟨c1, c2⟩ := B5.out.cells
  go_wp2_with fail
  refine (own_g B5.out.g).mono ?_
  rintro e w6 ⟨Aa, ca, Fa, da, rfl, hg, b⟩
  have B6 := Lib.hid (B5.out.next b)
  have HG := Lib.hid hg
  clear b c1 c2 hg
  obtain ⟨c1, c2⟩ := B6.out.cells
  go_wp2_with fail
  refine (K2.out _ _ _ _ _ _ _ HG.out).mono ?_
  rintro e w7 ⟨rfl, b⟩
  have B7 := Lib.hid (B6.out.next b)
  clear b c1 c2 HG
  obtain ⟨c1, c2⟩ := B7.out.cells
  go_wp2_with fail
  refine (own_g B7.out.g).mono ?_
  rintro e w8 ⟨Aa, ca, Fa, da, rfl, hg, b⟩
  have B8 := Lib.hid (B7.out.next b)
  have HG := Lib.hid hg
  clear b c1 c2 hg
  obtain ⟨c1, c2⟩ := B8.out.cells
  go_wp2_with fail
  refine (K3.out _ _ _ _ _ _ _ HG.out).mono ?_
  rintro e w9 ⟨rfl, b⟩
  have B9 := Lib.hid (B8.out.next b)
  clear b c1 c2 HG
  obtain ⟨c1, c2⟩ := B9.out.cells
  go_wp2_with fail
  refine (own_g B9.out.g).mono ?_
  rintro e w10 ⟨Aa, ca, Fa, da, rfl, hg, b⟩
  have B10 := Lib.hid (B9.out.next b)
  have HG := Lib.hid hg
  clear b c1 c2 hg
  obtain ⟨c1, c2⟩ := B10.out.cells
  go_wp2_with fail
  refine (K4.out _ _ _ _ _ _ _ HG.out).mono ?_
  rintro e w11 ⟨Ab, cb, rfl, _, b⟩
  have B11 := Lib.hid (B10.out.next b)
  clear b c1 c2 HG
  obtain ⟨c1, c2⟩ := B11.out.cells
  go_wp2_with fail
  refine (own_g B11.out.g).mono ?_
  rintro e w12 ⟨Aa, ca, Fa, da, rfl, hg, b⟩
  have B12 := Lib.hid (B11.out.next b)
  have HG := Lib.hid hg
  clear b c1 c2 hg
  obtain ⟨c1, c2⟩ := B12.out.cells
  go_wp2_with fail
  refine (K5.out _ _ _ _ _ _ _ HG.out).mono ?_
  rintro e w13 ⟨Ab, cb, rfl, _, b⟩
  have B13 := Lib.hid (B12.out.next b)
  clear b c1 c2 HG
  obtain ⟨c1, c2⟩ := B13.out.cells
  go_wp2_with fail
  refine (own_g B13.out.g).mono ?_
  rintro e w14 ⟨Aa, ca, Fa, da, rfl, hg, b⟩
  have B14 := Lib.hid (B13.out.next b)
  have HG := Lib.hid hg
  clear b c1 c2 hg
  obtain ⟨c1, c2⟩ := B14.out.cells
  go_wp2_with fail
  refine (K6.out _ _ _ _ _ _ _ HG.out).mono ?_
  rintro e w15 ⟨rfl, b⟩
  have B15 := Lib.hid (B14.out.next b)
  clear b c1 c2 HG
  go_wp2_with fail
  go_ret
  exact ⟨rfl, B15.out.bel⟩
/-- Whether a way leads there, as the law reckons it. -/
theorem before_in (hM : May W E) (x y : Nat) : beforeV W E x y = (reach W.length E x).getD y false := by
  unfold beforeV
  rw [Bool.eq_iff_iff, reach_iff hM.fits]
  constructor
  · intro h
    split at h
    · rename_i q
      simpa using q.2.2.2
    · cases h
  · intro h
    rw [if_pos]
    exact ⟨hM, by omega, by omega, by simpa using h⟩
theorem before_out (hM : May W E) (a b : Int) (h : ¬ ((0 ≤ a ∧ a < W.length) ∧ 0 ≤ b ∧ b < W.length)) : beforeV W E a b = false := by
  unfold beforeV
  rw [if_neg]
  rintro ⟨_, h1, h2, h3⟩
  have := h3.lt hM.fits
  omega
theorem reach_g {w : World} (h : IsG w A n c F m d W E) (hM : May W E) (x : Nat) (hx : x < n) :
    Calls Tryd.prog 23 #[.agg #[.slice A n c, .slice F m d], .int .i64 x] w (GotBools (reach W.length E x) w) := by
  have := reach_any A F n c m d E x w (by have := h.ln; omega) h.hm (by have := h.lm; omega) (by have := h.ln; omega) (by rw [← h.hn]; exact hM.fits) h.pairs
  rwa [← h.hn] at this ⊢
set_option maxRecDepth 100000 in
set_option maxHeartbeats 8000000 in
theorem tells_may (K : DagOk) (w : World) (a b : Int) (a0 : -9223372036854775808 ≤ a) (a1 : a ≤ 9223372036854775807) (b0 : -9223372036854775808 ≤ b) (b1 : b ≤ 9223372036854775807) (h : IsG w A n c F m d W E) (l1 : n ≤ 70) (l2 : m ≤ 300) (hM : May W E) :
    Calls Tryd.prog 4 #[.agg #[.slice A n c, .slice F m d], .int .i64 a, .int .i64 b] w fun e w' => e = .returned (.bool true) ∧ Below w.heap.size w w' := by
  have HK := Lib.hid K
  have HTB := Lib.hid h.tab
  have HM := Lib.hid hM
  have HNN := Lib.hid h.hn
  have B0 := Lib.hid (Bx1.start h)
  have F1 := Lib.hid (fun W => few_yes A F n c m d W l1 l2)
  have e1 : orderV W E = nums (ord W.length E) := by unfold orderV; rw [if_pos hM]
  have e2 : totalV W E = W.sum := by unfold totalV; rw [if_pos hM]
  have e3 : longV W E = most (farK W E W.length) := by unfold longV; rw [if_pos hM]
  have e4 : predsV W E a = predsL W.length E a := by unfold predsV; rw [if_pos hM]
  have e5 : succsV W E a = succsL W.length E a := by unfold succsV; rw [if_pos hM]
  have hc : chkE W E = 0 := chkE_zero.mpr hM
  have C0 := Lib.hid (fun (w' : World) (h : IsG w' A n c F m d W E) => rcheck_g h)
  rw [hc] at C0
  have K1 := Lib.hid (fun (A : Option Addr) (n c : Nat) (F : Option Addr) (m d : Nat) (w' : World) (h : IsG w' A n c F m d W E) => K.order w' h)
  have K2 := Lib.hid (fun (A : Option Addr) (n c : Nat) (F : Option Addr) (m d : Nat) (w' : World) (h : IsG w' A n c F m d W E) => K.total w' h)
  have K3 := Lib.hid (fun (A : Option Addr) (n c : Nat) (F : Option Addr) (m d : Nat) (w' : World) (h : IsG w' A n c F m d W E) => K.long w' h)
  have K4 := Lib.hid (fun (A : Option Addr) (n c : Nat) (F : Option Addr) (m d : Nat) (w' : World) (h : IsG w' A n c F m d W E) => K.preds w' a a0 a1 h)
  have K5 := Lib.hid (fun (A : Option Addr) (n c : Nat) (F : Option Addr) (m d : Nat) (w' : World) (h : IsG w' A n c F m d W E) => K.succs w' a a0 a1 h)
  have K6 := Lib.hid (fun (A : Option Addr) (n c : Nat) (F : Option Addr) (m d : Nat) (w' : World) (h : IsG w' A n c F m d W E) => K.before w' a b a0 a1 b0 b1 h)
  simp only [e1] at K1
  simp only [e2] at K2
  simp only [e3] at K3
  simp only [e4] at K4
  simp only [e5] at K5
  have R1 := Lib.hid (fun (w' : World) (h : IsG w' A n c F m d W E) => rorder_g h hM)
  have R2 := Lib.hid (fun (w' : World) (h : IsG w' A n c F m d W E) => rtotal_g h hM)
  have R3 := Lib.hid (fun (w' : World) (h : IsG w' A n c F m d W E) => rlong_g h hM)
  have R4 := Lib.hid (fun (w' : World) (h : IsG w' A n c F m d W E) => rpreds_g h a)
  have R5 := Lib.hid (fun (w' : World) (h : IsG w' A n c F m d W E) => rsuccs_g h a)
  have HLO := Lib.hid (show (nums (ord W.length E)).length ≤ 900 by rw [nums_length]; exact Nat.le_trans (ordK_le (n := W.length) (E := E) W.length) (by rw [h.hn]; omega))
  have HLP := Lib.hid (show (predsL W.length E a).length ≤ 900 from Nat.le_trans (predsL_length W.length E a) (by rw [h.hn]; omega))
  have HLS := Lib.hid (show (succsL W.length E a).length ≤ 900 from Nat.le_trans (succsL_length W.length E a) (by rw [h.hn]; omega))
  obtain ⟨zo, hzo⟩ : ∃ z, z = nums (ord W.length E) := ⟨_, rfl⟩
  obtain ⟨zp, hzp⟩ : ∃ z, z = predsL W.length E a := ⟨_, rfl⟩
  obtain ⟨zu, hzu⟩ : ∃ z, z = succsL W.length E a := ⟨_, rfl⟩
  obtain ⟨zt, hzt⟩ : ∃ z, z = W.sum := ⟨_, rfl⟩
  obtain ⟨zl, hzl⟩ : ∃ z, z = most (farK W E W.length) := ⟨_, rfl⟩
  rw [← hzo] at K1 R1 HLO
  rw [← hzt] at K2 R2
  rw [← hzl] at K3 R3
  rw [← hzp] at K4 R4 HLP
  rw [← hzu] at K5 R5 HLS
  obtain ⟨p, hp⟩ : ∃ p, p = beforeV W E a b := ⟨_, rfl⟩
  have HP := Lib.hid hp
  rw [← hp] at K6
  clear K h l2 hM e1 e2 e3 e4 e5 hc hp hzo hzp hzu hzt hzl
  go_enter Tryd.func4, Tryd.ntmps4
  go_wp2_with fail
  refine (awake_any HK.out _ (HTB.out.via B0.out.bel)).mono ?_
  rintro e w1 ⟨rfl, b1⟩
  have B1 := Lib.hid (B0.out.next b1)
  clear b1
  obtain ⟨c1, c2⟩ := B1.out.cells
  go_wp2_with fail
  refine (F1.out _).mono ?_
  rintro e w2 ⟨rfl, b2⟩
  have B2 := Lib.hid (B1.out.next b2)
  clear b2 c1 c2
  obtain ⟨c1, c2⟩ := B2.out.cells
  go_wp2_with fail
  refine (C0.out _ B2.out.g).mono ?_
  rintro e w3 ⟨rfl, b3⟩
  have B3 := Lib.hid (B2.out.next b3)
  clear b3 c1 c2
  obtain ⟨c1, c2⟩ := B3.out.cells
  go_upto_region 5 with fail
  go_cut [7] from 60 to 87 (fun v wx => v = .bool p ∧ Hid (Bx1 w A n c F m d W E wx))
  case first =>
    by_cases ha0 : 0 ≤ a
    · by_cases ha1 : a < n
      · by_cases hb0 : 0 ≤ b
        · by_cases hb1 : b < n
          · obtain ⟨x, rfl⟩ : ∃ x : Nat, a = x := ⟨a.toNat, by omega⟩
            obtain ⟨y, rfl⟩ : ∃ y : Nat, b = y := ⟨b.toNat, by omega⟩
            have HX := Lib.hid (HP.out.trans (before_in HM.out x y))
            have R := Lib.hid (reach_g B3.out.g HM.out x (by omega))
            have HRL := Lib.hid (show (reach W.length E x).length = n by rw [← HNN.out]; exact reachK_length _ _ _ _)
            go_wp2_with fail
            refine R.out.mono ?_
            rintro e w4 ⟨g, cc, rfl, _, hV, b⟩
            have hcell := hV.cell (bools_at (l := reach W.length E x) (j := y) (by rw [HRL.out]; omega))
            rw [← HX.out] at hcell
            have B4 := Lib.hid (B3.out.next b)
            rw [HRL.out]
            clear b hV c1 c2
            obtain ⟨c1, c2⟩ := B4.out.cells
            go_wp2
            go_meet
            case rel => exact ⟨rfl, B4⟩
          · have HX := Lib.hid (HP.out.trans (before_out HM.out a b (by rw [HNN.out]; omega)))
            have hd : decide (b < (n : Int)) = false := decide_eq_false hb1
            go_wp2
            go_meet
            case rel => exact ⟨by rw [HX.out], B3⟩
        · have HX := Lib.hid (HP.out.trans (before_out HM.out a b (by rw [HNN.out]; omega)))
          have hd : decide (0 ≤ b) = false := decide_eq_false hb0
          go_wp2
          go_meet
          case rel => exact ⟨by rw [HX.out], B3⟩
      · have HX := Lib.hid (HP.out.trans (before_out HM.out a b (by rw [HNN.out]; omega)))
        have hd : decide (a < (n : Int)) = false := decide_eq_false ha1
        go_wp2
        go_meet
        case rel => exact ⟨by rw [HX.out], B3⟩
    · have HX := Lib.hid (HP.out.trans (before_out HM.out a b (by rw [HNN.out]; omega)))
      have hd : decide (0 ≤ a) = false := decide_eq_false ha0
      go_wp2
      go_meet
      case rel => exact ⟨by rw [HX.out], B3⟩
  case rest =>
    obtain ⟨rfl, BC⟩ := hcut
    have BCd := Lib.hid (BC.out.next (Below.refl _ _).drew)
    clear B0 B1 B2 B3 c1 c2
    go_wp2_with fail
    go_region_held3 (fun x => (x.cell? ⟨w.heap.size, 0, none⟩ = some (.slice A n c) ∧ x.cell? ⟨w.heap.size, 1, none⟩ = some (.slice F m d)) ∧ Hid (Bx1 w A n c F m d W E x))
      (first | exact ⟨BCd.out.cells, BCd⟩ | exact ⟨HB.out.cells, HB⟩)
      (first
        | (go_at_call 13; refine (own_g (b1_g (by assumption))).mono ?_; rintro e x1 ⟨Aa, ca, Fa, da, rfl, hga, b⟩; have HB := Lib.hid (b1_n (by assumption) b); have HGa := Lib.hid hga; clear b hga)
        | (go_at_call 17; refine (K1.out _ _ _ _ _ _ _ HGa.out).mono ?_; rintro e x1 ⟨Ab, cb, rfl, hI, b⟩; have HB := Lib.hid (b1_n (by assumption) b); have HIa := Lib.hid (And.intro hI HLO.out); clear b hI)
        | (go_at_call 25; refine (R1.out _ (b1_g (by assumption))).mono ?_; rintro e x1 ⟨Ab, cb, rfl, hI, b⟩; have HB := Lib.hid (b1_n (by assumption) b); have HIb := Lib.hid ((HIa.out.1.below b).more b.size); have HIa := Lib.hid (And.intro hI HLO.out); clear b hI)
        | (go_at_call 24; refine (ints_eq rfl HIa.out.2 HIb.out HIa.out.1).mono ?_; rintro e x1 ⟨rfl, b⟩; have HB := Lib.hid (b1_n (by assumption) b); clear b)
        | (go_at_call 18; refine (K2.out _ _ _ _ _ _ _ HGa.out).mono ?_; rintro e x1 ⟨rfl, b⟩; have HB := Lib.hid (b1_n (by assumption) b); clear b)
        | (go_at_call 26; refine (R2.out _ (b1_g (by assumption))).mono ?_; rintro e x1 ⟨rfl, b⟩; have HB := Lib.hid (b1_n (by assumption) b); clear b)
        | (go_at_call 19; refine (K3.out _ _ _ _ _ _ _ HGa.out).mono ?_; rintro e x1 ⟨rfl, b⟩; have HB := Lib.hid (b1_n (by assumption) b); clear b)
        | (go_at_call 27; refine (R3.out _ (b1_g (by assumption))).mono ?_; rintro e x1 ⟨rfl, b⟩; have HB := Lib.hid (b1_n (by assumption) b); clear b)
        | (go_at_call 20; refine (K4.out _ _ _ _ _ _ _ HGa.out).mono ?_; rintro e x1 ⟨Ab, cb, rfl, hI, b⟩; have HB := Lib.hid (b1_n (by assumption) b); have HIa := Lib.hid (And.intro hI HLP.out); clear b hI)
        | (go_at_call 28; refine (R4.out _ (b1_g (by assumption))).mono ?_; rintro e x1 ⟨Ab, cb, rfl, hI, b⟩; have HB := Lib.hid (b1_n (by assumption) b); have HIb := Lib.hid ((HIa.out.1.below b).more b.size); have HIa := Lib.hid (And.intro hI HLP.out); clear b hI)
        | (go_at_call 21; refine (K5.out _ _ _ _ _ _ _ HGa.out).mono ?_; rintro e x1 ⟨Ab, cb, rfl, hI, b⟩; have HB := Lib.hid (b1_n (by assumption) b); have HIa := Lib.hid (And.intro hI HLS.out); clear b hI)
        | (go_at_call 29; refine (R5.out _ (b1_g (by assumption))).mono ?_; rintro e x1 ⟨Ab, cb, rfl, hI, b⟩; have HB := Lib.hid (b1_n (by assumption) b); have HIb := Lib.hid ((HIa.out.1.below b).more b.size); have HIa := Lib.hid (And.intro hI HLS.out); clear b hI)
        | (go_at_call 22; refine (K6.out _ _ _ _ _ _ _ HGa.out).mono ?_; rintro e x1 ⟨rfl, b⟩; have HB := Lib.hid (b1_n (by assumption) b); clear b))
    go_wp2
    go_ret
    exact ⟨rfl, HB.out.bel⟩
theorem walk_DagTells (K : DagOk) (w : World) (hT : Tab64 w) (h : InG w A n c F m d W E) (a : Int) (ha : (Lit.int .i64 a).wf = true) (b : Int) (hb : (Lit.int .i64 b).wf = true) :
    Calls Tryd.prog 4 #[.agg #[.slice A n c, .slice F m d], .int .i64 a, .int .i64 b] w fun e w' => e = .returned (.bool true) ∧ Below w.heap.size w w' := by
  have ba := i64_bounds ha
  have bb := i64_bounds hb
  by_cases hf : n ≤ 70 ∧ m ≤ 300
  · by_cases hM : May W E
    · exact tells_may K w a b ba.1 ba.2 bb.1 bb.2 (h.isG hT hf.1 hf.2) hf.1 hf.2 hM
    · exact tells_not K w a b ba.1 ba.2 bb.1 bb.2 (h.isG hT hf.1 hf.2) hf.1 hf.2 hM
  · exact tells_many K w hT a b h.ln h.lm hf
end
end Go.Proofs.YtmgfbpnphdkgiaaDoor
