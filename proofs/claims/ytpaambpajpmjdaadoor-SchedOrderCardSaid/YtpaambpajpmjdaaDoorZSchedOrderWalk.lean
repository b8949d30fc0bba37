/- The walk of SchedOrder in the seat YtpaambpajpmjdaaDoor (printed by sched/mk_order.py). No statement is proved here. -/
import Derived.Test.YtpaambpajpmjdaaDoorZM19
import Derived.Test.YtpaambpajpmjdaaDoorZM6
import Derived.BigQuiet
set_option linter.unusedSimpArgs false
set_option linter.unusedVariables false
set_option linter.unusedSimpArgs false
namespace Go.Proofs.YtpaambpajpmjdaaDoor
open Go Go.RowKit

section
variable {A : Option Addr} {n c : Nat} {F : Option Addr} {m d : Nat} {W : List Int} {E : List (Int × Int)} {N : Option Addr} {nn nc : Nat} {need : List Int} {T : Option Addr} {tn tc : Nat} {t : List (List Int)}

set_option maxRecDepth 100000 in
set_option maxHeartbeats 16000000 in
theorem order_many (w0 : World) (cores : Int) (hT : Tab64 w0) (hg : InG w0 A n c F m d W E) (hs : InS w0 N nn nc T tn tc need t) (h : ¬ ((n ≤ 70 ∧ m ≤ 300) ∧ FewS need t)) : Calls Tryd.prog 6 #[.agg #[.slice A n c, .slice F m d], .slice N nn nc, .int .i64 cores, .slice T tn tc] w0 fun e w' => e = .returned (.bool true) ∧ Below w0.heap.size w0 w' := by
  have HTW := Lib.hid (fun W (h : Below w0.heap.size w0 W) => Tab64.via hT h)
  have B0 := Lib.hid (BxB.start (Below.refl w0.heap.size w0) A n c F m d)
  by_cases hd : n ≤ 70 ∧ m ≤ 300
  · have F1 := Lib.hid (fun W => few_yes A F n c m d W hd.1 hd.2)
    have F2 := Lib.hid (fun W (hb : Below w0.heap.size w0 W) => rfew_any (N := N) (nc := nc) (tc := tc) false ⟨fun e => absurd e (by decide), fun q => absurd ⟨hd, q⟩ h⟩ w0.heap.size W hs.hn hs.ht hs.ln hs.lt hs.lr (hs.rows.below hb))
    clear hg hs h hd hT
    go_enter Tryd.func6, Tryd.ntmps6
    go_wp2_with fail
    refine (awake10_any _ (HTW.out _ B0.out.bel)).mono ?_
    rintro e y1 ⟨rfl, b⟩
    have B1 := Lib.hid (B0.out.next b)
    clear b
    obtain ⟨q0, q1⟩ := B1.out.cells
    go_wp2_with fail
    refine (F1.out _).mono ?_
    rintro e y2 ⟨rfl, b⟩
    have B2 := Lib.hid (B1.out.next b)
    clear b q0 q1
    go_wp2_with fail
    refine (F2.out _ B2.out.bel).mono ?_
    rintro e y2' ⟨rfl, rfl⟩
    go_wp2_with fail
    refine (awake10_any _ (HTW.out _ B2.out.bel)).mono ?_
    rintro e y3 ⟨rfl, b⟩
    have B3 := Lib.hid (B2.out.next b)
    clear b
    go_wp2_with fail
    go_ret
    exact ⟨rfl, B3.out.bel⟩
  · have F1 := Lib.hid (fun W => few_no A F n c m d W hg.ln hg.lm hd)
    clear hg hs h hd hT
    go_enter Tryd.func6, Tryd.ntmps6
    go_wp2_with fail
    refine (awake10_any _ (HTW.out _ B0.out.bel)).mono ?_
    rintro e y1 ⟨rfl, b⟩
    have B1 := Lib.hid (B0.out.next b)
    clear b
    obtain ⟨q0, q1⟩ := B1.out.cells
    go_wp2_with fail
    refine (F1.out _).mono ?_
    rintro e y2 ⟨rfl, b⟩
    have B2 := Lib.hid (B1.out.next b)
    clear b q0 q1
    go_wp2_with fail
    refine (awake10_any _ (HTW.out _ B2.out.bel)).mono ?_
    rintro e y3 ⟨rfl, b⟩
    have B3 := Lib.hid (B2.out.next b)
    clear b
    go_wp2_with fail
    go_ret
    exact ⟨rfl, B3.out.bel⟩

set_option maxRecDepth 100000 in
set_option maxHeartbeats 64000000 in
theorem order_few (w0 : World) (cores : Int) (hG : IsG w0 A n c F m d W E) (hS0 : IsS w0 N nn nc T tn tc need t) (l1 : n ≤ 70) (l2 : m ≤ 300) (hf : FewS need t) : Calls Tryd.prog 6 #[.agg #[.slice A n c, .slice F m d], .slice N nn nc, .int .i64 cores, .slice T tn tc] w0 fun e w' => e = .returned (.bool true) ∧ Below w0.heap.size w0 w' := by
  have HTW := Lib.hid (fun W (h : Below w0.heap.size w0 W) => Tab64.via hG.tab h)
  have HG := Lib.hid (fun W' (h : Below w0.heap.size w0 W') => hG.below h)
  have HS := Lib.hid (fun W' (h : Below w0.heap.size w0 W') => hS0.below h)
  have HZ := Lib.hid hS0
  have B0 := Lib.hid (BxB.start (Below.refl w0.heap.size w0) A n c F m d)
  have F1 := Lib.hid (fun W => few_yes A F n c m d W l1 l2)
  have F2 := Lib.hid (fun W (hb : Below w0.heap.size w0 W) => rfew_any (N := N) (nc := nc) (tc := tc) true ⟨fun _ => hf, fun _ => rfl⟩ w0.heap.size W hS0.hn hS0.ht (by have := hS0.ln; omega) (by have := hS0.lt; omega) (fun r hr => by have := hS0.lr r hr; omega) (hS0.rows.below hb))
  have hnn : nn ≤ 70 := by have := hf.1; have := hS0.hn; omega
  have htn : tn ≤ 120 := by have := hf.2.1; have := hS0.ht; omega
  obtain ⟨z, hz⟩ : ∃ z, z = schedE W E need cores t := ⟨_, rfl⟩
  have HZE := Lib.hid hz
  have hmm : m ≤ 300 := l2
  clear hG hS0 hf hz
  go_enter Tryd.func6, Tryd.ntmps6
  go_wp2_with fail
  refine (awake10_any _ (HTW.out _ B0.out.bel)).mono ?_
  rintro e y1 ⟨rfl, b⟩
  have B1 := Lib.hid (B0.out.next b)
  clear b
  obtain ⟨q0, q1⟩ := B1.out.cells
  go_wp2_with fail
  refine (F1.out _).mono ?_
  rintro e y2 ⟨rfl, b⟩
  have B2 := Lib.hid (B1.out.next b)
  clear b q0 q1
  go_wp2_with fail
  refine (F2.out _ B2.out.bel).mono ?_
  rintro e y2' ⟨rfl, rfl⟩
  obtain ⟨q0, q1⟩ := B2.out.cells
  go_wp2_with fail
  refine (own_g10 (HG.out _ B2.out.bel)).mono ?_
  rintro e y3 ⟨Ad1, cd1, Fd1, dd1, rfl, hg, b⟩
  have B3 := Lib.hid (B2.out.next b)
  have HGd := Lib.hid hg
  clear b hg q0 q1
  go_wp2_with fail
  refine (ints10_any _ HZ.out.hn (by have := HZ.out.ln; omega) (HS.out _ B3.out.bel).ints HZ.out.hN).mono ?_
  rintro e y4 ⟨An1, cn1, rfl, hI, hN, b⟩
  have B4 := Lib.hid (B3.out.next b)
  have HGI := Lib.hid (And.intro (HGd.out.below b) (And.intro hI hN))
  clear b hI hN HGd
  go_wp2_with fail
  refine (sown_any _ HZ.out.ht HZ.out.lt HZ.out.lr (HS.out _ B4.out.bel).rows).mono ?_
  rintro e y5 ⟨At1, ct1, rfl, hT, hN, b⟩
  have B5 := Lib.hid (B4.out.next b)
  have HA1 := Lib.hid (And.intro (HGI.out.1.below b) (mkS HZ.out ((HGI.out.2.1.below b).more b.size) HGI.out.2.2 hT hN))
  clear b hT hN HGI
  go_wp2_with fail
  refine (scheck_any cores _ HA1.out.1 HA1.out.2).mono ?_
  rintro e y6 ⟨rfl, b⟩
  have B6 := Lib.hid (B5.out.next b)
  rw [← HZE.out]
  clear b HA1 B0 B1 B2 B3 B4 B5
  by_cases hz : z = 0
  · subst hz
    obtain ⟨k0, hk0, hok⟩ := schedE_zero.mp HZE.out.symm
    subst hk0
    have HOK := Lib.hid hok
    have HE := Lib.hid (endsV_ok HZE.out.symm)
    have hk8 : k0 ≤ 8 := by have := hok.form.2.2.2; omega
    have HFIT : Hid (Fits need.length E) := Lib.hid (by rw [hok.form.1]; exact hok.may.fits)
    have HEB := Lib.hid (fun (x : Int) => (by
      rcases endV_cases (need := need) (t := t) x with ⟨h, _⟩ | ⟨k, h, h2, _⟩
      · omega
      · have := HZ.out.ht; omega : -1 ≤ endV need t x ∧ endV need t x ≤ 120))
    have HNB := Lib.hid (fun (z : Int) (hz : z ∈ need) => hok.form.2.1 z hz)
    clear hok
    obtain ⟨q0, q1⟩ := B6.out.cells
    go_wp2_with fail
    refine (own_g10 (HG.out _ B6.out.bel)).mono ?_
    rintro e y7 ⟨Ad2, cd2, Fd2, dd2, rfl, hg, b⟩
    have B7 := Lib.hid (B6.out.next b)
    have HGd := Lib.hid hg
    clear b hg q0 q1
    go_wp2_with fail
    refine (ints10_any _ HZ.out.hn (by have := HZ.out.ln; omega) (HS.out _ B7.out.bel).ints HZ.out.hN).mono ?_
    rintro e y8 ⟨An2, cn2, rfl, hI, hN, b⟩
    have B8 := Lib.hid (B7.out.next b)
    have HGI := Lib.hid (And.intro (HGd.out.below b) (And.intro hI hN))
    clear b hI hN HGd
    go_wp2_with fail
    refine (sown_any _ HZ.out.ht HZ.out.lt HZ.out.lr (HS.out _ B8.out.bel).rows).mono ?_
    rintro e y9 ⟨At2, ct2, rfl, hT, hN, b⟩
    have B9 := Lib.hid (B8.out.next b)
    have HA2 := Lib.hid (And.intro (HGI.out.1.below b) (mkS HZ.out ((HGI.out.2.1.below b).more b.size) HGI.out.2.2 hT hN))
    clear b hT hN HGI
    go_wp2_with fail
    refine (ends_any (k0 : Int) _ HA2.out.1 HA2.out.2).mono ?_
    rintro e y10 ⟨Ae, ce, rfl, hIe, b⟩
    have B10 := Lib.hid (B9.out.next b)
    rw [HE.out] at hIe ⊢
    have HIE := Lib.hid hIe
    rw [List.length_map, List.length_range, HZ.out.hn]
    have hne : ((nn : Int) != (nn : Int)) = false := by simp
    clear b hIe HA2 B6 B7 B8 B9
    go_wp2
    go_loopw [10] (fun v wr => ∃ k : Nat, k ≤ nn ∧ v = .int .i64 k ∧ Hid (Below y10.heap.size y10 wr)) (fun v _ => nn - (intOf v).toNat)
    case atStart => exact ⟨0, Nat.zero_le _, rfl, Lib.hid (Below.refl _ _)⟩
    case round =>
      obtain ⟨k, hk, rfl, HBL⟩ := hrel
      obtain ⟨wz, hwz⟩ : ∃ wz, wz = wr := ⟨_, rfl⟩
      subst hwz
      by_cases hlt : k < nn
      · obtain ⟨s, m2, c0, hrz⟩ := HOK.out.good.runZ (x := (k : Int)) (by omega)
        have HRZ := Lib.hid hrz
        have hkn : k < need.length := by rw [HZ.out.hn]; exact hlt
        have hdone := hrz.done HOK.out.good (fun z hz => (HOK.out.form.2.1 z hz).1) (by omega) (by omega)
        have HWT := Lib.hid (fun (hm : 0 < m2) (e : Int × Int) (he : e ∈ E) (hx : e.2 = (k : Int)) => hrz.waits HOK.out.good (by omega) hm he hx)
        have hsm : s + m2 ≤ tn := by have := hrz.le; have := HZ.out.ht; omega
        have HC0 := Lib.hid hrz.lt
        have HBW := Lib.hid (B10.out.next HBL.out)
        obtain ⟨bn, on, z, hN, hbn, hzq, hcz⟩ := (HS.out _ HBW.out.bel).ints.at_ (k := k) hkn
        subst hN
        obtain ⟨be, oe, ez, hAe, hbe, hze, hce0⟩ := HIE.out.at_ (k := k) (by rw [List.length_map, List.length_range]; exact hkn)
        subst hAe
        have hEV : endV need t (k : Int) = ez := by
          rw [List.getElem?_map, List.getElem?_range hkn] at hze
          simpa using hze
        have hce := (HBL.out.cell (p := ⟨be, oe + k, none⟩) hbe).trans hce0
        have hbe2 := Nat.lt_of_lt_of_le hbe HBL.out.size
        have hZ : needT need (k : Int) = z := by rw [needT_nat, List.getD_eq_getElem?_getD, hzq]; rfl
        have hzb := HNB.out z (List.mem_of_getElem? hzq)
        have hezb := HEB.out (k : Int)
        rw [hEV] at hezb
        rw [hEV, hZ] at hdone
        have HDN := Lib.hid hdone
        clear hrz hdone hzq hze hce0 hEV hZ
        go_wp2
        go_loop [11, 12, 13, 14] (fun fv mv av v => ∃ i : Nat, i ≤ tn ∧ v = .int .i64 i ∧ fv = .int .i64 (fstV s (cntA s m2 i)) ∧ mv = .int .i64 (cntA s m2 i) ∧ av = .int .i64 (fstV c0 (cntA s m2 i))) (fun _ _ _ v => tn - (intOf v).toNat)
        case atStart => exact ⟨0, Nat.zero_le _, rfl, by simp [cntA, fstV], by simp [cntA], by simp [cntA, fstV]⟩
        case round =>
          obtain ⟨i, hi, rfl, rfl, rfl, rfl⟩ := hrel
          by_cases hlt2 : i < tn
          · obtain ⟨bt, ot, row, A1, n1, c1, rfl, hbt, hrow, hn1, hcell0, hints, hnil⟩ := HZ.out.rows.at_ (k := i) (by rw [HZ.out.ht]; exact hlt2)
            obtain rfl : n1 = k0 := hn1.symm.trans (HOK.out.good.rows row (List.mem_of_getElem? hrow))
            have hcell := (HBW.out.bel.cell (p := ⟨bt, ot + i, none⟩) hbt).trans hcell0
            have hbt2 := Nat.lt_of_lt_of_le hbt HBW.out.bel.size
            have HI1 := Lib.hid hints
            have HN1 := Lib.hid hn1
            have HROW := Lib.hid hrow
            have HIT : Hid (i < t.length) := Lib.hid (by rw [HZ.out.ht]; exact hlt2)
            clear hints hrow hn1 hnil hcell0
            go_wp2
            go_loop [11, 12, 13, 15] (fun fv mv av v => ∃ q : Nat, q ≤ n1 ∧ v = .int .i64 q ∧ fv = .int .i64 (fstV s (cntB s m2 c0 i q)) ∧ mv = .int .i64 (cntB s m2 c0 i q) ∧ av = .int .i64 (fstV c0 (cntB s m2 c0 i q))) (fun _ _ _ v => n1 - (intOf v).toNat)
            case atStart => exact ⟨0, Nat.zero_le _, rfl, by rw [cntB_zero], by rw [cntB_zero], by rw [cntB_zero]⟩
            case round =>
              obtain ⟨q, hq, rfl, rfl, rfl, rfl⟩ := hrel
              by_cases hlt3 : q < n1
              · obtain ⟨bk, off, x, rfl, hbk, hxk, hcx0⟩ := HI1.out.at_ (k := q) (by rw [HN1.out]; exact hlt3)
                have hcx := (HBW.out.bel.cell (p := ⟨bk, off + q, none⟩) hbk).trans hcx0
                have hbk2 := Nat.lt_of_lt_of_le hbk HBW.out.bel.size
                have hnum := numT_at HROW.out hxk
                clear hxk hcx0
                by_cases hx : x = (k : Int)
                · subst hx
                  obtain ⟨h1, h2, h3, h4⟩ := HRZ.out.hit HIT.out hlt3 hnum
                  subst h2
                  rw [h3]
                  have HH4 := Lib.hid h4
                  have h10 : fstV s (i - s + 1) = (s : Int) := by unfold fstV; rw [if_neg (by omega)]
                  have h11 : fstV q (i - s + 1) = (q : Int) := by unfold fstV; rw [if_neg (by omega)]
                  have H10 := Lib.hid h10
                  have H11 := Lib.hid h11
                  clear hnum h3 h4 h10 h11
                  by_cases h5 : i = s
                  · subst h5
                    have e0 : i - i = 0 := by omega
                    have e1 : fstV i 0 = -1 := rfl
                    have e2 : fstV q 0 = -1 := rfl
                    rw [e0, e1, e2]
                    rw [e0] at HH4 H10 H11
                    clear e0 e1 e2
                    have hqq : ((q : Int) != (q : Int)) = false := by simp
                    have hii : ((i : Int) != (i : Int)) = false := by simp
                    go_wp2
                    go_round
                    case rel => exact ⟨q + 1, by omega, by go_num, by rw [HH4.out, H10.out], by rw [HH4.out]; go_num, by rw [HH4.out, H11.out]⟩
                    case measure => simp [intOf]; omega
                  · obtain ⟨r, hr⟩ : ∃ r : Nat, i = s + (r + 1) := ⟨i - s - 1, by omega⟩
                    have e0 : i - s = r + 1 := by omega
                    have e1 : fstV s (r + 1) = (s : Int) := by unfold fstV; rw [if_neg (by omega)]
                    have e2 : fstV q (r + 1) = (q : Int) := by unfold fstV; rw [if_neg (by omega)]
                    rw [e0, e1, e2]
                    rw [e0] at HH4 H10 H11
                    have hqq : ((q : Int) != (q : Int)) = false := by simp
                    have hii : ((i : Int) != (s : Int) + ((r + 1 : Nat) : Int)) = false := by rw [hr]; simp
                    have hsf : decide ((s : Int) < 0) = false := decide_eq_false (by omega)
                    have hrb : r + 1 ≤ 120 := by omega
                    obtain ⟨r1, hr1⟩ : ∃ r1, r1 = r + 1 := ⟨_, rfl⟩
                    rw [← hr1] at hii HH4 H10 H11 hrb ⊢
                    clear e0 e1 e2 hr h5 hr1
                    go_wp2
                    go_round
                    case rel => exact ⟨q + 1, by omega, by go_num, by rw [HH4.out, H10.out], by rw [HH4.out]; go_num, by rw [HH4.out, H11.out]⟩
                    case measure => simp [intOf]; omega
                · have HMS := Lib.hid (HRZ.out.miss HIT.out hlt3 (by rw [hnum]; exact hx))
                  have hne2 : (x != (k : Int)) = true := bne_iff_ne.mpr hx
                  clear hnum hx
                  go_wp2
                  go_round
                  case rel => exact ⟨q + 1, by omega, by go_num, by rw [HMS.out], by rw [HMS.out], by rw [HMS.out]⟩
                  case measure => simp [intOf]; omega
              · obtain rfl : q = n1 := by omega
                have HNX := Lib.hid (HRZ.out.next i)
                go_wp2
                go_round
                case rel => exact ⟨i + 1, by omega, by go_num, by rw [HNX.out], by rw [HNX.out], by rw [HNX.out]⟩
                case measure => simp [intOf]; omega
          · obtain rfl : i = tn := by omega
            have hend : cntA s m2 i = m2 := by have := HRZ.out.end_; rwa [HZ.out.ht] at this
            rw [hend]
            clear hend
            obtain ⟨hdn1, hdn2, hdn3⟩ := HDN.out
            have hmg : decide (z < (m2 : Int)) = false := decide_eq_false (by omega)
            by_cases hez : 0 ≤ ez
            · have hez1 : decide (0 ≤ ez) = true := decide_eq_true hez
              have hmz : ((m2 : Int) == z) = true := by rw [beq_iff_eq]; exact hdn1.mp hez
              have hm0' : m2 ≠ 0 := by have := hdn1.mp hez; omega
              have hfs0 : fstV s m2 = (s : Int) := by unfold fstV; rw [if_neg hm0']
              have hez2 : (ez != (s : Int) + z) = false := by rw [hdn2 hez]; simp
              have hsb : (s : Int) + z ≤ 2000 := by omega
              rw [hfs0]
              clear hdn1 hdn2 hfs0 hez
              have HPR := Lib.hid (HG.out _ HBW.out.bel)
              go_wp2
              go_quiet (fail)
              go_wp2
              go_loopw [16] (fun v wi => ∃ q : Nat, q ≤ m ∧ v = .int .i64 q ∧ Hid (Below wz.heap.size wz wi)) (fun v _ => m - (intOf v).toNat)
              case atStart => exact ⟨0, Nat.zero_le _, rfl, Lib.hid (below_drewN (Below.refl _ _) _)⟩
              case round =>
                obtain ⟨q, hq, rfl, HBI⟩ := hrel
                have HBX := Lib.hid (HBW.out.next HBI.out)
                obtain ⟨p0, p1⟩ := HBX.out.cells
                have hgs := World.block_lt_of_cell? _ _ p1
                by_cases hlt4 : q < m
                · by_cases hm0 : 0 < m2
                  · obtain ⟨bg, og, ⟨ex, ey⟩, hF, hbg, hek, hg1, hg2⟩ := HPR.out.pairs.at_ (k := q) (by rw [HPR.out.hm]; exact hlt4)
                    subst hF
                    simp only at hg1 hg2
                    have hfit := HFIT.out _ (List.mem_of_getElem? hek)
                    simp only at hfit
                    obtain ⟨fq, rfl⟩ : ∃ fq : Nat, ex = (fq : Int) := ⟨ex.toNat, by omega⟩
                    have hfq : fq < need.length := by omega
                    have hfn : fq < nn := by rw [← HZ.out.hn]; exact hfq
                    obtain ⟨be2, oe2, ef, e1, hbf, hzf, hcf⟩ := HIE.out.at_ (k := fq) (by rw [List.length_map, List.length_range]; exact hfq)
                    injection e1 with e1
                    injection e1 with e2 e3 _
                    subst e2 e3
                    have hEF : endV need t (fq : Int) = ef := by
                      rw [List.getElem?_map, List.getElem?_range hfq] at hzf
                      simpa using hzf
                    have hd1 := (HBI.out.cell (p := ⟨bg, og + q * 2, none⟩) hbg).trans hg1
                    have hd2 := (HBI.out.cell (p := ⟨bg, og + q * 2 + 1, none⟩) hbg).trans hg2
                    have hd3 := ((HBL.out.trans (HBI.out.mono HBL.out.size)).cell (p := ⟨be, oe + fq, none⟩) hbf).trans hcf
                    have hbg2 := Nat.lt_of_lt_of_le hbg HBI.out.size
                    have hbe3 := Nat.lt_of_lt_of_le hbe2 HBI.out.size
                    have HW2 := Lib.hid (fun hx => HWT.out hm0 ((fq : Int), ey) (List.mem_of_getElem? hek) hx)
                    simp only [hEF] at HW2
                    clear hek hg1 hg2 hzf hcf hEF hfit hfq
                    by_cases hy : ey = (k : Int)
                    · obtain ⟨h1, h2⟩ := HW2.out hy
                      subst hy
                      have hef1 : decide (ef < 0) = false := decide_eq_false (by omega)
                      have hef2 : decide ((s : Int) < ef) = false := decide_eq_false (by omega)
                      go_wp2
                      go_roundw
                      case rel => exact ⟨q + 1, by omega, by go_num, HBI⟩
                      case measure => simp [intOf]; omega
                    · have hyf : (ey == (k : Int)) = false := by simpa using hy
                      clear hy
                      go_wp2
                      go_roundw
                      case rel => exact ⟨q + 1, by omega, by go_num, HBI⟩
                      case measure => simp [intOf]; omega
                  · exact absurd (Nat.pos_of_ne_zero hm0') hm0
                · obtain rfl : q = m := by omega
                  go_wp2
                  go_roundw
                  case rel => exact ⟨k + 1, by omega, by go_num, Lib.hid (HBL.out.trans (HBI.out.mono HBL.out.size))⟩
                  case measure => simp [intOf]; omega
            · have hez1 : decide (0 ≤ ez) = false := decide_eq_false hez
              have hmz : ((m2 : Int) == z) = false := by
                rw [beq_eq_false_iff_ne]
                exact fun q => hez (hdn1.mpr q)
              clear hdn1 hdn2
              have HPR := Lib.hid (HG.out _ HBW.out.bel)
              go_wp2
              go_quiet (fail)
              go_wp2
              go_loopw [16] (fun v wi => ∃ q : Nat, q ≤ m ∧ v = .int .i64 q ∧ Hid (Below wz.heap.size wz wi)) (fun v _ => m - (intOf v).toNat)
              case atStart => exact ⟨0, Nat.zero_le _, rfl, Lib.hid (below_drewN (Below.refl _ _) _)⟩
              case round =>
                obtain ⟨q, hq, rfl, HBI⟩ := hrel
                have HBX := Lib.hid (HBW.out.next HBI.out)
                obtain ⟨p0, p1⟩ := HBX.out.cells
                have hgs := World.block_lt_of_cell? _ _ p1
                by_cases hlt4 : q < m
                · by_cases hm0 : 0 < m2
                  · obtain ⟨bg, og, ⟨ex, ey⟩, hF, hbg, hek, hg1, hg2⟩ := HPR.out.pairs.at_ (k := q) (by rw [HPR.out.hm]; exact hlt4)
                    subst hF
                    simp only at hg1 hg2
                    have hfit := HFIT.out _ (List.mem_of_getElem? hek)
                    simp only at hfit
                    obtain ⟨fq, rfl⟩ : ∃ fq : Nat, ex = (fq : Int) := ⟨ex.toNat, by omega⟩
                    have hfq : fq < need.length := by omega
                    have hfn : fq < nn := by rw [← HZ.out.hn]; exact hfq
                    obtain ⟨be2, oe2, ef, e1, hbf, hzf, hcf⟩ := HIE.out.at_ (k := fq) (by rw [List.length_map, List.length_range]; exact hfq)
                    injection e1 with e1
                    injection e1 with e2 e3 _
                    subst e2 e3
                    have hEF : endV need t (fq : Int) = ef := by
                      rw [List.getElem?_map, List.getElem?_range hfq] at hzf
                      simpa using hzf
                    have hd1 := (HBI.out.cell (p := ⟨bg, og + q * 2, none⟩) hbg).trans hg1
                    have hd2 := (HBI.out.cell (p := ⟨bg, og + q * 2 + 1, none⟩) hbg).trans hg2
                    have hd3 := ((HBL.out.trans (HBI.out.mono HBL.out.size)).cell (p := ⟨be, oe + fq, none⟩) hbf).trans hcf
                    have hbg2 := Nat.lt_of_lt_of_le hbg HBI.out.size
                    have hbe3 := Nat.lt_of_lt_of_le hbe2 HBI.out.size
                    have HW2 := Lib.hid (fun hx => HWT.out hm0 ((fq : Int), ey) (List.mem_of_getElem? hek) hx)
                    simp only [hEF] at HW2
                    clear hek hg1 hg2 hzf hcf hEF hfit hfq
                    have hfs : fstV s m2 = (s : Int) := by unfold fstV; rw [if_neg (by omega)]
                    rw [hfs]
                    clear hfs
                    by_cases hy : ey = (k : Int)
                    · obtain ⟨h1, h2⟩ := HW2.out hy
                      subst hy
                      have hef1 : decide (ef < 0) = false := decide_eq_false (by omega)
                      have hef2 : decide ((s : Int) < ef) = false := decide_eq_false (by omega)
                      go_wp2
                      go_roundw
                      case rel => exact ⟨q + 1, by omega, by go_num, HBI⟩
                      case measure => simp [intOf]; omega
                    · have hyf : (ey == (k : Int)) = false := by simpa using hy
                      clear hy
                      go_wp2
                      go_roundw
                      case rel => exact ⟨q + 1, by omega, by go_num, HBI⟩
                      case measure => simp [intOf]; omega
                  · have hfs : fstV s m2 = -1 := by unfold fstV; rw [if_pos (by omega)]
                    rw [hfs]
                    clear hfs
                    go_wp2
                    go_roundw
                    case rel => exact ⟨k + 1, by omega, by go_num, Lib.hid (HBL.out.trans (HBI.out.mono HBL.out.size))⟩
                    case measure => simp [intOf]; omega
                · obtain rfl : q = m := by omega
                  go_wp2
                  go_roundw
                  case rel => exact ⟨k + 1, by omega, by go_num, Lib.hid (HBL.out.trans (HBI.out.mono HBL.out.size))⟩
                  case measure => simp [intOf]; omega
      · obtain rfl : k = nn := by omega
        go_wp2
        go_ret
        exact ⟨rfl, (B10.out.next HBL.out).bel⟩
  · have hne : (z != 0) = true := bne_iff_ne.mpr hz
    clear hz
    go_wp2_with fail
    refine (awake10_any _ (HTW.out _ B6.out.bel)).mono ?_
    rintro e y7 ⟨rfl, b⟩
    have B7 := Lib.hid (B6.out.next b)
    clear b
    go_wp2_with fail
    go_ret
    exact ⟨rfl, B7.out.bel⟩
theorem walk_SchedOrder (w0 : World) (hg : InG w0 A n c F m d W E) (hN : InN w0 N nn nc need) (cores : Int) (hc : -9223372036854775808 ≤ cores ∧ cores ≤ 9223372036854775807) (hT' : InT w0 T tn tc t) (hT : Tab64 w0) : Calls Tryd.prog 6 #[.agg #[.slice A n c, .slice F m d], .slice N nn nc, .int .i64 cores, .slice T tn tc] w0 fun e w' => e = .returned (.bool true) ∧ Below w0.heap.size w0 w' := by
  have hs := hN.with hT'
  by_cases h : (n ≤ 70 ∧ m ≤ 300) ∧ FewS need t
  · exact order_few w0 cores (hg.isG hT h.1.1 h.1.2) (hs.isS h.2) h.1.1 h.1.2 h.2
  · exact order_many w0 cores hT hg hs h
end
end Go.Proofs.YtpaambpajpmjdaaDoor
