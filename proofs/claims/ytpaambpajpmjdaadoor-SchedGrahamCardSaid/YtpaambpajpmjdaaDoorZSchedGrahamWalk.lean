/- The walk of SchedGraham in the seat YtpaambpajpmjdaaDoor (printed by sched/mk_graham.py). No statement is proved here. -/
import Derived.Test.YtpaambpajpmjdaaDoorZM19
import Derived.Test.YtpaambpajpmjdaaDoorZSchedBusyC
set_option linter.unusedSimpArgs false
set_option linter.unusedVariables false
set_option linter.unusedSimpArgs false
namespace Go.Proofs.YtpaambpajpmjdaaDoor
open Go Go.RowKit

section
variable {A : Option Addr} {n c : Nat} {F : Option Addr} {m d : Nat} {W : List Int} {E : List (Int × Int)} {N : Option Addr} {nn nc : Nat} {need : List Int} {T : Option Addr} {tn tc : Nat} {t : List (List Int)}

set_option maxRecDepth 100000 in
set_option maxHeartbeats 16000000 in
theorem graham_many (w0 : World) (cores : Int) (hT : Tab64 w0) (hg : InG w0 A n c F m d W E) (hs : InS w0 N nn nc T tn tc need t) (h : ¬ ((n ≤ 70 ∧ m ≤ 300) ∧ FewS need t)) : Calls Tryd.prog 5 #[.agg #[.slice A n c, .slice F m d], .slice N nn nc, .int .i64 cores, .slice T tn tc] w0 fun e w' => e = .returned (.bool true) ∧ Below w0.heap.size w0 w' := by
  have HTW := Lib.hid (fun W (h : Below w0.heap.size w0 W) => Tab64.via hT h)
  have B0 := Lib.hid (BxB.start (Below.refl w0.heap.size w0) A n c F m d)
  by_cases hd : n ≤ 70 ∧ m ≤ 300
  · have F1 := Lib.hid (fun W => few_yes A F n c m d W hd.1 hd.2)
    have F2 := Lib.hid (fun W (hb : Below w0.heap.size w0 W) => rfew_any (N := N) (nc := nc) (tc := tc) false ⟨fun e => absurd e (by decide), fun q => absurd ⟨hd, q⟩ h⟩ w0.heap.size W hs.hn hs.ht hs.ln hs.lt hs.lr (hs.rows.below hb))
    clear hg hs h hd hT
    go_enter Tryd.func5, Tryd.ntmps5
    go_wp2_with fail
    refine (awake10_any _ (HTW.out _ B0.out.bel)).mono ?_
    rintro e y1 ⟨rfl, b⟩
    have B1 := Lib.hid (B0.out.next b)
    clear b
    obtain ⟨q0, q1⟩ := B1.out.cells
    go_wp2_with fail
    refine (F1.out _).mono ?_
    rintro e y2 ⟨rfl, b⟩
    have B2 := Lib.hid (B1.out.next b)
    clear b q0 q1
    go_wp2_with fail
    refine (F2.out _ B2.out.bel).mono ?_
    rintro e y2' ⟨rfl, rfl⟩
    go_wp2_with fail
    refine (awake10_any _ (HTW.out _ B2.out.bel)).mono ?_
    rintro e y3 ⟨rfl, b⟩
    have B3 := Lib.hid (B2.out.next b)
    clear b
    go_wp2_with fail
    go_ret
    exact ⟨rfl, B3.out.bel⟩
  · have F1 := Lib.hid (fun W => few_no A F n c m d W hg.ln hg.lm hd)
    clear hg hs h hd hT
    go_enter Tryd.func5, Tryd.ntmps5
    go_wp2_with fail
    refine (awake10_any _ (HTW.out _ B0.out.bel)).mono ?_
    rintro e y1 ⟨rfl, b⟩
    have B1 := Lib.hid (B0.out.next b)
    clear b
    obtain ⟨q0, q1⟩ := B1.out.cells
    go_wp2_with fail
    refine (F1.out _).mono ?_
    rintro e y2 ⟨rfl, b⟩
    have B2 := Lib.hid (B1.out.next b)
    clear b q0 q1
    go_wp2_with fail
    refine (awake10_any _ (HTW.out _ B2.out.bel)).mono ?_
    rintro e y3 ⟨rfl, b⟩
    have B3 := Lib.hid (B2.out.next b)
    clear b
    go_wp2_with fail
    go_ret
    exact ⟨rfl, B3.out.bel⟩

set_option maxRecDepth 100000 in
set_option maxHeartbeats 16000000 in
theorem graham_few (w0 : World) (cores : Int) (hG : IsG w0 A n c F m d W E) (hS0 : IsS w0 N nn nc T tn tc need t) (l1 : n ≤ 70) (l2 : m ≤ 300) (hf : FewS need t) : Calls Tryd.prog 5 #[.agg #[.slice A n c, .slice F m d], .slice N nn nc, .int .i64 cores, .slice T tn tc] w0 fun e w' => e = .returned (.bool true) ∧ Below w0.heap.size w0 w' := by
  have HTW := Lib.hid (fun W (h : Below w0.heap.size w0 W) => Tab64.via hG.tab h)
  have HG := Lib.hid (fun W' (h : Below w0.heap.size w0 W') => hG.below h)
  have HS := Lib.hid (fun W' (h : Below w0.heap.size w0 W') => hS0.below h)
  have HZ := Lib.hid hS0
  have B0 := Lib.hid (BxB.start (Below.refl w0.heap.size w0) A n c F m d)
  have F1 := Lib.hid (fun W => few_yes A F n c m d W l1 l2)
  have F2 := Lib.hid (fun W (hb : Below w0.heap.size w0 W) => rfew_any (N := N) (nc := nc) (tc := tc) true ⟨fun _ => hf, fun _ => rfl⟩ w0.heap.size W hS0.hn hS0.ht (by have := hS0.ln; omega) (by have := hS0.lt; omega) (fun r hr => by have := hS0.lr r hr; omega) (hS0.rows.below hb))
  have hnn : nn ≤ 70 := by have := hf.1; have := hS0.hn; omega
  have htn : tn ≤ 120 := by have := hf.2.1; have := hS0.ht; omega
  have HNG := Lib.hid (fun W' (hb : Below w0.heap.size w0 W') => (by
    have h := hG.below hb
    exact ⟨hS0.hn, h.hm, by omega, h.lm, (hS0.ints.below hb).more hb.size, h.pairs, hS0.hN, h.hF, h.tab⟩ : IsG W' N nn nc F m d need E))
  obtain ⟨gb, hgb⟩ : ∃ z, z = greedyB W E need cores t := ⟨_, rfl⟩
  have HGB := Lib.hid hgb
  clear hG hS0 hf hgb
  go_enter Tryd.func5, Tryd.ntmps5
  go_wp2_with fail
  refine (awake10_any _ (HTW.out _ B0.out.bel)).mono ?_
  rintro e y1 ⟨rfl, b⟩
  have B1 := Lib.hid (B0.out.next b)
  clear b
  obtain ⟨q0, q1⟩ := B1.out.cells
  go_wp2_with fail
  refine (F1.out _).mono ?_
  rintro e y2 ⟨rfl, b⟩
  have B2 := Lib.hid (B1.out.next b)
  clear b q0 q1
  go_wp2_with fail
  refine (F2.out _ B2.out.bel).mono ?_
  rintro e y2' ⟨rfl, rfl⟩
  obtain ⟨q0, q1⟩ := B2.out.cells
  go_wp2_with fail
  refine (own_g10 (HG.out _ B2.out.bel)).mono ?_
  rintro e y3 ⟨Ad1, cd1, Fd1, dd1, rfl, hg, b⟩
  have B3 := Lib.hid (B2.out.next b)
  have HGd := Lib.hid hg
  clear b hg q0 q1
  go_wp2_with fail
  refine (ints10_any _ HZ.out.hn (by have := HZ.out.ln; omega) (HS.out _ B3.out.bel).ints HZ.out.hN).mono ?_
  rintro e y4 ⟨An1, cn1, rfl, hI, hN, b⟩
  have B4 := Lib.hid (B3.out.next b)
  have HGI := Lib.hid (And.intro (HGd.out.below b) (And.intro hI hN))
  clear b hI hN HGd
  go_wp2_with fail
  refine (sown_any _ HZ.out.ht HZ.out.lt HZ.out.lr (HS.out _ B4.out.bel).rows).mono ?_
  rintro e y5 ⟨At1, ct1, rfl, hT, hN, b⟩
  have B5 := Lib.hid (B4.out.next b)
  have HA1 := Lib.hid (And.intro (HGI.out.1.below b) (mkS HZ.out ((HGI.out.2.1.below b).more b.size) HGI.out.2.2 hT hN))
  clear b hT hN HGI
  go_wp2_with fail
  refine (greedy_any cores _ HA1.out.1 HA1.out.2).mono ?_
  rintro e y6 ⟨rfl, b⟩
  have B6 := Lib.hid (B5.out.next b)
  rw [← HGB.out]
  clear b HA1 B0 B1 B2 B3 B4 B5
  cases gb with
  | true =>
    obtain ⟨hz, hgr⟩ := greedyB_iff.mp HGB.out.symm
    obtain ⟨k0, hk0, hok⟩ := schedE_zero.mp hz
    subst hk0
    have HOK := Lib.hid hok
    have HGR := Lib.hid hgr
    have HE := Lib.hid (endsV_ok hz)
    have hk1 : 1 ≤ k0 := by have := hok.form.2.2.1; omega
    have hk8 : k0 ≤ 8 := by have := hok.form.2.2.2; omega
    have hM2 := need_may hok.may hok.form
    have HM2 := Lib.hid hM2
    have HEB := Lib.hid (fun j : Nat => (by
      rcases endV_cases (need := need) (t := t) (j : Int) with ⟨h, _⟩ | ⟨k, h, h2, _⟩
      · omega
      · have := HZ.out.ht; omega : endV need t (j : Int) ≤ 120))
    clear hok hgr hz hM2
    obtain ⟨q0, q1⟩ := B6.out.cells
    go_wp2_with fail
    refine (own_g10 (HG.out _ B6.out.bel)).mono ?_
    rintro e y7 ⟨Ad2, cd2, Fd2, dd2, rfl, hg, b⟩
    have B7 := Lib.hid (B6.out.next b)
    have HGd := Lib.hid hg
    clear b hg q0 q1
    go_wp2_with fail
    refine (ints10_any _ HZ.out.hn (by have := HZ.out.ln; omega) (HS.out _ B7.out.bel).ints HZ.out.hN).mono ?_
    rintro e y8 ⟨An2, cn2, rfl, hI, hN, b⟩
    have B8 := Lib.hid (B7.out.next b)
    have HGI := Lib.hid (And.intro (HGd.out.below b) (And.intro hI hN))
    clear b hI hN HGd
    go_wp2_with fail
    refine (sown_any _ HZ.out.ht HZ.out.lt HZ.out.lr (HS.out _ B8.out.bel).rows).mono ?_
    rintro e y9 ⟨At2, ct2, rfl, hT, hN, b⟩
    have B9 := Lib.hid (B8.out.next b)
    have HA2 := Lib.hid (And.intro (HGI.out.1.below b) (mkS HZ.out ((HGI.out.2.1.below b).more b.size) HGI.out.2.2 hT hN))
    clear b hT hN HGI
    go_wp2_with fail
    refine (ends_any (k0 : Int) _ HA2.out.1 HA2.out.2).mono ?_
    rintro e y10 ⟨Ae, ce, rfl, hIe, b⟩
    have B10 := Lib.hid (B9.out.next b)
    rw [HE.out] at hIe ⊢
    have HIE := Lib.hid hIe
    rw [List.length_map, List.length_range, HZ.out.hn]
    clear b hIe HA2 B6 B7 B8 B9
    go_wp2
    go_loopw [10, 11] (fun sv v wr => ∃ (k : Nat) (s : Int), k ≤ nn ∧ v = .int .i64 k ∧ sv = .int .i64 s ∧ 0 ≤ s ∧ s ≤ 120 ∧ Hid ((∀ j : Nat, j < k → 0 ≤ endV need t (j : Int) ∧ endV need t (j : Int) ≤ s) ∧ (s = 0 ∨ ∃ j : Nat, j < k ∧ s = endV need t (j : Int))) ∧ y10 = wr) (fun _ v _ => nn - (intOf v).toNat)
    case atStart => exact ⟨0, 0, Nat.zero_le _, rfl, rfl, by omega, by omega, Lib.hid ⟨fun j hj => absurd hj (Nat.not_lt_zero _), .inl rfl⟩, rfl⟩
    case round =>
      obtain ⟨k, s, hk, rfl, rfl, hs0, hs1, HSM, rfl⟩ := hrel
      by_cases hlt : k < nn
      · obtain ⟨be, oe, ez, hAe, hbe, hze, hce⟩ := HIE.out.at_ (k := k) (by rw [List.length_map, List.length_range, HZ.out.hn]; exact hlt)
        subst hAe
        have hEV : endV need t (k : Int) = ez := by
          rw [List.getElem?_map, List.getElem?_range (by rw [HZ.out.hn]; exact hlt)] at hze
          simpa using hze
        have hez := HEB.out k
        rw [hEV] at hez
        have HEV := Lib.hid hEV
        clear hze hEV
        by_cases hneg : ez < 0
        · go_wp2
          go_ret
          exact ⟨rfl, B10.out.bel⟩
        · have hnf : decide (ez < 0) = false := decide_eq_false hneg
          have HSM2 : Hid ((∀ j : Nat, j < k + 1 → 0 ≤ endV need t (j : Int) ∧ endV need t (j : Int) ≤ max s ez) ∧ (max s ez = 0 ∨ ∃ j : Nat, j < k + 1 ∧ max s ez = endV need t (j : Int))) := Lib.hid (by
            obtain ⟨h1, h2⟩ := HSM.out
            have he := HEV.out
            refine ⟨fun j hj => ?_, ?_⟩
            · rcases Nat.lt_or_ge j k with h3 | h3
              · have := h1 j h3
                omega
              · rw [show j = k by omega, he]; omega
            · rcases Int.le_total s ez with h3 | h3
              · right
                exact ⟨k, by omega, by rw [he, Int.max_eq_right h3]⟩
              · rw [Int.max_eq_left h3]
                rcases h2 with h2 | ⟨j, hj, h2⟩
                · exact .inl h2
                · exact .inr ⟨j, by omega, h2⟩)
          rcases Int.le_total s ez with h3 | h3
          · rw [Int.max_eq_right h3] at HSM2
            clear hneg
            go_wp2
            go_roundw
            case rel => exact ⟨k + 1, ez, by omega, by go_num, by first | rfl | (congr 1; omega), by omega, by omega, HSM2, (by first | trivial | rfl)⟩
            case measure => simp [intOf]; omega
          · rw [Int.max_eq_left h3] at HSM2
            clear hneg
            go_wp2
            go_roundw
            case rel => exact ⟨k + 1, s, by omega, by go_num, by first | rfl | (congr 1; omega), by omega, by omega, HSM2, (by first | trivial | rfl)⟩
            case measure => simp [intOf]; omega
      · obtain rfl : k = nn := by omega
        have hTV : totalV need E = need.sum := by unfold totalV; rw [if_pos HM2.out]
        have CT := Lib.hid (fun (W' : World) (hb : Below w0.heap.size w0 W') => total_done W' (HNG.out W' hb))
        have CL := Lib.hid (fun (W' : World) (hb : Below w0.heap.size w0 W') => long_done W' (HNG.out W' hb))
        rw [hTV] at CT
        have hlo := longV_total HM2.out
        have hsum := sum_le need HM2.out.work
        rw [HZ.out.hn] at hsum
        have hL := longV_is HM2.out
        have hdone : ∀ j, j < need.length → 0 ≤ endV need t (j : Int) := fun j hj => (HSM.out.1 j (by rw [← HZ.out.hn]; exact hj)).1
        have hp : ∀ z ∈ need, 1 ≤ z := fun z hz => (HOK.out.form.2.1 z hz).1
        have hgra : (k0 : Int) * s ≤ need.sum + ((k0 : Int) - 1) * longV need E := by
          rcases HSM.out.2 with h | ⟨j, hj, h⟩
          · rw [h, Int.mul_zero]
            have : 0 ≤ ((k0 : Int) - 1) * longV need E := Int.mul_nonneg (by omega) hlo.2
            omega
          · rw [h]
            exact graham HOK.out.good HGR.out HM2.out.fits hp hdone hk1 _ hL j (by rw [HZ.out.hn]; exact hj)
        have hlong : longV need E ≤ s := long_le HOK.out.good HM2.out.fits hp hdone _ s hL hs0 (fun j hj => (HSM.out.1 j (by rw [← HZ.out.hn]; exact hj)).2)
        have hbd : s ≤ boundV W E need (k0 : Int) := by
          unfold boundV
          rw [if_pos ⟨HOK.out.may, HOK.out.form⟩]
          exact Int.le_ediv_of_mul_le (by omega) (by rw [Int.mul_comm]; exact hgra)
        obtain ⟨C, hC⟩ : ∃ C, C = need.sum := ⟨_, rfl⟩
        obtain ⟨L, hL2⟩ : ∃ L, L = longV need E := ⟨_, rfl⟩
        obtain ⟨bd, hbd2⟩ : ∃ b, b = boundV W E need (k0 : Int) := ⟨_, rfl⟩
        rw [← hC] at CT hlo hsum hgra
        rw [← hL2] at CL hlo hgra hlong
        rw [← hbd2] at hbd
        have HBD := Lib.hid hbd2
        obtain ⟨hlo1, hlo2⟩ := hlo
        have hm1 : 0 ≤ (k0 : Int) * s := Int.mul_nonneg (by omega) hs0
        have hm2 : (k0 : Int) * s ≤ 8 * 120 := Int.mul_le_mul (by omega) (by omega) hs0 (by omega)
        have hm3 : 0 ≤ ((k0 : Int) - 1) * L := Int.mul_nonneg (by omega) hlo2
        have hm4 : ((k0 : Int) - 1) * L ≤ 7 * 70000 := Int.mul_le_mul (by omega) (by omega) hlo2 (by omega)
        clear hTV hL hdone hp hC hL2 hbd2
        go_wp2
        have B10d := Lib.hid (B10.out.next (Below.refl y10.heap.size y10).drew)
        go_region_held3 (fun x => (x.cell? ⟨w0.heap.size, 0, none⟩ = some (.slice A n c) ∧ x.cell? ⟨w0.heap.size, 1, none⟩ = some (.slice F m d)) ∧ Hid (BxB w0 w0.heap.size A n c F m d x))
          (first | exact ⟨B10d.out.cells, B10d⟩ | exact ⟨HB.out.cells, HB⟩)
          (first
            | (go_at_call 26; refine (CT.out _ (bxB_bel (by assumption))).mono ?_; rintro e x1 ⟨rfl, b⟩; have HB := Lib.hid (bxB_n (by assumption) b); clear b)
            | (go_at_call 27; refine (CL.out _ (bxB_bel (by assumption))).mono ?_; rintro e x1 ⟨rfl, b⟩; have HB := Lib.hid (bxB_n (by assumption) b); clear b))
        have B11 := Lib.hid HB.out
        clear HB
        obtain ⟨q0, q1⟩ := B11.out.cells
        go_wp2_with fail
        refine (own_g10 (HG.out _ B11.out.bel)).mono ?_
        rintro e y12 ⟨Ad3, cd3, Fd3, dd3, rfl, hg, b⟩
        have B12 := Lib.hid (B11.out.next b)
        have HGd := Lib.hid hg
        clear b hg q0 q1
        go_wp2_with fail
        refine (ints10_any _ HZ.out.hn (by have := HZ.out.ln; omega) (HS.out _ B12.out.bel).ints HZ.out.hN).mono ?_
        rintro e y13 ⟨An3, cn3, rfl, hI, hN, b⟩
        have B13 := Lib.hid (B12.out.next b)
        have HGI := Lib.hid (And.intro (HGd.out.below b) (And.intro hI hN))
        clear b hI hN HGd
        go_wp2_with fail
        refine (bound_any (k0 : Int) _ HGI.out.1 HZ.out.hn HZ.out.ln HGI.out.2.1 HGI.out.2.2).mono ?_
        rintro e y14 ⟨rfl, b⟩
        have B14 := Lib.hid (B13.out.next b)
        rw [← HBD.out]
        clear b HGI
        go_wp2
        go_ret
        exact ⟨rfl, B14.out.bel⟩
  | false =>
    go_wp2_with fail
    refine (awake10_any _ (HTW.out _ B6.out.bel)).mono ?_
    rintro e y7 ⟨rfl, b⟩
    have B7 := Lib.hid (B6.out.next b)
    clear b
    go_wp2_with fail
    go_ret
    exact ⟨rfl, B7.out.bel⟩
theorem walk_SchedGraham (w0 : World) (hg : InG w0 A n c F m d W E) (hN : InN w0 N nn nc need) (cores : Int) (hc : -9223372036854775808 ≤ cores ∧ cores ≤ 9223372036854775807) (hT' : InT w0 T tn tc t) (hT : Tab64 w0) : Calls Tryd.prog 5 #[.agg #[.slice A n c, .slice F m d], .slice N nn nc, .int .i64 cores, .slice T tn tc] w0 fun e w' => e = .returned (.bool true) ∧ Below w0.heap.size w0 w' := by
  have hs := hN.with hT'
  by_cases h : (n ≤ 70 ∧ m ≤ 300) ∧ FewS need t
  · exact graham_few w0 cores (hg.isG hT h.1.1 h.1.2) (hs.isS h.2) h.1.1 h.1.2 h.2
  · exact graham_many w0 cores hT hg hs h
end
end Go.Proofs.YtpaambpajpmjdaaDoor
