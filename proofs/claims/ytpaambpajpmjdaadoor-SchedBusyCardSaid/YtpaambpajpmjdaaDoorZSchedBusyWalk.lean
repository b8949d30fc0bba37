/- The walk of SchedBusy in the seat YtpaambpajpmjdaaDoor (printed by sched/mk_busy.py). No statement is proved here. -/
import Derived.Test.YtpaambpajpmjdaaDoorZM19
set_option linter.unusedSimpArgs false
set_option linter.unusedVariables false
set_option linter.unusedSimpArgs false
namespace Go.Proofs.YtpaambpajpmjdaaDoor
open Go Go.RowKit

section
variable {A : Option Addr} {n c : Nat} {F : Option Addr} {m d : Nat} {W : List Int} {E : List (Int × Int)} {N : Option Addr} {nn nc : Nat} {need : List Int} {T : Option Addr} {tn tc : Nat} {t : List (List Int)}

set_option maxRecDepth 100000 in
set_option maxHeartbeats 16000000 in
theorem busy_many (w0 : World) (cores : Int) (hT : Tab64 w0) (hg : InG w0 A n c F m d W E) (hs : InS w0 N nn nc T tn tc need t) (h : ¬ ((n ≤ 70 ∧ m ≤ 300) ∧ FewS need t)) : Calls Tryd.prog 8 #[.agg #[.slice A n c, .slice F m d], .slice N nn nc, .int .i64 cores, .slice T tn tc] w0 fun e w' => e = .returned (.bool true) ∧ Below w0.heap.size w0 w' := by
  have HTW := Lib.hid (fun W (h : Below w0.heap.size w0 W) => Tab64.via hT h)
  have B0 := Lib.hid (BxB.start (Below.refl w0.heap.size w0) A n c F m d)
  by_cases hd : n ≤ 70 ∧ m ≤ 300
  · have F1 := Lib.hid (fun W => few_yes A F n c m d W hd.1 hd.2)
    have F2 := Lib.hid (fun W (hb : Below w0.heap.size w0 W) => rfew_any (N := N) (nc := nc) (tc := tc) false ⟨fun e => absurd e (by decide), fun q => absurd ⟨hd, q⟩ h⟩ w0.heap.size W hs.hn hs.ht hs.ln hs.lt hs.lr (hs.rows.below hb))
    clear hg hs h hd hT
    go_enter Tryd.func8, Tryd.ntmps8
    go_wp2_with fail
    refine (awake10_any _ (HTW.out _ B0.out.bel)).mono ?_
    rintro e y1 ⟨rfl, b⟩
    have B1 := Lib.hid (B0.out.next b)
    clear b
    obtain ⟨q0, q1⟩ := B1.out.cells
    go_wp2_with fail
    refine (F1.out _).mono ?_
    rintro e y2 ⟨rfl, b⟩
    have B2 := Lib.hid (B1.out.next b)
    clear b q0 q1
    go_wp2_with fail
    refine (F2.out _ B2.out.bel).mono ?_
    rintro e y2' ⟨rfl, rfl⟩
    go_wp2_with fail
    refine (awake10_any _ (HTW.out _ B2.out.bel)).mono ?_
    rintro e y3 ⟨rfl, b⟩
    have B3 := Lib.hid (B2.out.next b)
    clear b
    go_wp2_with fail
    go_ret
    exact ⟨rfl, B3.out.bel⟩
  · have F1 := Lib.hid (fun W => few_no A F n c m d W hg.ln hg.lm hd)
    clear hg hs h hd hT
    go_enter Tryd.func8, Tryd.ntmps8
    go_wp2_with fail
    refine (awake10_any _ (HTW.out _ B0.out.bel)).mono ?_
    rintro e y1 ⟨rfl, b⟩
    have B1 := Lib.hid (B0.out.next b)
    clear b
    obtain ⟨q0, q1⟩ := B1.out.cells
    go_wp2_with fail
    refine (F1.out _).mono ?_
    rintro e y2 ⟨rfl, b⟩
    have B2 := Lib.hid (B1.out.next b)
    clear b q0 q1
    go_wp2_with fail
    refine (awake10_any _ (HTW.out _ B2.out.bel)).mono ?_
    rintro e y3 ⟨rfl, b⟩
    have B3 := Lib.hid (B2.out.next b)
    clear b
    go_wp2_with fail
    go_ret
    exact ⟨rfl, B3.out.bel⟩

set_option maxRecDepth 100000 in
set_option maxHeartbeats 16000000 in
theorem busy_few (w0 : World) (cores : Int) (hG : IsG w0 A n c F m d W E) (hS0 : IsS w0 N nn nc T tn tc need t) (l1 : n ≤ 70) (l2 : m ≤ 300) (hf : FewS need t) : Calls Tryd.prog 8 #[.agg #[.slice A n c, .slice F m d], .slice N nn nc, .int .i64 cores, .slice T tn tc] w0 fun e w' => e = .returned (.bool true) ∧ Below w0.heap.size w0 w' := by
  have HTW := Lib.hid (fun W (h : Below w0.heap.size w0 W) => Tab64.via hG.tab h)
  have HG := Lib.hid (fun W' (h : Below w0.heap.size w0 W') => hG.below h)
  have HS := Lib.hid (fun W' (h : Below w0.heap.size w0 W') => hS0.below h)
  have HZ := Lib.hid hS0
  have B0 := Lib.hid (BxB.start (Below.refl w0.heap.size w0) A n c F m d)
  have F1 := Lib.hid (fun W => few_yes A F n c m d W l1 l2)
  have F2 := Lib.hid (fun W (hb : Below w0.heap.size w0 W) => rfew_any (N := N) (nc := nc) (tc := tc) true ⟨fun _ => hf, fun _ => rfl⟩ w0.heap.size W hS0.hn hS0.ht (by have := hS0.ln; omega) (by have := hS0.lt; omega) (fun r hr => by have := hS0.lr r hr; omega) (hS0.rows.below hb))
  have hnn : nn ≤ 70 := by have := hf.1; have := hS0.hn; omega
  have htn : tn ≤ 120 := by have := hf.2.1; have := hS0.ht; omega
  obtain ⟨z, hz⟩ : ∃ z, z = schedE W E need cores t := ⟨_, rfl⟩
  have HZE := Lib.hid hz
  clear hG hS0 hf hz
  go_enter Tryd.func8, Tryd.ntmps8
  go_wp2_with fail
  refine (awake10_any _ (HTW.out _ B0.out.bel)).mono ?_
  rintro e y1 ⟨rfl, b⟩
  have B1 := Lib.hid (B0.out.next b)
  clear b
  obtain ⟨q0, q1⟩ := B1.out.cells
  go_wp2_with fail
  refine (F1.out _).mono ?_
  rintro e y2 ⟨rfl, b⟩
  have B2 := Lib.hid (B1.out.next b)
  clear b q0 q1
  go_wp2_with fail
  refine (F2.out _ B2.out.bel).mono ?_
  rintro e y2' ⟨rfl, rfl⟩
  obtain ⟨q0, q1⟩ := B2.out.cells
  go_wp2_with fail
  refine (own_g10 (HG.out _ B2.out.bel)).mono ?_
  rintro e y3 ⟨Ad1, cd1, Fd1, dd1, rfl, hg, b⟩
  have B3 := Lib.hid (B2.out.next b)
  have HGd := Lib.hid hg
  clear b hg q0 q1
  go_wp2_with fail
  refine (ints10_any _ HZ.out.hn (by have := HZ.out.ln; omega) (HS.out _ B3.out.bel).ints HZ.out.hN).mono ?_
  rintro e y4 ⟨An1, cn1, rfl, hI, hN, b⟩
  have B4 := Lib.hid (B3.out.next b)
  have HGI := Lib.hid (And.intro (HGd.out.below b) (And.intro hI hN))
  clear b hI hN HGd
  go_wp2_with fail
  refine (sown_any _ HZ.out.ht HZ.out.lt HZ.out.lr (HS.out _ B4.out.bel).rows).mono ?_
  rintro e y5 ⟨At1, ct1, rfl, hT, hN, b⟩
  have B5 := Lib.hid (B4.out.next b)
  have HA1 := Lib.hid (And.intro (HGI.out.1.below b) (mkS HZ.out ((HGI.out.2.1.below b).more b.size) HGI.out.2.2 hT hN))
  clear b hT hN HGI
  go_wp2_with fail
  refine (scheck_any cores _ HA1.out.1 HA1.out.2).mono ?_
  rintro e y6 ⟨rfl, b⟩
  have B6 := Lib.hid (B5.out.next b)
  rw [← HZE.out]
  clear b HA1 B0 B1 B2 B3 B4 B5
  by_cases hz : z = 0
  · subst hz
    obtain ⟨k0, hk0, hok⟩ := schedE_zero.mp HZE.out.symm
    subst hk0
    have HOK := Lib.hid hok
    have HE := Lib.hid (endsV_ok HZE.out.symm)
    have HBZ := Lib.hid (hok.good.busy (fun z hz => (hok.form.2.1 z hz).1))
    have hk1 : 1 ≤ k0 := by have := hok.form.2.2.1; omega
    have hk8 : k0 ≤ 8 := by have := hok.form.2.2.2; omega
    have HNL := Lib.hid (fun (z : Int) (hz : z ∈ need) => hok.form.2.1 z hz)
    clear hok
    obtain ⟨q0, q1⟩ := B6.out.cells
    go_wp2_with fail
    refine (own_g10 (HG.out _ B6.out.bel)).mono ?_
    rintro e y7 ⟨Ad2, cd2, Fd2, dd2, rfl, hg, b⟩
    have B7 := Lib.hid (B6.out.next b)
    have HGd := Lib.hid hg
    clear b hg q0 q1
    go_wp2_with fail
    refine (ints10_any _ HZ.out.hn (by have := HZ.out.ln; omega) (HS.out _ B7.out.bel).ints HZ.out.hN).mono ?_
    rintro e y8 ⟨An2, cn2, rfl, hI, hN, b⟩
    have B8 := Lib.hid (B7.out.next b)
    have HGI := Lib.hid (And.intro (HGd.out.below b) (And.intro hI hN))
    clear b hI hN HGd
    go_wp2_with fail
    refine (sown_any _ HZ.out.ht HZ.out.lt HZ.out.lr (HS.out _ B8.out.bel).rows).mono ?_
    rintro e y9 ⟨At2, ct2, rfl, hT, hN, b⟩
    have B9 := Lib.hid (B8.out.next b)
    have HA2 := Lib.hid (And.intro (HGI.out.1.below b) (mkS HZ.out ((HGI.out.2.1.below b).more b.size) HGI.out.2.2 hT hN))
    clear b hT hN HGI
    go_wp2_with fail
    refine (ends_any (k0 : Int) _ HA2.out.1 HA2.out.2).mono ?_
    rintro e y10 ⟨Ae, ce, rfl, hIe, b⟩
    have B10 := Lib.hid (B9.out.next b)
    rw [HE.out] at hIe ⊢
    have HIE := Lib.hid hIe
    rw [List.length_map, List.length_range, HZ.out.hn]
    clear b hIe HA2 B6 B7 B8 B9
    go_wp2
    go_loopw [10, 11, 12] (fun sv wv v wr => ∃ (k : Nat) (s : Int), k ≤ nn ∧ v = .int .i64 k ∧ sv = .int .i64 s ∧ 0 ≤ s ∧ s ≤ 1000 * k ∧ wv = .bool (decide (∀ j, j < k → 0 ≤ endV need t (j : Int))) ∧ Hid (s = (need.take k).sum) ∧ y10 = wr) (fun _ _ v _ => nn - (intOf v).toNat)
    case atStart => exact ⟨0, 0, Nat.zero_le _, rfl, rfl, by omega, by omega, by rw [decide_eq_true (fun j hj => absurd hj (Nat.not_lt_zero _))], Lib.hid (by simp), rfl⟩
    case round =>
      obtain ⟨k, s, hk, rfl, rfl, hs0, hs1, rfl, HSM, rfl⟩ := hrel
      obtain ⟨wb, hwb⟩ : ∃ b, b = decide (∀ j, j < k → 0 ≤ endV need t (j : Int)) := ⟨_, rfl⟩
      rw [← hwb]
      have HWB := Lib.hid hwb
      clear hwb
      by_cases hlt : k < nn
      · obtain ⟨bn, on, z, hN, hbn, hzq, hcz⟩ := (HS.out _ B10.out.bel).ints.at_ (k := k) (by rw [HZ.out.hn]; exact hlt)
        subst hN
        obtain ⟨be, oe, ez, hAe, hbe, hze, hce⟩ := HIE.out.at_ (k := k) (by rw [List.length_map, List.length_range, HZ.out.hn]; exact hlt)
        subst hAe
        have hEV : endV need t (k : Int) = ez := by
          rw [List.getElem?_map, List.getElem?_range (by rw [HZ.out.hn]; exact hlt)] at hze
          simpa using hze
        have hzb := HNL.out z (List.mem_of_getElem? hzq)
        have HTK := Lib.hid (take_snoc' hzq)
        have HS2 : Hid (s + z = (need.take (k + 1)).sum) := Lib.hid (by rw [HTK.out, List.sum_append, ← HSM.out]; simp)
        have hWN : (wb && decide (0 ≤ ez)) = decide (∀ j, j < k + 1 → 0 ≤ endV need t (j : Int)) := by
          rw [HWB.out, Bool.eq_iff_iff, Bool.and_eq_true, decide_eq_true_iff, decide_eq_true_iff, decide_eq_true_iff, ← hEV]
          constructor
          · rintro ⟨h1, h2⟩ j hj
            rcases Nat.lt_or_ge j k with h3 | h3
            · exact h1 j h3
            · rw [show j = k by omega]; exact h2
          · intro h
            exact ⟨fun j hj => h j (by omega), h k (by omega)⟩
        have HWN := Lib.hid hWN
        clear hzq hze hEV hWN
        cases wb with
        | true =>
          have HWN2 : Hid (Value.bool (decide (0 ≤ ez)) = .bool (decide (∀ j, j < k + 1 → 0 ≤ endV need t (j : Int)))) := Lib.hid (by rw [← HWN.out]; simp)
          go_wp2
          go_roundw
          case rel => exact ⟨k + 1, s + z, by omega, by go_num, by go_num, by omega, by omega, by exact HWN2.out, HS2, (by first | trivial | rfl)⟩
          case measure => simp [intOf]; omega
        | false =>
          have HWN2 : Hid (Value.bool false = .bool (decide (∀ j, j < k + 1 → 0 ≤ endV need t (j : Int)))) := Lib.hid (by rw [← HWN.out]; simp)
          go_wp2
          go_roundw
          case rel => exact ⟨k + 1, s + z, by omega, by go_num, by go_num, by omega, by omega, by exact HWN2.out, HS2, (by first | trivial | rfl)⟩
          case measure => simp [intOf]; omega
      · obtain rfl : k = nn := by omega
        have HSUM : Hid (s = need.sum) := Lib.hid (by rw [HSM.out, List.take_of_length_le (by rw [HZ.out.hn]; omega)])
        go_wp2_with fail
        refine (sown_any _ HZ.out.ht HZ.out.lt HZ.out.lr (HS.out _ B10.out.bel).rows).mono ?_
        rintro e y11 ⟨At, ct, rfl, hT, hN, b⟩
        have B11 := Lib.hid (B10.out.next b)
        have HT := Lib.hid hT
        clear b hT hN
        go_wp2_with fail
        refine (busy_any _ HZ.out.ht HZ.out.lt HZ.out.lr HT.out).mono ?_
        rintro e y12 ⟨rfl, rfl⟩
        obtain ⟨bz, hbz⟩ : ∃ b, b = busyT t := ⟨_, rfl⟩
        rw [← hbz]
        have HB := HBZ.out
        rw [← hbz, ← HSUM.out, HZ.out.ht] at HB
        obtain ⟨h1, h2, h3⟩ := HB
        have h2' : (((bz : Int) == s) == wb) = true := by
          rw [HWB.out, beq_iff_eq, Bool.eq_iff_iff, beq_iff_eq, decide_eq_true_iff, h2, HZ.out.hn]
        have hmul : (bz : Int) ≤ (k0 : Int) * (tn : Int) := by
          have : ((k0 * tn : Nat) : Int) = (k0 : Int) * (tn : Int) := by simp
          omega
        have hm0 : 0 ≤ (k0 : Int) * (tn : Int) := by omega
        have hm1 : (k0 : Int) * (tn : Int) ≤ 8 * 120 := Int.mul_le_mul (by omega) (by omega) (by omega) (by omega)
        clear h2 hbz
        go_wp2
        go_ret
        exact ⟨rfl, B11.out.bel⟩
  · have hne : (z != 0) = true := bne_iff_ne.mpr hz
    clear hz
    go_wp2_with fail
    refine (awake10_any _ (HTW.out _ B6.out.bel)).mono ?_
    rintro e y7 ⟨rfl, b⟩
    have B7 := Lib.hid (B6.out.next b)
    clear b
    go_wp2_with fail
    go_ret
    exact ⟨rfl, B7.out.bel⟩
theorem walk_SchedBusy (w0 : World) (hg : InG w0 A n c F m d W E) (hN : InN w0 N nn nc need) (cores : Int) (hc : -9223372036854775808 ≤ cores ∧ cores ≤ 9223372036854775807) (hT' : InT w0 T tn tc t) (hT : Tab64 w0) : Calls Tryd.prog 8 #[.agg #[.slice A n c, .slice F m d], .slice N nn nc, .int .i64 cores, .slice T tn tc] w0 fun e w' => e = .returned (.bool true) ∧ Below w0.heap.size w0 w' := by
  have hs := hN.with hT'
  by_cases h : (n ≤ 70 ∧ m ≤ 300) ∧ FewS need t
  · exact busy_few w0 cores (hg.isG hT h.1.1 h.1.2) (hs.isS h.2) h.1.1 h.1.2 h.2
  · exact busy_many w0 cores hT hg hs h
end
end Go.Proofs.YtpaambpajpmjdaaDoor
