/- The walk of ListSched in the seat YtmmogdccjiagnaaDoor (printed by list/mk_sched.py). No statement is proved here. -/
import Derived.Test.YtmmogdccjiagnaaDoorZM22
set_option linter.unusedSimpArgs false
set_option linter.unusedVariables false
set_option linter.unusedSimpArgs false
namespace Go.Proofs.YtmmogdccjiagnaaDoor
open Go Go.RowKit

section
variable {A : Option Addr} {n c : Nat} {F : Option Addr} {m d : Nat} {W : List Int} {E : List (Int × Int)} {N : Option Addr} {nn nc : Nat} {need : List Int}
set_option maxRecDepth 100000 in
set_option maxHeartbeats 16000000 in
theorem lsched_many (w0 : World) (cores : Int) (hT : Tab64 w0) (hg : InG w0 A n c F m d W E) (hs : InNL w0 N nn nc need) (K : ListOk) (h : ¬ ((n ≤ 70 ∧ m ≤ 300) ∧ nn ≤ 70 ∧ litV 300 need = true)) : Calls Tryd.prog 5 #[.agg #[.slice A n c, .slice F m d], .slice N nn nc, .int .i64 cores] w0 fun e w' => e = .returned (.bool true) ∧ Below w0.heap.size w0 w' := by
  have HK := Lib.hid K
  have HTW := Lib.hid (fun W (h : Below w0.heap.size w0 W) => Tab64.via hT h)
  have B0 := Lib.hid (BxB.start (Below.refl w0.heap.size w0) A n c F m d)
  by_cases hd : n ≤ 70 ∧ m ≤ 300
  · have F1 := Lib.hid (fun W => few_yes A F n c m d W hd.1 hd.2)
    by_cases h70 : nn ≤ 70
    · have F3 := Lib.hid (fun W' (hb : Below w0.heap.size w0 W') => little_any (nc := nc) W' hs.hn (by omega : nn ≤ 400) ((hs.ints.below hb).more hb.size))
      obtain hl : litV 300 need = false := by
        cases e : litV 300 need with
        | false => rfl
        | true => exact absurd ⟨hd, h70, e⟩ h
      rw [hl] at F3
      have h70a : decide (70 < nn) = false := decide_eq_false (by omega)
      have h70b : decide ((70 : Int) < (nn : Int)) = false := decide_eq_false (by omega)
      clear hg hs h hd hT hl K
      go_enter Tryd.func5, Tryd.ntmps5
      go_wp2_with fail
      refine (awakeC_any HK.out _ (HTW.out _ B0.out.bel)).mono ?_
      rintro e y1 ⟨rfl, b⟩
      have B1 := Lib.hid (B0.out.next b)
      clear b
      obtain ⟨q0, q1⟩ := B1.out.cells
      go_wp2_with fail
      refine (F1.out _).mono ?_
      rintro e y2 ⟨rfl, b⟩
      have B2 := Lib.hid (B1.out.next b)
      clear b q0 q1
      go_wp2_with fail
      refine (F3.out _ B2.out.bel).mono ?_
      rintro e y2' ⟨rfl, rfl⟩
      go_wp2_with fail
      refine (awakeC_any HK.out _ (HTW.out _ B2.out.bel)).mono ?_
      rintro e y3 ⟨rfl, b⟩
      have B3 := Lib.hid (B2.out.next b)
      clear b
      go_wp2_with fail
      go_ret
      exact ⟨rfl, B3.out.bel⟩
    · have h70a : decide (70 < nn) = true := decide_eq_true (by omega)
      have h70b : decide ((70 : Int) < (nn : Int)) = true := decide_eq_true (by omega)
      have hnn := hs.ln
      clear hg hs h hd hT K
      go_enter Tryd.func5, Tryd.ntmps5
      go_wp2_with fail
      refine (awakeC_any HK.out _ (HTW.out _ B0.out.bel)).mono ?_
      rintro e y1 ⟨rfl, b⟩
      have B1 := Lib.hid (B0.out.next b)
      clear b
      obtain ⟨q0, q1⟩ := B1.out.cells
      go_wp2_with fail
      refine (F1.out _).mono ?_
      rintro e y2 ⟨rfl, b⟩
      have B2 := Lib.hid (B1.out.next b)
      clear b q0 q1
      go_wp2_with fail
      refine (awakeC_any HK.out _ (HTW.out _ B2.out.bel)).mono ?_
      rintro e y3 ⟨rfl, b⟩
      have B3 := Lib.hid (B2.out.next b)
      clear b
      go_wp2_with fail
      go_ret
      exact ⟨rfl, B3.out.bel⟩
  · have F1 := Lib.hid (fun W => few_no A F n c m d W hg.ln hg.lm hd)
    clear hg hs h hd hT K
    go_enter Tryd.func5, Tryd.ntmps5
    go_wp2_with fail
    refine (awakeC_any HK.out _ (HTW.out _ B0.out.bel)).mono ?_
    rintro e y1 ⟨rfl, b⟩
    have B1 := Lib.hid (B0.out.next b)
    clear b
    obtain ⟨q0, q1⟩ := B1.out.cells
    go_wp2_with fail
    refine (F1.out _).mono ?_
    rintro e y2 ⟨rfl, b⟩
    have B2 := Lib.hid (B1.out.next b)
    clear b q0 q1
    go_wp2_with fail
    refine (awakeC_any HK.out _ (HTW.out _ B2.out.bel)).mono ?_
    rintro e y3 ⟨rfl, b⟩
    have B3 := Lib.hid (B2.out.next b)
    clear b
    go_wp2_with fail
    go_ret
    exact ⟨rfl, B3.out.bel⟩

set_option maxRecDepth 100000 in
set_option maxHeartbeats 16000000 in
theorem lsched_few (w0 : World) (cores : Int) (hc : -9223372036854775808 ≤ cores ∧ cores ≤ 9223372036854775807) (K : ListOk) (hG : IsG w0 A n c F m d W E) (hs : InNL w0 N nn nc need) (l1 : n ≤ 70) (l2 : m ≤ 300) (l3 : nn ≤ 70) (hl : litV 300 need = true) : Calls Tryd.prog 5 #[.agg #[.slice A n c, .slice F m d], .slice N nn nc, .int .i64 cores] w0 fun e w' => e = .returned (.bool true) ∧ Below w0.heap.size w0 w' := by
  have HC := Lib.hid hc
  have HS0 : newE W E need cores = 0 → need.sum ≤ 300 := new_sum hl
  obtain ⟨r, hr⟩ : ∃ r, r = runV W E need cores := ⟨_, rfl⟩
  obtain ⟨ne, hne⟩ : ∃ z, z = newE W E need cores := ⟨_, rfl⟩
  have HR : Hid (r.length ≤ 300 ∧ ∀ x ∈ r, x.length ≤ 400) := Lib.hid (by rw [hr]; exact runV_small HS0)
  have HS := Lib.hid HS0
  have HE : Hid (ne = newE W E need cores ∧ r = runV W E need cores ∧ True) := Lib.hid ⟨hne, hr, trivial⟩
  clear hr hne HS0 hc
  have HK := Lib.hid K
  have HTW := Lib.hid (fun W (h : Below w0.heap.size w0 W) => Tab64.via hG.tab h)
  have HG := Lib.hid (fun W' (h : Below w0.heap.size w0 W') => hG.below h)
  have HI := Lib.hid (fun W' (h : Below w0.heap.size w0 W') => (hs.ints.below h).more h.size)
  have HL := Lib.hid hs.hn
  have HA := Lib.hid hs.hN
  have B0 := Lib.hid (BxB.start (Below.refl w0.heap.size w0) A n c F m d)
  have F1 := Lib.hid (fun W => few_yes A F n c m d W l1 l2)
  have F3 := Lib.hid (fun W' (hb : Below w0.heap.size w0 W') => little_any (nc := nc) W' hs.hn (by omega : nn ≤ 400) ((hs.ints.below hb).more hb.size))
  rw [hl] at F3
  have h70 : nn ≤ 70 := l3
  have h70a : decide (70 < nn) = false := decide_eq_false (by omega)
  have h70b : decide ((70 : Int) < (nn : Int)) = false := decide_eq_false (by omega)
  clear hG hs hl K
  go_enter Tryd.func5, Tryd.ntmps5
  go_wp2_with fail
  refine (awakeC_any HK.out _ (HTW.out _ B0.out.bel)).mono ?_
  rintro e y1 ⟨rfl, b⟩
  have B1 := Lib.hid (B0.out.next b)
  clear b
  obtain ⟨q0, q1⟩ := B1.out.cells
  go_wp2_with fail
  refine (F1.out _).mono ?_
  rintro e y2 ⟨rfl, b⟩
  have B2 := Lib.hid (B1.out.next b)
  clear b q0 q1
  go_wp2_with fail
  refine (F3.out _ B2.out.bel).mono ?_
  rintro e y2' ⟨rfl, rfl⟩
  obtain ⟨q0, q1⟩ := B2.out.cells
  go_wp2_with fail
  refine (own_g10 (HG.out _ B2.out.bel)).mono ?_
  rintro e y3 ⟨A1, c1, F1, d1, rfl, hg1, b7b⟩
  have B3 := Lib.hid (B2.out.next b7b)
  have HG1 := Lib.hid hg1
  clear hg1 q0 q1
  go_wp2_with (at_builtin; refine wpList_copiedO rfl _ _ rfl y3 N nc nn need HL.out (by omega) (HI.out _ B3.out.bel) HA.out rfl rfl ?_; intro A2 c2 y4 hi4 hn4 hb4; (have HI2 := Lib.hid (And.intro hi4 hn4)); (have HB4 := Lib.hid hb4); clear hi4 hn4 hb4)
  refine (HK.out.run (W := W) (E := E) (need := need) cores y4 HC.out.1 HC.out.2 (HG1.out.below HB4.out) HL.out (by omega) HI2.out.1 HI2.out.2 HS.out).mono ?_
  rintro e y5 ⟨v, he, hg5, b⟩
  obtain ⟨T5, tc5, rfl, ht5, hN5⟩ := hg5
  rw [← HE.out.1] at he
  rw [← HE.out.2.1] at he ht5 hN5
  subst he
  have B5a := Lib.hid ((B3.out.next HB4.out).next b)
  clear b HG1 HI2 HB4 B3 b7b
  by_cases h0 : ne = 0
  · have HZ : Hid (schedE W E need cores r = 0 ∧ greedyB W E need cores r = true ∧ endsV W E need cores r = (List.range need.length).map (fun n : Nat => endV need r (n : Int)) ∧ (r.length : Int) ≤ boundV W E need cores) := Lib.hid (by
      rw [HE.out.2.1]; exact runV_sched (by rw [← HE.out.1]; exact h0))
    have HO : Hid (need.length = W.length ∧ RunOk W.length E need cores.toNat r) := Lib.hid (by
      have h1 : newE W E need cores = 0 := by rw [← HE.out.1]; exact h0
      rw [HE.out.2.1]; exact ⟨(newE_zero.mp h1).2.1, runV_ok h1⟩)
    obtain ⟨tn, htn⟩ : ∃ k, r.length = k := ⟨_, rfl⟩
    rw [htn] at HZ hN5 ⊢
    have ht3 : tn ≤ 300 := by have := HR.out.1; omega
    have HTN := Lib.hid htn
    have B5 : Hid (BxT w0 A n c F m d T5 tn tc5 r y5) := Lib.hid ⟨B5a.out, ht5, htn, ht3, HR.out.2, hN5⟩
    have HBD0 := HZ.out.2.2.2
    obtain ⟨bd, hbd⟩ : ∃ b, boundV W E need cores = b := ⟨_, rfl⟩
    rw [hbd] at HBD0
    have HBD : Hid (boundV W E need cores = bd) := Lib.hid hbd
    have hleb : decide ((tn : Int) ≤ bd) = true := decide_eq_true HBD0
    subst h0
    clear ht5 hN5 htn B5a hbd HBD0
    obtain ⟨q0, q1⟩ := B5.out.cells
    go_wp2_with fail
    refine (own_g10 (HG.out _ B5.out.bel)).mono ?_
    rintro e y6 ⟨A1, c1, F1, d1, rfl, hg1, b7b⟩
    have B6 := Lib.hid (B5.out.next b7b)
    have HK6 := Lib.hid hg1
    clear hg1 q0 q1
    go_wp2_with (at_builtin; refine wpList_copiedO rfl _ _ rfl y6 N nc nn need HL.out (by omega) (HI.out _ B6.out.bel) HA.out rfl rfl ?_; intro A2 c2 y7 hi4 hn4 hb4; (have HI7 := Lib.hid (And.intro hi4 hn4)); (have HB4 := Lib.hid hb4); clear hi4 hn4 hb4)
    have B7 := Lib.hid (B6.out.next HB4.out)
    have HG7 := Lib.hid (HK6.out.below HB4.out)
    clear HK6 HB4 B6 b7b
    refine (ends_any cores _ HG7.out (B7.out.isS HL.out h70 HI7.out)).mono ?_
    rintro e y8 ⟨Ae, ce, rfl, hIe, b⟩
    have B8 := Lib.hid (B7.out.next b)
    rw [HZ.out.2.2.1] at hIe ⊢
    have HIE := Lib.hid hIe
    rw [List.length_map, List.length_range, HL.out]
    clear b hIe HG7 HI7 B7 B5
    go_wp2
    go_loopw [10, 11] (fun sv v wr => ∃ (k : Nat) (s : Int), k ≤ nn ∧ v = .int .i64 k ∧ sv = .int .i64 s ∧ 0 ≤ s ∧ s ≤ 300 ∧ Hid ((∀ j : Nat, j < k → endV need r (j : Int) ≤ s) ∧ (s = 0 ∨ ∃ j : Nat, j < k ∧ s = endV need r (j : Int))) ∧ y8 = wr) (fun _ v _ => nn - (intOf v).toNat)
    case atStart => exact ⟨0, 0, Nat.zero_le _, rfl, rfl, by omega, by omega, Lib.hid ⟨fun j hj => absurd hj (Nat.not_lt_zero _), .inl rfl⟩, rfl⟩
    case round =>
      obtain ⟨k, s, hk, rfl, rfl, hs0, hs1, HSM, rfl⟩ := hrel
      by_cases hlt : k < nn
      · obtain ⟨be, oe, ez, hAe, hbe, hze, hce⟩ := HIE.out.at_ (k := k) (by rw [List.length_map, List.length_range, HL.out]; exact hlt)
        subst hAe
        have hEV : endV need r (k : Int) = ez := by
          rw [List.getElem?_map, List.getElem?_range (by rw [HL.out]; exact hlt)] at hze
          simpa using hze
        have hez : 0 ≤ ez ∧ ez ≤ 300 := by
          have h1 := HO.out.2.done k (by rw [← HO.out.1, HL.out]; exact hlt)
          have h2 := HO.out.2.within k (by rw [← HO.out.1, HL.out]; exact hlt)
          rw [HTN.out] at h2
          omega
        have HEV := Lib.hid hEV
        have hnf : decide (ez < 0) = false := decide_eq_false (by omega)
        clear hze hEV
        have HSM2 : Hid ((∀ j : Nat, j < k + 1 → endV need r (j : Int) ≤ max s ez) ∧ (max s ez = 0 ∨ ∃ j : Nat, j < k + 1 ∧ max s ez = endV need r (j : Int))) := Lib.hid (by
          obtain ⟨h1, h2⟩ := HSM.out
          have he := HEV.out
          refine ⟨fun j hj => ?_, ?_⟩
          · rcases Nat.lt_or_ge j k with h3 | h3
            · have := h1 j h3
              omega
            · rw [show j = k by omega, he]; omega
          · rcases Int.le_total s ez with h3 | h3
            · right
              exact ⟨k, by omega, by rw [he, Int.max_eq_right h3]⟩
            · rw [Int.max_eq_left h3]
              rcases h2 with h2 | ⟨j, hj, h2⟩
              · exact .inl h2
              · exact .inr ⟨j, by omega, h2⟩)
        rcases Int.le_total s ez with h3 | h3
        · rw [Int.max_eq_right h3] at HSM2
          go_wp2
          go_roundw
          case rel => exact ⟨k + 1, ez, by omega, by go_num, by first | rfl | (congr 1; omega), by omega, by omega, HSM2, (by first | trivial | rfl)⟩
          case measure => simp [intOf]; omega
        · rw [Int.max_eq_left h3] at HSM2
          go_wp2
          go_roundw
          case rel => exact ⟨k + 1, s, by omega, by go_num, by first | rfl | (congr 1; omega), by omega, by omega, HSM2, (by first | trivial | rfl)⟩
          case measure => simp [intOf]; omega
      · obtain rfl : nn = k := by omega
        obtain rfl : s = (tn : Int) := by
          obtain ⟨h1, h2⟩ := HSM.out
          have hw := fun (x : Nat) (hx : x < nn) => HO.out.2.within x (by rw [← HO.out.1, HL.out]; exact hx)
          rw [HTN.out] at hw
          have hls := HO.out.2.last
          rw [HTN.out, ← HO.out.1, HL.out] at hls
          have hle : s ≤ tn := by
            rcases h2 with h2 | ⟨j, hj, h2⟩
            · omega
            · rw [h2]; exact hw j hj
          rcases Nat.eq_zero_or_pos tn with h3 | h3
          · omega
          · obtain ⟨x, hx, he⟩ := hls h3
            have := h1 x hx
            omega
        have htt : ((tn : Int) == (tn : Int)) = true := by simp
        clear HSM hs0 hs1 HIE HO HTN
        obtain ⟨q0, q1⟩ := B8.out.cells
        go_wp2_with fail
        refine (own_g10 (HG.out _ B8.out.bel)).mono ?_
        rintro e y9 ⟨A1, c1, F1, d1, rfl, hg1, b7b⟩
        have B9 := Lib.hid (B8.out.next b7b)
        have HK9 := Lib.hid hg1
        clear hg1 q0 q1
        go_wp2_with (at_builtin; refine wpList_copiedO rfl _ _ rfl y9 N nc nn need HL.out (by omega) (HI.out _ B9.out.bel) HA.out rfl rfl ?_; intro A2 c2 y10 hi4 hn4 hb4; (have HI10 := Lib.hid (And.intro hi4 hn4)); (have HB4 := Lib.hid hb4); clear hi4 hn4 hb4)
        have B10 := Lib.hid (B9.out.next HB4.out)
        have HG10 := Lib.hid (HK9.out.below HB4.out)
        clear HK9 HB4 B9 b7b
        refine (scheck_any cores _ HG10.out (B10.out.isS HL.out h70 HI10.out)).mono ?_
        rintro e y11 ⟨he, b⟩
        rw [HZ.out.1] at he
        subst he
        have B11 := Lib.hid (B10.out.next b)
        clear b HG10 HI10 B10
        obtain ⟨q0, q1⟩ := B11.out.cells
        go_wp2_with fail
        refine (own_g10 (HG.out _ B11.out.bel)).mono ?_
        rintro e y12 ⟨A1, c1, F1, d1, rfl, hg1, b7b⟩
        have B12 := Lib.hid (B11.out.next b7b)
        have HK12 := Lib.hid hg1
        clear hg1 q0 q1
        go_wp2_with (at_builtin; refine wpList_unguard (by first | rfl | simp [Region.wanted, yielded]) ?_; refine wpList_copiedO rfl _ _ rfl y12 N nc nn need HL.out (by omega) (HI.out _ B12.out.bel) HA.out rfl rfl ?_; intro A2 c2 y13 hi4 hn4 hb4; (have HI13 := Lib.hid (And.intro hi4 hn4)); (have HB4 := Lib.hid hb4); clear hi4 hn4 hb4)
        have B13 := Lib.hid (B12.out.next HB4.out)
        have HG13 := Lib.hid (HK12.out.below HB4.out)
        clear HK12 HB4 B12 b7b
        refine (greedy_any cores _ HG13.out (B13.out.isS HL.out h70 HI13.out)).mono ?_
        rintro e y14 ⟨he, b⟩
        rw [HZ.out.2.1] at he
        subst he
        have B14 := Lib.hid (B13.out.next b)
        clear b HG13 HI13 B13
        obtain ⟨q0, q1⟩ := B14.out.cells
        go_wp2_with fail
        refine (own_g10 (HG.out _ B14.out.bel)).mono ?_
        rintro e y15 ⟨A1, c1, F1, d1, rfl, hg1, b7b⟩
        have B15 := Lib.hid (B14.out.next b7b)
        have HK15 := Lib.hid hg1
        clear hg1 q0 q1
        go_wp2_with (at_builtin; refine wpList_unguard (by first | rfl | simp [Region.wanted, yielded]) ?_; refine wpList_copiedO rfl _ _ rfl y15 N nc nn need HL.out (by omega) (HI.out _ B15.out.bel) HA.out rfl rfl ?_; intro A2 c2 y16 hi4 hn4 hb4; (have HI16 := Lib.hid (And.intro hi4 hn4)); (have HB4 := Lib.hid hb4); clear hi4 hn4 hb4)
        have B16 := Lib.hid (B15.out.next HB4.out)
        have HG16 := Lib.hid (HK15.out.below HB4.out)
        clear HK15 HB4 B15 b7b
        refine (bound_any cores _ HG16.out HL.out (by omega) HI16.out.1 HI16.out.2).mono ?_
        rintro e y17 ⟨he, b⟩
        rw [HBD.out] at he
        subst he
        have B17 := Lib.hid (B16.out.next b)
        clear b HG16 HI16 B16
        go_wp2
        go_ret
        exact ⟨rfl, B17.out.bel⟩
  · have hr0 : r = [] := by
      rw [HE.out.2.1]; unfold runV; rw [if_neg (by rw [← HE.out.1]; exact h0)]
    subst hr0
    have hnb : (ne != 0) = true := bne_iff_ne.mpr h0
    have hne0 : (ne == 0) = false := by simpa using h0
    clear ht5 hN5 h0
    go_wp2
    go_ret
    exact ⟨rfl, B5a.out.bel⟩

theorem walk_ListSched (K : ListOk) (w0 : World) (hT : Tab64 w0) (hg : InG w0 A n c F m d W E) (hs : InNL w0 N nn nc need) (cores : Int) (hc : -9223372036854775808 ≤ cores ∧ cores ≤ 9223372036854775807) : Calls Tryd.prog 5 #[.agg #[.slice A n c, .slice F m d], .slice N nn nc, .int .i64 cores] w0 fun e w' => e = .returned (.bool true) ∧ Below w0.heap.size w0 w' := by
  by_cases h : (n ≤ 70 ∧ m ≤ 300) ∧ nn ≤ 70 ∧ litV 300 need = true
  · exact lsched_few w0 cores hc K (hg.isG hT h.1.1 h.1.2) hs h.1.1 h.1.2 h.2.1 h.2.2
  · exact lsched_many w0 cores hT hg hs K h
end
end Go.Proofs.YtmmogdccjiagnaaDoor
