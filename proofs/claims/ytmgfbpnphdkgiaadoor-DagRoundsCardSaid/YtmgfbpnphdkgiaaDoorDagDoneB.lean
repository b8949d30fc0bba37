/- dag.Succs and dag.Before in the seat YtmgfbpnphdkgiaaDoor: their contracts. No statement is proved here. -/
import Derived.Test.YtmgfbpnphdkgiaaDoorDagDoneA
set_option linter.unusedVariables false
namespace Go.Proofs.YtmgfbpnphdkgiaaDoor
open Go.RowKit

theorem succsL_bits {n T : Nat} {E : List (Int × Int)} (hn : n ≤ 64) (hF : Fits n E) {y : Nat} (h : ∀ a, T.testBit a = (decide (a < n) && decide (ed E y a))) : succsL n E y = nums (bitsL T) := by
  rw [bitsL_of hn h (fun a ha => by rw [Bool.and_eq_true, decide_eq_true_iff] at ha; exact ha.1)]
  unfold succsL
  apply List.filter_congr
  intro a ha
  obtain ⟨b, hb, rfl⟩ := List.mem_map.mp ha
  have hb2 := List.mem_range.mp hb
  show decide _ = (decide (b < n) && decide (ed E y b))
  rw [decide_eq_true hb2, Bool.true_and]
  rfl
theorem succ_step {T y j : Nat} {E : List (Int × Int)} (h : ∀ a, T.testBit a = (decide (a < j) && decide (ed E y a))) (he : ed E y j) (a : Nat) : (T ||| 2 ^ j).testBit a = (decide (a < j + 1) && decide (ed E y a)) := by
  rw [or_bit_testBit, h, Bool.eq_iff_iff]
  simp only [Bool.or_eq_true, Bool.and_eq_true, decide_eq_true_iff]
  constructor
  · rintro (⟨k1, k2⟩ | k)
    · exact ⟨by omega, k2⟩
    · exact ⟨by omega, k ▸ he⟩
  · rintro ⟨k1, k2⟩
    by_cases hj : j = a
    · exact .inr hj
    · exact .inl ⟨by omega, k2⟩
theorem succ_skip {T y j : Nat} {E : List (Int × Int)} (h : ∀ a, T.testBit a = (decide (a < j) && decide (ed E y a))) (he : ¬ ed E y j) (a : Nat) : T.testBit a = (decide (a < j + 1) && decide (ed E y a)) := by
  rw [h, Bool.eq_iff_iff]
  simp only [Bool.and_eq_true, decide_eq_true_iff]
  constructor
  · rintro ⟨k1, k2⟩
    exact ⟨by omega, k2⟩
  · rintro ⟨k1, k2⟩
    by_cases hj : j = a
    · exact absurd (hj ▸ k2) he
    · exact ⟨by omega, k2⟩
theorem and_ne_zero_iff (p u : Nat) : p &&& u ≠ 0 ↔ ∃ i, p.testBit i = true ∧ u.testBit i = true := by
  constructor
  · intro h
    obtain ⟨i, hi⟩ := Nat.exists_testBit_of_ne_zero h
    rw [Nat.testBit_and, Bool.and_eq_true] at hi
    exact ⟨i, hi⟩
  · rintro ⟨i, h1, h2⟩ h
    have : (p &&& u).testBit i = false := by rw [h, Nat.zero_testBit]
    rw [Nat.testBit_and, h1, h2] at this
    cases this
theorem way_order {n : Nat} {E : List (Int × Int)} {out : List Nat} (h : Ordered n E out) {j x a : Nat} (hx : out[j]? = some x) : (∃ p, ed E p x ∧ (p = a ∨ (p ∈ out.take j ∧ Way E a p))) ↔ Way E a x := by
  constructor
  · rintro ⟨p, he, rfl | ⟨_, hw⟩⟩
    · exact .one he
    · exact .more hw he
  · intro hw
    obtain ⟨p, he, hp⟩ := hw.last
    refine ⟨p, he, hp.imp id fun k => ⟨?_, k⟩⟩
    obtain ⟨hj, e⟩ := List.getElem?_eq_some_iff.mp hx
    exact h.behind j hj p (by rw [e]; exact he)

section
variable {A : Option Addr} {n c : Nat} {F : Option Addr} {m d : Nat} {W : List Int} {E : List (Int × Int)}
set_option maxHeartbeats 4000000 in
theorem succs_done (w : World) (x : Int) (h : IsG w A n c F m d W E) : Calls Tryd.prog 21 #[.agg #[.slice A n c, .slice F m d], .int .i64 x] w (GotInts (succsV W E x) w) := by
  have H := Lib.hid h
  have ln := h.ln
  have CN := Lib.hid (fun W' => is_node x n W' (by omega))
  by_cases hM : May W E
  · have C := Lib.hid (fun w' (h : IsG w' A n c F m d W E) => read_ok w' h hM)
    have HO := Lib.hid (show succsV W E x = succsL n E x by unfold succsV; rw [if_pos hM, h.hn])
    have hF : Fits n E := by rw [← h.hn]; exact hM.fits
    have hn64 : n ≤ 64 := by rw [← h.hn]; exact hM.nodes
    obtain ⟨l, hl⟩ : ∃ l, l = succsV W E x := ⟨_, rfl⟩
    rw [← hl] at HO ⊢
    by_cases hx : 0 ≤ x ∧ x < n
    · rw [decide_eq_true hx] at CN
      obtain ⟨y, rfl⟩ := Int.eq_ofNat_of_zero_le hx.1
      have hy : y < n := by omega
      have HSB := Lib.hid (fun T h => succsL_bits (T := T) (y := y) hn64 hF h)
      have CH := Lib.hid (fun s hs W' => set_has s y W' hs (by omega))
      have CW := Lib.hid (fun s j hs hj W' => set_with s j W' hs hj)
      have CR := Lib.hid (fun s W' hs hT => set_row s W' hs hT)
      clear h hM hl hF hx
      go_enter Tryd.func21, Tryd.ntmps21
      go_wp2_with fail
      refine (C.out _ (H.out.below (below_alloc _))).mono ?_
      rintro e w1 ⟨g, A', c', rfl, hR⟩
      have HB := Lib.hid ((below_alloc _).trans (hR.bel.mono (by simp)))
      obtain ⟨ps, hV, hPS⟩ := hR.row
      have HV := Lib.hid (hV.alloc (.cells #[.slice (some ⟨g, 0, none⟩) n n, .slice A' n c'] 46))
      have HPS := Lib.hid hPS
      have HB2 := Lib.hid (HB.out.alloc HB.out.size (.cells #[.slice (some ⟨g, 0, none⟩) n n, .slice A' n c'] 46))
      have HT := Lib.hid (H.out.tab.via HB2.out)
      clear hR hV hPS
      go_wp2_with (go_at_call 38; refine (CN.out _).mono ?_; rintro e w' ⟨rfl, rfl⟩)
      obtain ⟨w2, hw2⟩ : ∃ w2, w2 = w1.alloc (.cells #[.slice (some ⟨g, 0, none⟩) n n, .slice A' n c'] 46) := ⟨_, rfl⟩
      rw [← hw2] at HV HB2 HT ⊢
      clear hw2
      go_loop [7, 28] (fun tv i => ∃ (j T : Nat), j ≤ n ∧ i = .int .i64 j ∧ tv = .int .u64 T ∧ T < 18446744073709551616 ∧ Hid (∀ a, T.testBit a = (decide (a < j) && decide (ed E y a)))) (fun _ i => n - (intOf i).toNat)
      case atStart => exact ⟨0, 0, Nat.zero_le _, rfl, rfl, by decide, Lib.hid (fun a => by rw [Nat.zero_testBit]; simp)⟩
      case round =>
        obtain ⟨j, T, hj, rfl, rfl, hT64, HTB⟩ := hrel
        by_cases hlt : j < n
        · have hc := HV.out.cell (natsV_at (ps := ps) (j := j) (by rw [HPS.out.len]; exact hlt))
          have C1 := Lib.hid (fun W' => CH.out (ps.getD j 0) (HPS.out.lt j hlt) W')
          have HBIT := Lib.hid (HPS.out.bit j hlt y)
          have C2 := Lib.hid (fun W' => CW.out T j hT64 (by omega) W')
          have hgl := HV.out.lt
          obtain ⟨p, hp⟩ : ∃ p, p = ps.getD j 0 := ⟨_, rfl⟩
          rw [← hp] at hc C1 HBIT
          have hor : T ||| 2 ^ j < 18446744073709551616 := Nat.or_lt_two_pow (n := 64) hT64 (Nat.pow_lt_pow_right (by decide) (by omega))
          clear hp
          by_cases he : ed E y j
          · rw [HBIT.out, decide_eq_true he] at C1
            have HST := Lib.hid (succ_step HTB.out he)
            clear he
            go_wp2_with (first
              | (go_at_call 39; refine (C1.out _).mono ?_; rintro e w' ⟨rfl, rfl⟩)
              | (go_at_call 40; refine (C2.out _).mono ?_; rintro e w' ⟨rfl, rfl⟩))
            go_round
            case rel => exact ⟨j + 1, T ||| 2 ^ j, by omega, by go_num, rfl, hor, HST⟩
            case measure => simp [intOf]; omega
          · rw [HBIT.out, decide_eq_false he] at C1
            have HST := Lib.hid (succ_skip HTB.out he)
            clear he
            go_wp2_with (go_at_call 39; refine (C1.out _).mono ?_; rintro e w' ⟨rfl, rfl⟩)
            go_round
            case rel => exact ⟨j + 1, T, by omega, by go_num, rfl, hT64, HST⟩
            case measure => simp [intOf]; omega
        · obtain rfl : j = n := by omega
          have HE := Lib.hid (HSB.out T HTB.out)
          have C3 := Lib.hid (CR.out T w2 hT64 HT.out)
          go_wp2_with (go_at_call 37; refine C3.out.mono ?_; rintro e w3 ⟨A2, c2, rfl, hI, b⟩; have HI := Lib.hid hI; have HB3 := Lib.hid b; clear hI b)
          go_ret
          rw [HO.out, HE.out]
          exact ⟨A2, c2, rfl, HI.out, HB2.out.trans (HB3.out.mono HB2.out.size)⟩
    · rw [decide_eq_false hx] at CN
      have HNIL := Lib.hid (succsL_out hF hx)
      clear h hM hl hF hx
      go_enter Tryd.func21, Tryd.ntmps21
      go_wp2_with fail
      refine (C.out _ (H.out.below (below_alloc _))).mono ?_
      rintro e w1 ⟨g, A', c', rfl, hR⟩
      have HB := Lib.hid ((below_alloc _).trans (hR.bel.mono (by simp)))
      clear hR
      go_wp2_with (go_at_call 38; refine (CN.out _).mono ?_; rintro e w' ⟨rfl, rfl⟩)
      go_ret
      rw [HO.out, HNIL.out]
      exact gotInts_nil (HB.out.alloc HB.out.size _)
  · have C := Lib.hid (fun w' (h : IsG w' A n c F m d W E) => read_not w' h hM)
    have HO : succsV W E x = [] := by unfold succsV; rw [if_neg hM]
    rw [HO]
    have hc : (chkE W E != 0) = true := by
      rw [bne_iff_ne]
      exact fun q => hM (chkE_zero.mp q)
    obtain ⟨r, hr⟩ : ∃ r, r = chkE W E := ⟨_, rfl⟩
    rw [← hr] at C hc
    clear h hM hr HO
    go_enter Tryd.func21, Tryd.ntmps21
    go_wp2_with fail
    refine (C.out _ (H.out.below (below_alloc _))).mono ?_
    rintro e w1 ⟨rfl, b⟩
    have HB := Lib.hid ((below_alloc _).trans (b.mono (by simp)))
    clear b
    go_wp2
    go_ret
    exact gotInts_nil (HB.out.alloc HB.out.size _)
end
end Go.Proofs.YtmgfbpnphdkgiaaDoor
