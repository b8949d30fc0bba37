/- dag.Check, Order, Preds, Succs and Before in the seat YtfahabphncmbfaaGreatDoor: their contracts.
   dag.Succs and dag.Before in the seat YtfahabphncmbfaaGreatDoor: their contracts.
   dag.Before in the seat YtfahabphncmbfaaGreatDoor: its contract.
   Integers as values, and 'make([]int, n)', in the seat YtfahabphncmbfaaGreatDoor.
   dag.Long in the seat YtfahabphncmbfaaGreatDoor: plain mathematics, and the contract of its closure.
   dag.Long in the seat YtfahabphncmbfaaGreatDoor: its contract.
   No statement is proved here. -/
import Derived.Test.YtfahabphncmbfaaGreatDoorZM19
import Derived.Test.YtfahabphncmbfaaGreatDoorZM17
import Derived.Laws.MakeOwn
import Derived.Deep.RegionWith
set_option linter.unusedSimpArgs false
set_option linter.unusedVariables false
namespace Go.Proofs.YtfahabphncmbfaaGreatDoor
open Go.RowKit

section
variable {A : Option Addr} {n c : Nat} {F : Option Addr} {m d : Nat} {W : List Int} {E : List (Int × Int)}
theorem IsR.next {w w1 w2 : World} {g : Nat} {A' : Option Addr} {c' : Nat} (h : IsR w g n A' c' E w1) (hb : Below w1.heap.size w1 w2) : IsR w g n A' c' E w2 :=
  ⟨h.bel.trans (hb.mono h.bel.size), (h.ints.below hb).more hb.size, by
    obtain ⟨ps, h1, h2⟩ := h.row
    exact ⟨ps, h1.below hb h1.lt, h2⟩, h.low⟩
theorem gotInts_nil {w w' : World} (hb : Below w.heap.size w w') : GotInts [] w (.returned (.slice none 0 0)) w' := ⟨none, 0, rfl, Ints.nil_ _ _ _, hb⟩

set_option maxHeartbeats 2000000 in
theorem check_done (w : World) (h : IsG w A n c F m d W E) :
    Calls Tryz.prog 74 #[.agg #[.slice A n c, .slice F m d]] w fun e w' => e = .returned (.int .i64 (chkE W E)) ∧ Below w.heap.size w w' := by
  have H := Lib.hid h
  by_cases hM : May W E
  · have C := Lib.hid (fun w' (h : IsG w' A n c F m d W E) => read_ok w' h hM)
    rw [chkE_zero.mpr hM]
    clear h hM
    go_enter Tryz.func74, Tryz.ntmps74
    go_wp2_with fail
    refine (C.out _ (H.out.below (below_alloc _))).mono ?_
    rintro e w1 ⟨g, A', c', rfl, hR⟩
    have HB := Lib.hid ((below_alloc _).trans (hR.bel.mono (by simp)))
    clear hR
    go_wp2
    go_ret
    exact ⟨rfl, HB.out.alloc HB.out.size _⟩
  · have C := Lib.hid (fun w' (h : IsG w' A n c F m d W E) => read_not w' h hM)
    obtain ⟨r, hr⟩ : ∃ r, r = chkE W E := ⟨_, rfl⟩
    rw [← hr] at C ⊢
    clear h hM hr
    go_enter Tryz.func74, Tryz.ntmps74
    go_wp2_with fail
    refine (C.out _ (H.out.below (below_alloc _))).mono ?_
    rintro e w1 ⟨rfl, b⟩
    have HB := Lib.hid ((below_alloc _).trans (b.mono (by simp)))
    clear b
    go_wp2
    go_ret
    exact ⟨rfl, HB.out.alloc HB.out.size _⟩
/-! Plain: what sets tell -/
theorem range_filter {p : Nat → Bool} {n : Nat} (h : ∀ a, p a = true → a < n) : ∀ k, (List.range (n + k)).filter p = (List.range n).filter p
  | 0 => rfl
  | k + 1 => by
    rw [show n + (k + 1) = (n + k) + 1 by omega, List.range_succ, List.filter_append, range_filter h k]
    have : p (n + k) = false := by
      cases hp : p (n + k) with
      | false => rfl
      | true => exact absurd (h _ hp) (by omega)
    simp [this]
theorem bitsL_of {s n : Nat} {p : Nat → Bool} (hn : n ≤ 64) (h : ∀ a, s.testBit a = p a) (hp : ∀ a, p a = true → a < n) : nums (bitsL s) = ((List.range n).map Int.ofNat).filter fun a => p a.toNat := by
  unfold bitsL nums
  rw [show s.testBit = p from funext h]
  obtain ⟨k, hk⟩ : ∃ k, 64 = n + k := ⟨64 - n, by omega⟩
  rw [hk, range_filter hp, List.filter_map]
  rfl
theorem predsL_bits {n : Nat} {E : List (Int × Int)} {ps : List Nat} (hn : n ≤ 64) (hF : Fits n E) (h : PredsOf n E ps) {y : Nat} (hy : y < n) : predsL n E y = nums (bitsL (ps.getD y 0)) := by
  rw [bitsL_of hn (h.bit y hy) (fun a ha => (ed_lt hF (of_decide_eq_true ha)).1)]
  unfold predsL
  apply List.filter_congr
  intro a ha
  obtain ⟨b, _, rfl⟩ := List.mem_map.mp ha
  rfl
theorem predsL_out {n : Nat} {E : List (Int × Int)} (hF : Fits n E) {x : Int} (h : ¬ (0 ≤ x ∧ x < n)) : predsL n E x = [] := by
  unfold predsL
  rw [List.filter_eq_nil_iff]
  intro a _ k
  have := hF _ (of_decide_eq_true k)
  exact h ⟨this.2.2.1, this.2.2.2⟩
theorem succsL_out {n : Nat} {E : List (Int × Int)} (hF : Fits n E) {x : Int} (h : ¬ (0 ≤ x ∧ x < n)) : succsL n E x = [] := by
  unfold succsL
  rw [List.filter_eq_nil_iff]
  intro a _ k
  have := hF _ (of_decide_eq_true k)
  exact h ⟨this.1, this.2.1⟩
end

section
variable {A : Option Addr} {n c : Nat} {F : Option Addr} {m d : Nat} {W : List Int} {E : List (Int × Int)}
theorem GotInts.up {w w1 : World} {zs : List Int} {e : Ending} {w' : World} (h : GotInts zs w1 e w') (hb : Below w.heap.size w w1) : GotInts zs w e w' := by
  obtain ⟨A, c, he, hI, b⟩ := h
  exact ⟨A, c, he, hI, hb.trans (b.mono hb.size)⟩
set_option maxHeartbeats 4000000 in
theorem preds_done (w : World) (x : Int) (h : IsG w A n c F m d W E) : Calls Tryz.prog 252 #[.agg #[.slice A n c, .slice F m d], .int .i64 x] w (GotInts (predsV W E x) w) := by
  have H := Lib.hid h
  have ln := h.ln
  have CN := Lib.hid (fun W' => is_node x n W' (by omega))
  by_cases hM : May W E
  · have C := Lib.hid (fun w' (h : IsG w' A n c F m d W E) => read_ok w' h hM)
    have HO := Lib.hid (show predsV W E x = predsL n E x by unfold predsV; rw [if_pos hM, h.hn])
    have hF : Fits n E := by rw [← h.hn]; exact hM.fits
    have hn64 : n ≤ 64 := by rw [← h.hn]; exact hM.nodes
    obtain ⟨l, hl⟩ : ∃ l, l = predsV W E x := ⟨_, rfl⟩
    rw [← hl] at HO ⊢
    by_cases hx : 0 ≤ x ∧ x < n
    · rw [decide_eq_true hx] at CN
      obtain ⟨y, rfl⟩ := Int.eq_ofNat_of_zero_le hx.1
      have hy : y < n := by omega
      have HPB := Lib.hid (fun ps (h : PredsOf n E ps) => predsL_bits hn64 hF h hy)
      clear h hM hl hF hx
      go_enter Tryz.func252, Tryz.ntmps252
      go_wp2_with fail
      refine (C.out _ (H.out.below (below_alloc _))).mono ?_
      rintro e w1 ⟨g, A', c', rfl, hR⟩
      have HB := Lib.hid ((below_alloc _).trans (hR.bel.mono (by simp)))
      obtain ⟨ps, hV, hPS⟩ := hR.row
      have hgl := hV.lt
      have hc := hV.cell (natsV_at (ps := ps) (j := y) (by rw [hPS.len]; exact hy))
      have CR := Lib.hid (fun W' (hT : Tab64 W') => set_row (ps.getD y 0) W' (hPS.lt y hy) hT)
      have HE := Lib.hid (HPB.out ps hPS)
      obtain ⟨p, hp⟩ : ∃ p, p = ps.getD y 0 := ⟨_, rfl⟩
      rw [← hp] at hc CR HE
      clear hR hV hPS hp
      go_wp2_with (first
        | (go_at_call 148; refine (CN.out _).mono ?_; rintro e w' ⟨rfl, rfl⟩)
        | (go_at_call 126; refine (CR.out _ ((H.out.tab.via HB.out).via (below_alloc _))).mono ?_; rintro e w2 ⟨A2, c2, rfl, hI, b⟩; have HI := Lib.hid hI; have HB2 := Lib.hid b; clear hI b))
      go_ret
      rw [HO.out, HE.out]
      exact ⟨A2, c2, rfl, HI.out, HB.out.trans ((below_alloc _).trans (HB2.out.mono (by simp)) |>.mono HB.out.size)⟩
    · rw [decide_eq_false hx] at CN
      have HNIL := Lib.hid (predsL_out hF hx)
      clear h hM hl hF hx
      go_enter Tryz.func252, Tryz.ntmps252
      go_wp2_with fail
      refine (C.out _ (H.out.below (below_alloc _))).mono ?_
      rintro e w1 ⟨g, A', c', rfl, hR⟩
      have HB := Lib.hid ((below_alloc _).trans (hR.bel.mono (by simp)))
      clear hR
      go_wp2_with (go_at_call 148; refine (CN.out _).mono ?_; rintro e w' ⟨rfl, rfl⟩)
      go_ret
      rw [HO.out, HNIL.out]
      exact gotInts_nil (HB.out.alloc HB.out.size _)
  · have C := Lib.hid (fun w' (h : IsG w' A n c F m d W E) => read_not w' h hM)
    have HO : predsV W E x = [] := by unfold predsV; rw [if_neg hM]
    rw [HO]
    have hc : (chkE W E != 0) = true := by
      rw [bne_iff_ne]
      exact fun q => hM (chkE_zero.mp q)
    obtain ⟨r, hr⟩ : ∃ r, r = chkE W E := ⟨_, rfl⟩
    rw [← hr] at C hc
    clear h hM hr HO
    go_enter Tryz.func252, Tryz.ntmps252
    go_wp2_with fail
    refine (C.out _ (H.out.below (below_alloc _))).mono ?_
    rintro e w1 ⟨rfl, b⟩
    have HB := Lib.hid ((below_alloc _).trans (b.mono (by simp)))
    clear b
    go_wp2
    go_ret
    exact gotInts_nil (HB.out.alloc HB.out.size _)
end
end Go.Proofs.YtfahabphncmbfaaGreatDoor
set_option linter.unusedVariables false
namespace Go.Proofs.YtfahabphncmbfaaGreatDoor
open Go.RowKit

theorem succsL_bits {n T : Nat} {E : List (Int × Int)} (hn : n ≤ 64) (hF : Fits n E) {y : Nat} (h : ∀ a, T.testBit a = (decide (a < n) && decide (ed E y a))) : succsL n E y = nums (bitsL T) := by
  rw [bitsL_of hn h (fun a ha => by rw [Bool.and_eq_true, decide_eq_true_iff] at ha; exact ha.1)]
  unfold succsL
  apply List.filter_congr
  intro a ha
  obtain ⟨b, hb, rfl⟩ := List.mem_map.mp ha
  have hb2 := List.mem_range.mp hb
  show decide _ = (decide (b < n) && decide (ed E y b))
  rw [decide_eq_true hb2, Bool.true_and]
  rfl
theorem succ_step {T y j : Nat} {E : List (Int × Int)} (h : ∀ a, T.testBit a = (decide (a < j) && decide (ed E y a))) (he : ed E y j) (a : Nat) : (T ||| 2 ^ j).testBit a = (decide (a < j + 1) && decide (ed E y a)) := by
  rw [or_bit_testBit, h, Bool.eq_iff_iff]
  simp only [Bool.or_eq_true, Bool.and_eq_true, decide_eq_true_iff]
  constructor
  · rintro (⟨k1, k2⟩ | k)
    · exact ⟨by omega, k2⟩
    · exact ⟨by omega, k ▸ he⟩
  · rintro ⟨k1, k2⟩
    by_cases hj : j = a
    · exact .inr hj
    · exact .inl ⟨by omega, k2⟩
theorem succ_skip {T y j : Nat} {E : List (Int × Int)} (h : ∀ a, T.testBit a = (decide (a < j) && decide (ed E y a))) (he : ¬ ed E y j) (a : Nat) : T.testBit a = (decide (a < j + 1) && decide (ed E y a)) := by
  rw [h, Bool.eq_iff_iff]
  simp only [Bool.and_eq_true, decide_eq_true_iff]
  constructor
  · rintro ⟨k1, k2⟩
    exact ⟨by omega, k2⟩
  · rintro ⟨k1, k2⟩
    by_cases hj : j = a
    · exact absurd (hj ▸ k2) he
    · exact ⟨by omega, k2⟩
theorem and_ne_zero_iff (p u : Nat) : p &&& u ≠ 0 ↔ ∃ i, p.testBit i = true ∧ u.testBit i = true := by
  constructor
  · intro h
    obtain ⟨i, hi⟩ := Nat.exists_testBit_of_ne_zero h
    rw [Nat.testBit_and, Bool.and_eq_true] at hi
    exact ⟨i, hi⟩
  · rintro ⟨i, h1, h2⟩ h
    have : (p &&& u).testBit i = false := by rw [h, Nat.zero_testBit]
    rw [Nat.testBit_and, h1, h2] at this
    cases this
theorem way_order {n : Nat} {E : List (Int × Int)} {out : List Nat} (h : Ordered n E out) {j x a : Nat} (hx : out[j]? = some x) : (∃ p, ed E p x ∧ (p = a ∨ (p ∈ out.take j ∧ Way E a p))) ↔ Way E a x := by
  constructor
  · rintro ⟨p, he, rfl | ⟨_, hw⟩⟩
    · exact .one he
    · exact .more hw he
  · intro hw
    obtain ⟨p, he, hp⟩ := hw.last
    refine ⟨p, he, hp.imp id fun k => ⟨?_, k⟩⟩
    obtain ⟨hj, e⟩ := List.getElem?_eq_some_iff.mp hx
    exact h.behind j hj p (by rw [e]; exact he)

section
variable {A : Option Addr} {n c : Nat} {F : Option Addr} {m d : Nat} {W : List Int} {E : List (Int × Int)}
set_option maxHeartbeats 4000000 in
theorem succs_done (w : World) (x : Int) (h : IsG w A n c F m d W E) : Calls Tryz.prog 95 #[.agg #[.slice A n c, .slice F m d], .int .i64 x] w (GotInts (succsV W E x) w) := by
  have H := Lib.hid h
  have ln := h.ln
  have CN := Lib.hid (fun W' => is_node x n W' (by omega))
  by_cases hM : May W E
  · have C := Lib.hid (fun w' (h : IsG w' A n c F m d W E) => read_ok w' h hM)
    have HO := Lib.hid (show succsV W E x = succsL n E x by unfold succsV; rw [if_pos hM, h.hn])
    have hF : Fits n E := by rw [← h.hn]; exact hM.fits
    have hn64 : n ≤ 64 := by rw [← h.hn]; exact hM.nodes
    obtain ⟨l, hl⟩ : ∃ l, l = succsV W E x := ⟨_, rfl⟩
    rw [← hl] at HO ⊢
    by_cases hx : 0 ≤ x ∧ x < n
    · rw [decide_eq_true hx] at CN
      obtain ⟨y, rfl⟩ := Int.eq_ofNat_of_zero_le hx.1
      have hy : y < n := by omega
      have HSB := Lib.hid (fun T h => succsL_bits (T := T) (y := y) hn64 hF h)
      have CH := Lib.hid (fun s hs W' => set_has s y W' hs (by omega))
      have CW := Lib.hid (fun s j hs hj W' => set_with s j W' hs hj)
      have CR := Lib.hid (fun s W' hs hT => set_row s W' hs hT)
      clear h hM hl hF hx
      go_enter Tryz.func95, Tryz.ntmps95
      go_wp2_with fail
      refine (C.out _ (H.out.below (below_alloc _))).mono ?_
      rintro e w1 ⟨g, A', c', rfl, hR⟩
      have HB := Lib.hid ((below_alloc _).trans (hR.bel.mono (by simp)))
      obtain ⟨ps, hV, hPS⟩ := hR.row
      have HV := Lib.hid (hV.alloc (.cells #[.slice (some ⟨g, 0, none⟩) n n, .slice A' n c'] 171))
      have HPS := Lib.hid hPS
      have HB2 := Lib.hid (HB.out.alloc HB.out.size (.cells #[.slice (some ⟨g, 0, none⟩) n n, .slice A' n c'] 171))
      have HT := Lib.hid (H.out.tab.via HB2.out)
      clear hR hV hPS
      go_wp2_with (go_at_call 148; refine (CN.out _).mono ?_; rintro e w' ⟨rfl, rfl⟩)
      obtain ⟨w2, hw2⟩ : ∃ w2, w2 = w1.alloc (.cells #[.slice (some ⟨g, 0, none⟩) n n, .slice A' n c'] 171) := ⟨_, rfl⟩
      rw [← hw2] at HV HB2 HT ⊢
      clear hw2
      go_loop [7, 28] (fun tv i => ∃ (j T : Nat), j ≤ n ∧ i = .int .i64 j ∧ tv = .int .u64 T ∧ T < 18446744073709551616 ∧ Hid (∀ a, T.testBit a = (decide (a < j) && decide (ed E y a)))) (fun _ i => n - (intOf i).toNat)
      case atStart => exact ⟨0, 0, Nat.zero_le _, rfl, rfl, by decide, Lib.hid (fun a => by rw [Nat.zero_testBit]; simp)⟩
      case round =>
        obtain ⟨j, T, hj, rfl, rfl, hT64, HTB⟩ := hrel
        by_cases hlt : j < n
        · have hc := HV.out.cell (natsV_at (ps := ps) (j := j) (by rw [HPS.out.len]; exact hlt))
          have C1 := Lib.hid (fun W' => CH.out (ps.getD j 0) (HPS.out.lt j hlt) W')
          have HBIT := Lib.hid (HPS.out.bit j hlt y)
          have C2 := Lib.hid (fun W' => CW.out T j hT64 (by omega) W')
          have hgl := HV.out.lt
          obtain ⟨p, hp⟩ : ∃ p, p = ps.getD j 0 := ⟨_, rfl⟩
          rw [← hp] at hc C1 HBIT
          have hor : T ||| 2 ^ j < 18446744073709551616 := Nat.or_lt_two_pow (n := 64) hT64 (Nat.pow_lt_pow_right (by decide) (by omega))
          clear hp
          by_cases he : ed E y j
          · rw [HBIT.out, decide_eq_true he] at C1
            have HST := Lib.hid (succ_step HTB.out he)
            clear he
            go_wp2_with (first
              | (go_at_call 149; refine (C1.out _).mono ?_; rintro e w' ⟨rfl, rfl⟩)
              | (go_at_call 150; refine (C2.out _).mono ?_; rintro e w' ⟨rfl, rfl⟩))
            go_round
            case rel => exact ⟨j + 1, T ||| 2 ^ j, by omega, by go_num, rfl, hor, HST⟩
            case measure => simp [intOf]; omega
          · rw [HBIT.out, decide_eq_false he] at C1
            have HST := Lib.hid (succ_skip HTB.out he)
            clear he
            go_wp2_with (go_at_call 149; refine (C1.out _).mono ?_; rintro e w' ⟨rfl, rfl⟩)
            go_round
            case rel => exact ⟨j + 1, T, by omega, by go_num, rfl, hT64, HST⟩
            case measure => simp [intOf]; omega
        · obtain rfl : j = n := by omega
          have HE := Lib.hid (HSB.out T HTB.out)
          have C3 := Lib.hid (CR.out T w2 hT64 HT.out)
          go_wp2_with (go_at_call 126; refine C3.out.mono ?_; rintro e w3 ⟨A2, c2, rfl, hI, b⟩; have HI := Lib.hid hI; have HB3 := Lib.hid b; clear hI b)
          go_ret
          rw [HO.out, HE.out]
          exact ⟨A2, c2, rfl, HI.out, HB2.out.trans (HB3.out.mono HB2.out.size)⟩
    · rw [decide_eq_false hx] at CN
      have HNIL := Lib.hid (succsL_out hF hx)
      clear h hM hl hF hx
      go_enter Tryz.func95, Tryz.ntmps95
      go_wp2_with fail
      refine (C.out _ (H.out.below (below_alloc _))).mono ?_
      rintro e w1 ⟨g, A', c', rfl, hR⟩
      have HB := Lib.hid ((below_alloc _).trans (hR.bel.mono (by simp)))
      clear hR
      go_wp2_with (go_at_call 148; refine (CN.out _).mono ?_; rintro e w' ⟨rfl, rfl⟩)
      go_ret
      rw [HO.out, HNIL.out]
      exact gotInts_nil (HB.out.alloc HB.out.size _)
  · have C := Lib.hid (fun w' (h : IsG w' A n c F m d W E) => read_not w' h hM)
    have HO : succsV W E x = [] := by unfold succsV; rw [if_neg hM]
    rw [HO]
    have hc : (chkE W E != 0) = true := by
      rw [bne_iff_ne]
      exact fun q => hM (chkE_zero.mp q)
    obtain ⟨r, hr⟩ : ∃ r, r = chkE W E := ⟨_, rfl⟩
    rw [← hr] at C hc
    clear h hM hr HO
    go_enter Tryz.func95, Tryz.ntmps95
    go_wp2_with fail
    refine (C.out _ (H.out.below (below_alloc _))).mono ?_
    rintro e w1 ⟨rfl, b⟩
    have HB := Lib.hid ((below_alloc _).trans (b.mono (by simp)))
    clear b
    go_wp2
    go_ret
    exact gotInts_nil (HB.out.alloc HB.out.size _)
end
end Go.Proofs.YtfahabphncmbfaaGreatDoor
set_option linter.unusedVariables false
namespace Go.Proofs.YtfahabphncmbfaaGreatDoor
open Go.RowKit

theorem nums_get {l : List Nat} {j : Nat} {z : Int} (h : (nums l)[j]? = some z) : ∃ x : Nat, z = (x : Int) ∧ l[j]? = some x := by
  unfold nums at h
  rw [List.getElem?_map] at h
  cases hx : l[j]? with
  | none => rw [hx] at h; cases h
  | some x =>
    rw [hx] at h
    exact ⟨x, (Option.some.inj h).symm, rfl⟩
/-- What lies behind a, of the nodes that were met. -/
def Behind (E : List (Int × Int)) (a : Nat) (met : List Nat) (T : Nat) : Prop := ∀ x, T.testBit x = true ↔ x ∈ met ∧ Way E a x
theorem behind_nil (E : List (Int × Int)) (a : Nat) : Behind E a [] 0 := fun x => by simp
theorem behind_cond {n : Nat} {E : List (Int × Int)} {out ps : List Nat} (hO : Ordered n E out) (hP : PredsOf n E ps) {a j x f T : Nat} (hf : ∀ i, f.testBit i = decide (a = i)) (hT : Behind E a (out.take j) T) (hx : out[j]? = some x) :
    ps.getD x 0 &&& (f ||| T) ≠ 0 ↔ Way E a x := by
  have hxn : x < n := hO.lt x (List.mem_of_getElem? hx)
  rw [and_ne_zero_iff, ← way_order hO hx]
  constructor
  · rintro ⟨i, h1, h2⟩
    rw [hP.bit x hxn, decide_eq_true_iff] at h1
    rw [Nat.testBit_or, Bool.or_eq_true, hf, decide_eq_true_iff] at h2
    exact ⟨i, h1, h2.imp Eq.symm (hT i).mp⟩
  · rintro ⟨p, h1, h2⟩
    refine ⟨p, by rw [hP.bit x hxn]; exact decide_eq_true h1, ?_⟩
    rw [Nat.testBit_or, Bool.or_eq_true, hf, decide_eq_true_iff]
    exact h2.imp Eq.symm (hT p).mpr
theorem behind_more {E : List (Int × Int)} {out : List Nat} {a j x T : Nat} (hT : Behind E a (out.take j) T) (hx : out[j]? = some x) (hw : Way E a x) : Behind E a (out.take (j + 1)) (T ||| 2 ^ x) := fun i => by
  rw [or_bit_testBit, Bool.or_eq_true, hT i, decide_eq_true_iff, take_snoc' hx, List.mem_append, List.mem_singleton]
  constructor
  · rintro (⟨h1, h2⟩ | rfl)
    · exact ⟨.inl h1, h2⟩
    · exact ⟨.inr rfl, hw⟩
  · rintro ⟨h1 | h1, h2⟩
    · exact .inl ⟨h1, h2⟩
    · exact .inr h1.symm
theorem behind_skip {E : List (Int × Int)} {out : List Nat} {a j x T : Nat} (hT : Behind E a (out.take j) T) (hx : out[j]? = some x) (hw : ¬ Way E a x) : Behind E a (out.take (j + 1)) T := fun i => by
  rw [hT i, take_snoc' hx, List.mem_append, List.mem_singleton]
  constructor
  · rintro ⟨h1, h2⟩
    exact ⟨.inl h1, h2⟩
  · rintro ⟨h1 | rfl, h2⟩
    · exact ⟨h1, h2⟩
    · exact absurd h2 hw

section
variable {A : Option Addr} {n c : Nat} {F : Option Addr} {m d : Nat} {W : List Int} {E : List (Int × Int)}
theorem beforeV_out {a b : Int} (hF : Fits n E) (h : ¬ ((0 ≤ a ∧ a < n) ∧ (0 ≤ b ∧ b < n))) : beforeV W E a b = false := by
  unfold beforeV
  rw [if_neg]
  rintro ⟨_, h1, h2, h3⟩
  have := h3.lt hF
  exact h ⟨⟨h1, by omega⟩, h2, by omega⟩
end
end Go.Proofs.YtfahabphncmbfaaGreatDoor
set_option linter.unusedVariables false
namespace Go.Proofs.YtfahabphncmbfaaGreatDoor
open Go.RowKit

def intsV (l : List Int) : List Value := l.map (Value.int .i64)
theorem intsV_at {l : List Int} {j : Nat} (h : j < l.length) : (intsV l)[j]? = some (.int .i64 (l.getD j 0)) := by
  unfold intsV
  rw [List.getElem?_map, List.getElem?_eq_getElem h, List.getD_eq_getElem?_getD, List.getElem?_eq_getElem h]
  rfl
theorem intsV_set (l : List Int) (j : Nat) (z : Int) : intsV (l.set j z) = (intsV l).set j (.int .i64 z) := by unfold intsV; rw [List.map_set]
theorem make_ints (n : Nat) (hn : n ≤ 1000) (W : World) : (Instr.makeSlice 22 (.int .i64 n) (.int .i64 n)).run Tryz.prog W = .ok (.slice (some ⟨W.heap.size, 0, none⟩) n n) (W.alloc (.cells (List.replicate n (Value.int .i64 0)).toArray 3)) := by
  obtain ⟨i0, hi, hz0, hz1, hz2⟩ := info_parts int_cell_info
  have h := run_make (P := Tryz.prog) W 22 3 i0 (.int .i64 0) Tryz.underlying22 hi hz0 .i64 .i64 n n (by omega) (by omega) (by rw [hz2]; omega) (by omega)
  rw [hz1] at h
  have e : madeCells (Value.int .i64 0).cells (((n : Int)).toNat * 1) = (List.replicate n (Value.int .i64 0)).toArray := by
    apply Array.toList_inj.mp
    rw [show (Value.int .i64 0).cells = #[Value.int .i64 0] from rfl, toList_madeCells_one]
    simp
  rw [e] at h
  exact h
end Go.Proofs.YtfahabphncmbfaaGreatDoor
set_option linter.unusedVariables false
namespace Go.Proofs.YtfahabphncmbfaaGreatDoor
open Go.RowKit

theorem most_spec (l : List Int) : 0 ≤ most l ∧ (∀ x ∈ l, x ≤ most l) ∧ (most l = 0 ∨ most l ∈ l) := foldl_max l 0
theorem most_sub {l l' : List Int} (h : ∀ x ∈ l, x ∈ l') : most l ≤ most l' := by
  rcases (most_spec l).2.2 with k | k
  · rw [k]; exact (most_spec l').1
  · exact (most_spec l').2.1 _ (h _ k)
theorem most_same {l l' : List Int} (h : ∀ x, x ∈ l ↔ x ∈ l') : most l = most l' := Int.le_antisymm (most_sub fun x hx => (h x).mp hx) (most_sub fun x hx => (h x).mpr hx)
/-- The most work of a way that ends with x. -/
def farAt (W : List Int) (E : List (Int × Int)) (x : Nat) : Int := (farK W E W.length).getD x 0
theorem far_step {W : List Int} {E : List (Int × Int)} (hF : Fits W.length E) (hA : Acyc E) {x : Nat} (hx : x < W.length) {l : List Nat} (hl : ∀ a, a ∈ l ↔ ed E a x) :
    farAt W E x = most (l.map (farAt W E)) + W.getD x 0 := by
  obtain ⟨m0, m1, m2⟩ := most_spec (l.map (farAt W E))
  have hS := farK_sound hF W.length
  apply Int.le_antisymm
  · obtain ⟨r, h1, h2, h3⟩ := hS.2 x hx
    have e : farAt W E x = wsum W (x :: r) := h3.symm
    rw [e]
    cases r with
    | nil =>
      simp only [wsum, List.map_cons, List.map_nil, List.sum_cons, List.sum_nil]
      omega
    | cons a r =>
      have hn := length_below W.length (x :: a :: r) (h1.nodup hA) h2
      simp only [List.length_cons] at hn
      have h4 : wsum W (a :: r) ≤ farAt W E a := farK_takes hF W.length a r h1.2 (by omega)
      have h5 := m1 (farAt W E a) (List.mem_map.mpr ⟨a, (hl a).mpr h1.1, rfl⟩)
      simp only [wsum, List.map_cons, List.sum_cons] at h4 ⊢
      omega
  · rcases m2 with k | k
    · have h4 := farK_takes (W := W) hF W.length x [] trivial (by simp)
      simp only [wsum, List.map_cons, List.map_nil, List.sum_cons, List.sum_nil] at h4
      show _ ≤ (farK W E W.length).getD x 0
      omega
    · obtain ⟨a, ha, he⟩ := List.mem_map.mp k
      have hed := (hl a).mp ha
      obtain ⟨r, h1, h2, h3⟩ := hS.2 a (ed_lt hF hed).1
      have hup : Up E (x :: a :: r) := ⟨hed, h1⟩
      have hin : In W.length (x :: a :: r) := fun y hy => by
        rcases List.mem_cons.mp hy with rfl | hy
        · exact hx
        · exact h2 y hy
      have hn := length_below W.length (x :: a :: r) (hup.nodup hA) hin
      simp only [List.length_cons] at hn
      have h4 := farK_takes (W := W) hF W.length x (a :: r) hup (by simp; omega)
      rw [← he]
      show (farK W E W.length).getD a 0 + _ ≤ (farK W E W.length).getD x 0
      rw [← h3]
      simp only [wsum, List.map_cons, List.sum_cons] at h4 ⊢
      omega
theorem far_bound {W : List Int} {E : List (Int × Int)} (hF : Fits W.length E) (hA : Acyc E) (hW : WorkOk W) {x : Nat} (hx : x < W.length) : 0 ≤ farAt W E x ∧ farAt W E x ≤ 1000 * W.length := by
  have := far_in hF hA hW W.length 0 x hx
  exact this
theorem long_order {W : List Int} {E : List (Int × Int)} {out : List Nat} (h : ∀ x, x ∈ out ↔ x < W.length) : most (out.map (farAt W E)) = most (farK W E W.length) := by
  apply most_same
  intro z
  constructor
  · intro hz
    obtain ⟨x, hx, rfl⟩ := List.mem_map.mp hz
    have hl : x < (farK W E W.length).length := by rw [farK_length]; exact (h x).mp hx
    unfold farAt
    rw [List.getD_eq_getElem?_getD, List.getElem?_eq_getElem hl]
    exact List.getElem_mem hl
  · intro hz
    obtain ⟨x, hx, rfl⟩ := List.getElem_of_mem hz
    refine List.mem_map.mpr ⟨x, (h x).mpr (by rw [farK_length] at hx; exact hx), ?_⟩
    unfold farAt
    rw [List.getD_eq_getElem?_getD, List.getElem?_eq_getElem hx]
    rfl

/-- In the middle of Long: the graph, what was read of it, and upTo, each in its box. -/
structure StL (b0 gb vb ub g n c : Nat) (A : Option Addr) (A' : Option Addr) (W : List Int) (ol : List Int) (ps : List Nat) (us : List Int) (w' : World) : Prop where
  d0 : w'.cell? ⟨b0, 0, none⟩ = some (.slice A n c)
  g0 : w'.cell? ⟨gb, 0, none⟩ = some (.slice (some ⟨g, 0, none⟩) n n)
  v0 : w'.cell? ⟨vb, 0, none⟩ = some (.slice (some ⟨ub, 0, none⟩) n n)
  row : RowN g ps w'
  up : RowV ub 3 (intsV us) w'
  ints : Ints w' ub A W
  out : Ints w' ub A' ol
  tab : Tab64 w'
  lb : b0 < ub
  lg : gb < ub
  lr : g < ub
  lt : 0 < ub
  lv : ub < vb
section
variable {b0 gb vb ub g n c : Nat} {A A' : Option Addr} {W : List Int} {E : List (Int × Int)} {ol : List Int} {ps : List Nat} {us : List Int}
theorem StL.next {w1 w2 : World} (h : StL b0 gb vb ub g n c A A' W ol ps us w1) (hb : Below w1.heap.size w1 w2) : StL b0 gb vb ub g n c A A' W ol ps us w2 :=
  ⟨(hb.cell (World.block_lt_of_cell? _ _ h.d0)).trans h.d0, (hb.cell (World.block_lt_of_cell? _ _ h.g0)).trans h.g0, (hb.cell (World.block_lt_of_cell? _ _ h.v0)).trans h.v0, h.row.below hb h.row.lt, h.up.below hb h.up.lt,
    h.ints.below (hb.mono (Nat.le_of_lt h.up.lt)), h.out.below (hb.mono (Nat.le_of_lt h.up.lt)), h.tab.via hb, h.lb, h.lg, h.lr, h.lt, h.lv⟩
theorem StL.store {w1 : World} (h : StL b0 gb vb ub g n c A A' W ol ps us w1) (j : Nat) (z : Int) : StL b0 gb vb ub g n c A A' W ol ps (us.set j z) (w1.setCell ⟨ub, j, none⟩ (.int .i64 z)) := by
  have hb : Below ub w1 (w1.setCell ⟨ub, j, none⟩ (.int .i64 z)) := (Below.refl ub w1).setCell (Nat.le_refl _) _
  refine ⟨(hb.cell h.lb).trans h.d0, (hb.cell h.lg).trans h.g0, (World.cell?_setCell_other _ _ _ _ ?_).trans h.v0, h.row.below hb h.lr, by rw [intsV_set]; exact h.up.set j _, h.ints.below hb, h.out.below hb, h.tab.below hb h.lt, h.lb, h.lg, h.lr, h.lt, h.lv⟩
  intro e
  have h1 : ub = vb := congrArg Addr.block e
  have := h.lv
  omega
theorem StL.cells {w' : World} (h : StL b0 gb vb ub g n c A A' W ol ps us w') : w'.cell? ⟨b0, 0, none⟩ = some (.slice A n c) ∧ w'.cell? ⟨gb, 0, none⟩ = some (.slice (some ⟨g, 0, none⟩) n n) ∧ w'.cell? ⟨vb, 0, none⟩ = some (.slice (some ⟨ub, 0, none⟩) n n) := ⟨h.d0, h.g0, h.v0⟩
set_option maxHeartbeats 4000000 in
theorem sum_any (x : Nat) (w : World) (hn : W.length = n) (hl : n ≤ 64) (hx : x < n) (hF : Fits n E) (hW : WorkOk W) (hPS : PredsOf n E ps) (hus : us.length = n) (hub : ∀ y, y < n → 0 ≤ us.getD y 0 ∧ us.getD y 0 ≤ 64000) (h : StL b0 gb vb ub g n c A A' W ol ps us w) :
    Calls Tryz.prog 125 #[.int .i64 x, .pointer (some ⟨gb, 0, none⟩), .pointer (some ⟨vb, 0, none⟩), .pointer (some ⟨b0, 0, none⟩)] w fun e w' => e = .returned (.int .i64 (most ((bitsL (ps.getD x 0)).map fun p => us.getD p 0) + W.getD x 0)) ∧ Below w.heap.size w w' := by
  obtain ⟨z, hz⟩ : ∃ z, W[x]? = some z := ⟨_, List.getElem?_eq_getElem (by rw [hn]; exact hx)⟩
  have hzd : W.getD x 0 = z := by rw [List.getD_eq_getElem?_getD, hz]; rfl
  have hz2 := hW z (List.mem_of_getElem? hz)
  rw [hzd]
  have hrow := h.row.cell (natsV_at (ps := ps) (j := x) (by rw [hPS.len]; exact hx))
  have C := Lib.hid (set_row (ps.getD x 0) w (hPS.lt x hx) h.tab)
  have HMEM := Lib.hid (fun p (hp : p ∈ bitsL (ps.getD x 0)) => (ed_lt hF (of_decide_eq_true ((hPS.bit x hx p).symm.trans (mem_bitsL.mp hp).2))).1)
  have HLEN := Lib.hid (bitsL_length (ps.getD x 0))
  obtain ⟨l, hll⟩ : ∃ l, l = bitsL (ps.getD x 0) := ⟨_, rfl⟩
  obtain ⟨p0, hp0⟩ : ∃ p, p = ps.getD x 0 := ⟨_, rfl⟩
  rw [← hll] at C HMEM HLEN ⊢
  rw [← hp0] at C hrow
  obtain ⟨lf, hlf⟩ : ∃ lf, lf = l.map fun p => us.getD p 0 := ⟨_, rfl⟩
  have HLF := Lib.hid hlf
  rw [← hlf]
  obtain ⟨k, hk⟩ : ∃ k, k = l.length := ⟨_, rfl⟩
  have HK := Lib.hid hk
  have HKN := Lib.hid (show (nums l).length = k by rw [nums_length, hk])
  have HFK := Lib.hid (show lf.length = k by rw [hlf, List.length_map, hk])
  obtain ⟨mv, hmv⟩ : ∃ mv, mv = most lf := ⟨_, rfl⟩
  rw [← hmv]
  have HMV := Lib.hid hmv
  have hk64 : k ≤ 64 := by rw [hk]; exact HLEN.out
  have HS := Lib.hid h
  have HZ := Lib.hid hz
  have HN := Lib.hid hn
  have HUS := Lib.hid hus
  have HUB := Lib.hid hub
  obtain ⟨c1, c2, c3⟩ := h.cells
  have hgl := h.row.lt
  clear hF hW hPS hus hub h hz hzd hn hll hp0 hlf hk hmv
  go_enter Tryz.func125, Tryz.ntmps125
  go_wp2_with (go_at_call 126; refine C.out.mono ?_; rintro e w1 ⟨A3, c3', rfl, hI, b⟩; have HI := Lib.hid hI; have HB := Lib.hid b; have HNL : (nums l).length = k := HKN.out; clear hI b)
  have HS1 := Lib.hid (HS.out.next HB.out)
  clear c1 c2 c3 hgl hrow C
  obtain ⟨c1, c2, c3⟩ := HS1.out.cells
  go_loop [6, 16] (fun s i => ∃ (j : Nat) (v : Int), j ≤ k ∧ i = .int .i64 j ∧ 0 ≤ v ∧ v ≤ 64000 ∧ Hid (v = most (lf.take j)) ∧ s = .int .i64 v) (fun _ i => k - (intOf i).toNat)
  case atStart => exact ⟨0, 0, Nat.zero_le _, by simp, by omega, by omega, Lib.hid rfl, rfl⟩
  case round =>
    obtain ⟨j, v, hj, rfl, hv0, hv1, hve, rfl⟩ := hrel
    by_cases hlt : j < k
    · obtain ⟨bk, o, q, rfl, hbg, hqj, hc1⟩ := HI.out.at_ (k := j) (by rw [HKN.out]; exact hlt)
      obtain ⟨p, rfl, hp⟩ := nums_get hqj
      have hpn := HMEM.out p (List.mem_of_getElem? hp)
      have hcu := HS1.out.up.cell (intsV_at (l := us) (j := p) (by rw [HUS.out]; exact hpn))
      have hub := HUB.out p hpn
      have hfj : lf[j]? = some (us.getD p 0) := by rw [HLF.out, List.getElem?_map, hp]; rfl
      have HMS := Lib.hid (most_snoc hfj)
      have hul := HS1.out.up.lt
      obtain ⟨u, hu⟩ : ∃ u, u = us.getD p 0 := ⟨_, rfl⟩
      rw [← hu] at hcu hub HMS
      clear hqj hp hfj hu
      by_cases hvz : v < u
      · have HMX := Lib.hid (show u = most (lf.take (j + 1)) by rw [HMS.out, ← hve.out, Int.max_eq_right (by omega)])
        go_wp2
        go_round
        case rel => exact ⟨j + 1, u, by omega, by go_num, by omega, by omega, HMX, by first | rfl | (simp; omega)⟩
        case measure => simp [intOf]; omega
      · have HMX := Lib.hid (show v = most (lf.take (j + 1)) by rw [HMS.out, ← hve.out, Int.max_eq_left (by omega)])
        go_wp2
        go_round
        case rel => exact ⟨j + 1, v, by omega, by go_num, by omega, by omega, HMX, by first | rfl | (simp; omega)⟩
        case measure => simp [intOf]; omega
    · obtain rfl : j = k := by omega
      have hl2 : lf.take j = lf := List.take_of_length_le (by rw [HFK.out]; omega)
      rw [hl2] at hve
      obtain ⟨bw, ow, z2, hA2, hbw, hzx, hcz⟩ := HS1.out.ints.at_ (k := x) (by rw [HN.out]; exact hx)
      obtain rfl : z2 = z := by
        have := HZ.out
        rw [hzx] at this
        exact Option.some.inj this
      subst hA2
      clear hzx
      go_wp2
      go_ret
      exact ⟨by rw [HMV.out, ← hve.out]; rfl, HB.out⟩
end
end Go.Proofs.YtfahabphncmbfaaGreatDoor
set_option linter.unusedVariables false
namespace Go.Proofs.YtfahabphncmbfaaGreatDoor
open Go.RowKit

section
variable {A : Option Addr} {n c : Nat} {F : Option Addr} {m d : Nat} {W : List Int} {E : List (Int × Int)}
theorem preds_far {ps : List Nat} {us : List Int} {out : List Nat} (hO : Ordered n E out) (hP : PredsOf n E ps) (hn : n ≤ 64) (hF : Fits n E) {j x : Nat} (hx : out[j]? = some x) (hu : ∀ y ∈ out.take j, us.getD y 0 = farAt W E y) :
    ((bitsL (ps.getD x 0)).map fun p => us.getD p 0) = (bitsL (ps.getD x 0)).map (farAt W E) := by
  apply List.map_congr_left
  intro p hp
  have hxn : x < n := hO.lt x (List.mem_of_getElem? hx)
  have he : ed E p x := of_decide_eq_true ((hP.bit x hxn p).symm.trans (mem_bitsL.mp hp).2)
  obtain ⟨hj, e⟩ := List.getElem?_eq_some_iff.mp hx
  exact hu p (hO.behind j hj p (by rw [e]; exact he))
theorem mem_preds {ps : List Nat} (hP : PredsOf n E ps) (hn : n ≤ 64) (hF : Fits n E) {x : Nat} (hx : x < n) (a : Nat) : a ∈ bitsL (ps.getD x 0) ↔ ed E a x := by
  rw [mem_bitsL, hP.bit x hx a, decide_eq_true_iff]
  constructor
  · exact And.right
  · intro h
    have := ed_lt hF h
    exact ⟨by omega, h⟩
theorem StL.start {b0 g n c : Nat} {A A' : Option Addr} {c' : Nat} {W ol : List Int} {ps : List Nat} {w1 : World} (hb : b0 < w1.heap.size) (h0 : w1.cell? ⟨b0, 0, none⟩ = some (.slice A n c)) (hr : RowN g ps w1) (hi : Ints w1 w1.heap.size A W) (ho : Ints w1 w1.heap.size A' ol) (hT : Tab64 w1) :
    StL b0 w1.heap.size (w1.heap.size + 1 + 1) (w1.heap.size + 1) g n c A A' W ol ps (List.replicate n 0) (((w1.alloc (.cells #[.slice (some ⟨g, 0, none⟩) n n, .slice A' n c'] 171)).alloc (.cells (Array.replicate n (Value.int .i64 0)) 3)).alloc (.cells #[.slice (some ⟨w1.heap.size + 1, 0, none⟩) n n] 22)) := by
  obtain ⟨w2, h2⟩ : ∃ w2, w2 = w1.alloc (.cells #[.slice (some ⟨g, 0, none⟩) n n, .slice A' n c'] 171) := ⟨_, rfl⟩
  obtain ⟨w3, h3⟩ : ∃ w3, w3 = w2.alloc (.cells (Array.replicate n (Value.int .i64 0)) 3) := ⟨_, rfl⟩
  obtain ⟨w4, h4⟩ : ∃ w4, w4 = w3.alloc (.cells #[.slice (some ⟨w1.heap.size + 1, 0, none⟩) n n] 22) := ⟨_, rfl⟩
  rw [← h2, ← h3, ← h4]
  have s2 : w2.heap.size = w1.heap.size + 1 := by rw [h2]; simp
  have s3 : w3.heap.size = w1.heap.size + 1 + 1 := by rw [h3]; simp [s2]
  have s4 : w4.heap.size = w1.heap.size + 1 + 1 + 1 := by rw [h4]; simp [s3]
  have b3 : Below w3.heap.size w3 w4 := by rw [h4]; exact below_alloc _
  have b2 : Below w2.heap.size w2 w4 := (by rw [h3]; exact below_alloc _ : Below w2.heap.size w2 w3).trans (b3.mono (by omega))
  have b1 : Below w1.heap.size w1 w4 := (by rw [h2]; exact below_alloc _ : Below w1.heap.size w1 w2).trans (b2.mono (by omega))
  have hu : RowV (w1.heap.size + 1) 3 (intsV (List.replicate n 0)) w3 := by
    have e : (intsV (List.replicate n 0)).toArray = Array.replicate n (Value.int .i64 0) := by simp [intsV]
    unfold RowV
    rw [e, h3, ← s2]
    exact heap_alloc_new w2 _
  have := hT.lt
  have := hr.lt
  refine ⟨(b1.cell hb).trans h0, ?_, ?_, hr.below b1 hr.lt, hu.below b3 (by omega), (hi.below b1).more (by omega), (ho.below b1).more (by omega), hT.via b1, by omega, by omega, by omega, by omega, by omega⟩
  · refine (b2.cell (by show w1.heap.size < _; omega)).trans ?_
    rw [h2, World.cell?_alloc_at _ _ _ _ rfl]; rfl
  · rw [h4, World.cell?_alloc_at _ _ _ _ s3.symm]; rfl
set_option maxRecDepth 100000 in
set_option maxHeartbeats 8000000 in
theorem long_done (w : World) (h : IsG w A n c F m d W E) :
    Calls Tryz.prog 64 #[.agg #[.slice A n c, .slice F m d]] w fun e w' => e = .returned (.int .i64 (longV W E)) ∧ Below w.heap.size w w' := by
  have H := Lib.hid h
  by_cases hM : May W E
  · have C := Lib.hid (fun w' (h : IsG w' A n c F m d W E) => read_ok w' h hM)
    have hF : Fits n E := by rw [← h.hn]; exact hM.fits
    have hn64 : n ≤ 64 := by rw [← h.hn]; exact hM.nodes
    have HF := Lib.hid hF
    have HN := Lib.hid h.hn
    have HM := Lib.hid hM
    have HORD := Lib.hid (ordK_ordered hF n)
    have HOL := Lib.hid (show (ord n E).length = n from ordK_length hF hM.acyc n (Nat.le_refl _))
    have hmk := fun W' => make_ints n (by omega) W'
    have HT := Lib.hid (show longV W E = most ((ord n E).map (farAt W E)) by
      unfold longV
      rw [if_pos hM, long_order]
      intro x
      rw [h.hn]
      exact ⟨(ordK_ordered hF n).lt x, fun hx => (ordK_ordered hF n).all (ordK_length hF hM.acyc n (Nat.le_refl _)) x hx⟩)
    obtain ⟨r, hr⟩ : ∃ r, r = longV W E := ⟨_, rfl⟩
    rw [← hr] at HT ⊢
    clear h hM hr hF
    go_enter Tryz.func64, Tryz.ntmps64
    go_wp2_with fail
    refine (C.out _ (H.out.below (below_alloc _))).mono ?_
    rintro e w1 ⟨g, A', c', rfl, hR⟩
    have HB := Lib.hid ((below_alloc (w := w) (.cells #[.slice A n c, .slice F m d] 25)).trans (hR.bel.mono (by simp)))
    have HR := Lib.hid hR
    have HG := Lib.hid ((H.out.below (below_alloc (.cells #[.slice A n c, .slice F m d] 25))).below hR.bel)
    have hs1 : w.heap.size < w1.heap.size := by have := hR.bel.size; simp at this; exact this
    have hbox0 : w1.cell? ⟨w.heap.size, 0, none⟩ = some (.slice A n c) := (hR.bel.cell (by simp)).trans (by rw [World.cell?_alloc_at _ _ _ _ rfl]; rfl)
    clear hR
    go_wp2
    obtain ⟨ps, hV, hPS⟩ := HR.out.row
    have HPS := Lib.hid hPS
    have H0 := Lib.hid (StL.start (c' := c') hs1 hbox0 hV HG.out.ints HR.out.ints HG.out.tab)
    have HB0 := Lib.hid (((below_alloc (w := w1) (.cells #[.slice (some ⟨g, 0, none⟩) n n, .slice A' n c'] 171)).alloc (by simp) (.cells (Array.replicate n (Value.int .i64 0)) 3)).alloc (by simp; omega) (.cells #[.slice (some ⟨w1.heap.size + 1, 0, none⟩) n n] 22))
    have HBND := Lib.hid (fun x (hx : x < n) => far_bound (by rw [HN.out]; exact HF.out) HM.out.acyc HM.out.work (x := x) (by rw [HN.out]; exact hx))
    obtain ⟨b0, hb0⟩ : ∃ b0, b0 = w.heap.size := ⟨_, rfl⟩
    obtain ⟨gb, hgb⟩ : ∃ gb, gb = w1.heap.size := ⟨_, rfl⟩
    clear hV hPS hbox0
    go_loopw [7, 25] (fun s i wr => ∃ (j : Nat) (v : Int) (us : List Int), j ≤ n ∧ i = .int .i64 j ∧ 0 ≤ v ∧ v ≤ 64000 ∧ s = .int .i64 v ∧ Hid (v = most (((ord n E).map (farAt W E)).take j)) ∧ Hid (us.length = n) ∧ Hid (∀ y, y < n → 0 ≤ us.getD y 0 ∧ us.getD y 0 ≤ 64000) ∧ Hid (∀ y ∈ (ord n E).take j, us.getD y 0 = farAt W E y) ∧ Hid (StL w.heap.size w1.heap.size (w1.heap.size + 1 + 1) (w1.heap.size + 1) g n c A A' W (nums (ord n E)) ps us wr) ∧ Hid (Below w1.heap.size w1 wr)) (fun _ i _ => n - (intOf i).toNat)
    case atStart => exact ⟨0, 0, _, Nat.zero_le _, rfl, by omega, by omega, rfl, Lib.hid rfl, Lib.hid (by simp), Lib.hid (fun y hy => by simp [List.getD_eq_getElem?_getD, hy]), Lib.hid (fun y hy => by simp at hy), H0, HB0⟩
    case round =>
      obtain ⟨j, v, us, hj, rfl, hv0, hv1, rfl, hve, HUL, HUB, HUF, HS, HB1⟩ := hrel
      clear H0 HB0
      by_cases hlt : j < n
      · obtain ⟨bk, o, z, rfl, hbg, hzj, hc1⟩ := HS.out.out.at_ (k := j) (by rw [nums_length, HOL.out]; exact hlt)
        obtain ⟨x, rfl, hx⟩ := nums_get hzj
        have hxn : x < n := HORD.out.lt x (List.mem_of_getElem? hx)
        have hv := preds_far HORD.out HPS.out hn64 HF.out hx HUF.out
        have hfs := far_step (by rw [HN.out]; exact HF.out) HM.out.acyc (x := x) (by rw [HN.out]; exact hxn) (l := bitsL (ps.getD x 0)) (mem_preds HPS.out hn64 HF.out hxn)
        have C2 := Lib.hid (fun W' (hs : StL w.heap.size w1.heap.size (w1.heap.size + 1 + 1) (w1.heap.size + 1) g n c A (some ⟨bk, o, none⟩) W (nums (ord n E)) ps us W') => sum_any x W' HN.out hn64 hxn HF.out HM.out.work HPS.out HUL.out HUB.out hs)
        simp only [hv, ← hfs] at C2
        have hfb := HBND.out x hxn
        have hfj : ((ord n E).map (farAt W E))[j]? = some (farAt W E x) := by rw [List.getElem?_map, hx]; rfl
        have HMS := Lib.hid (most_snoc hfj)
        have HTK := Lib.hid (take_snoc' hx)
        obtain ⟨fx, hfx⟩ : ∃ fx, fx = farAt W E x := ⟨_, rfl⟩
        have HFX := Lib.hid hfx
        rw [← hfx] at hfb HMS
        simp only [← hfx] at C2
        rw [HN.out] at hfb
        have hxu : x < us.length := by rw [HUL.out]; exact hxn
        have HU2 : Hid (∀ y, y < n → 0 ≤ (us.set x fx).getD y 0 ∧ (us.set x fx).getD y 0 ≤ 64000) := Lib.hid (fun y hy => by
          rw [getD_set]
          split
          · omega
          · exact HUB.out y hy)
        have HF2 : Hid (∀ y ∈ (ord n E).take (j + 1), (us.set x fx).getD y 0 = farAt W E y) := Lib.hid (fun y hy => by
          rw [getD_set]
          split
          · rename_i k
            rw [← k.1]
            exact HFX.out
          · rename_i k
            rw [HTK.out] at hy
            rcases List.mem_append.mp hy with hy | hy
            · exact HUF.out y hy
            · obtain rfl : y = x := by simpa using hy
              exact absurd ⟨rfl, hxu⟩ k)
        clear hzj hx hv hfs hfj hfx hxu
        obtain ⟨c1, c2, c3⟩ := HS.out.cells
        go_wp2_with fail
        go_region_with (go_at_call 125; refine (C2.out _ (HS.out.next ((Below.refl _ _).drew))).mono ?_; rintro e w5 ⟨rfl, b⟩; have HS5 := Lib.hid ((HS.out.next ((Below.refl _ _).drew)).next b); have HB5 := Lib.hid b; have d3 := HS5.out.v0; have hul5 := HS5.out.up.lt; have hfr5 := HS5.out.up.frozen x; have hcx5 := HS5.out.up.cell (intsV_at (l := us) (j := x) (by rw [HUL.out]; exact hxn)); clear b)
        all_goals
          have HS6 := Lib.hid (HS5.out.store x fx)
          have e3 := HS6.out.v0
          have hgx : (us.set x fx).getD x 0 = fx := by rw [getD_set, if_pos ⟨rfl, by rw [HUL.out]; exact hxn⟩]
          have e4 := HS6.out.up.cell (intsV_at (l := us.set x fx) (j := x) (by rw [List.length_set, HUL.out]; exact hxn))
          rw [hgx] at e4
          clear hgx d3 hcx5
          by_cases hvz : v < fx
          · have HMX := Lib.hid (show fx = most (((ord n E).map (farAt W E)).take (j + 1)) by rw [HMS.out, ← hve.out, Int.max_eq_right (by omega)])
            go_wp2
            go_roundw
            case rel => exact ⟨j + 1, fx, us.set x fx, by omega, by go_num, by omega, by omega, (by first | rfl | rw [Int.max_eq_right (by omega)]), HMX, Lib.hid (by rw [List.length_set]; exact HUL.out), HU2, HF2, HS6, Lib.hid ((HB1.out.trans (((Below.refl _ _).drew.trans HB5.out).mono HB1.out.size)).setCell (by show w1.heap.size ≤ w1.heap.size + 1; omega) _)⟩
            case measure => simp [intOf]; omega
          · have HMX := Lib.hid (show v = most (((ord n E).map (farAt W E)).take (j + 1)) by rw [HMS.out, ← hve.out, Int.max_eq_left (by omega)])
            go_wp2
            go_roundw
            case rel => exact ⟨j + 1, v, us.set x fx, by omega, by go_num, by omega, by omega, (by first | rfl | rw [Int.max_eq_left (by omega)]), HMX, Lib.hid (by rw [List.length_set]; exact HUL.out), HU2, HF2, HS6, Lib.hid ((HB1.out.trans (((Below.refl _ _).drew.trans HB5.out).mono HB1.out.size)).setCell (by show w1.heap.size ≤ w1.heap.size + 1; omega) _)⟩
            case measure => simp [intOf]; omega
      · obtain rfl : j = n := by omega
        have hl2 : ((ord j E).map (farAt W E)).take j = (ord j E).map (farAt W E) := List.take_of_length_le (by rw [List.length_map, HOL.out]; exact Nat.le_refl _)
        rw [hl2] at hve
        go_wp2
        go_ret
        exact ⟨by rw [HT.out, ← hve.out]; rfl, HB.out.trans (HB1.out.mono HB.out.size)⟩
  · have C := Lib.hid (fun w' (h : IsG w' A n c F m d W E) => read_not w' h hM)
    have HO : longV W E = 0 := by unfold longV; rw [if_neg hM]
    rw [HO]
    have hc : (chkE W E != 0) = true := by
      rw [bne_iff_ne]
      exact fun q => hM (chkE_zero.mp q)
    obtain ⟨r, hr⟩ : ∃ r, r = chkE W E := ⟨_, rfl⟩
    rw [← hr] at C hc
    clear h hM hr HO
    go_enter Tryz.func64, Tryz.ntmps64
    go_wp2_with fail
    refine (C.out _ (H.out.below (below_alloc _))).mono ?_
    rintro e w1 ⟨rfl, b⟩
    have HB := Lib.hid ((below_alloc _).trans (b.mono (by simp)))
    clear b
    go_wp2
    go_ret
    exact ⟨rfl, HB.out.alloc HB.out.size _⟩
end
end Go.Proofs.YtfahabphncmbfaaGreatDoor
