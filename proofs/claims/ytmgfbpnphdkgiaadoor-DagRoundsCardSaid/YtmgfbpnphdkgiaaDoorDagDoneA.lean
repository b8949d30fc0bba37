/- dag.Check, Order, Preds, Succs and Before in the seat YtmgfbpnphdkgiaaDoor: their contracts. No statement is proved here. -/
import Derived.Test.YtmgfbpnphdkgiaaDoorDagRead
set_option linter.unusedVariables false
namespace Go.Proofs.YtmgfbpnphdkgiaaDoor
open Go.RowKit

section
variable {A : Option Addr} {n c : Nat} {F : Option Addr} {m d : Nat} {W : List Int} {E : List (Int × Int)}
theorem IsR.next {w w1 w2 : World} {g : Nat} {A' : Option Addr} {c' : Nat} (h : IsR w g n A' c' E w1) (hb : Below w1.heap.size w1 w2) : IsR w g n A' c' E w2 :=
  ⟨h.bel.trans (hb.mono h.bel.size), (h.ints.below hb).more hb.size, by
    obtain ⟨ps, h1, h2⟩ := h.row
    exact ⟨ps, h1.below hb h1.lt, h2⟩⟩
theorem gotInts_nil {w w' : World} (hb : Below w.heap.size w w') : GotInts [] w (.returned (.slice none 0 0)) w' := ⟨none, 0, rfl, Ints.nil_ _ _ _, hb⟩

set_option maxHeartbeats 2000000 in
theorem check_done (w : World) (h : IsG w A n c F m d W E) :
    Calls Tryd.prog 12 #[.agg #[.slice A n c, .slice F m d]] w fun e w' => e = .returned (.int .i64 (chkE W E)) ∧ Below w.heap.size w w' := by
  have H := Lib.hid h
  by_cases hM : May W E
  · have C := Lib.hid (fun w' (h : IsG w' A n c F m d W E) => read_ok w' h hM)
    rw [chkE_zero.mpr hM]
    clear h hM
    go_enter Tryd.func12, Tryd.ntmps12
    go_wp2_with fail
    refine (C.out _ (H.out.below (below_alloc _))).mono ?_
    rintro e w1 ⟨g, A', c', rfl, hR⟩
    have HB := Lib.hid ((below_alloc _).trans (hR.bel.mono (by simp)))
    clear hR
    go_wp2
    go_ret
    exact ⟨rfl, HB.out.alloc HB.out.size _⟩
  · have C := Lib.hid (fun w' (h : IsG w' A n c F m d W E) => read_not w' h hM)
    obtain ⟨r, hr⟩ : ∃ r, r = chkE W E := ⟨_, rfl⟩
    rw [← hr] at C ⊢
    clear h hM hr
    go_enter Tryd.func12, Tryd.ntmps12
    go_wp2_with fail
    refine (C.out _ (H.out.below (below_alloc _))).mono ?_
    rintro e w1 ⟨rfl, b⟩
    have HB := Lib.hid ((below_alloc _).trans (b.mono (by simp)))
    clear b
    go_wp2
    go_ret
    exact ⟨rfl, HB.out.alloc HB.out.size _⟩
set_option maxHeartbeats 2000000 in
theorem order_done (w : World) (h : IsG w A n c F m d W E) : Calls Tryd.prog 17 #[.agg #[.slice A n c, .slice F m d]] w (GotInts (orderV W E) w) := by
  have H := Lib.hid h
  by_cases hM : May W E
  · have C := Lib.hid (fun w' (h : IsG w' A n c F m d W E) => read_ok w' h hM)
    have HO := Lib.hid (show orderV W E = nums (ord n E) by unfold orderV; rw [if_pos hM, h.hn])
    have HL := Lib.hid (show (nums (ord n E)).length = n by
      rw [nums_length]
      exact ordK_length (by rw [← h.hn]; exact hM.fits) hM.acyc n (Nat.le_refl _))
    obtain ⟨l, hl⟩ : ∃ l, l = orderV W E := ⟨_, rfl⟩
    rw [← hl] at HO ⊢
    clear h hM hl
    go_enter Tryd.func17, Tryd.ntmps17
    go_wp2_with fail
    refine (C.out _ (H.out.below (below_alloc _))).mono ?_
    rintro e w1 ⟨g, A', c', rfl, hR⟩
    have HR := Lib.hid hR
    have HB := Lib.hid ((below_alloc _).trans (hR.bel.mono (by simp)))
    clear hR
    go_wp2
    go_ret
    exact ⟨A', c', by rw [HO.out, HL.out]; rfl, by rw [HO.out]; exact (HR.out.next (below_alloc _)).ints, HB.out.alloc HB.out.size _⟩
  · have C := Lib.hid (fun w' (h : IsG w' A n c F m d W E) => read_not w' h hM)
    have HO : orderV W E = [] := by unfold orderV; rw [if_neg hM]
    rw [HO]
    have hc : (chkE W E != 0) = true := by
      rw [bne_iff_ne]
      exact fun q => hM (chkE_zero.mp q)
    obtain ⟨r, hr⟩ : ∃ r, r = chkE W E := ⟨_, rfl⟩
    rw [← hr] at C hc
    clear h hM hr HO
    go_enter Tryd.func17, Tryd.ntmps17
    go_wp2_with fail
    refine (C.out _ (H.out.below (below_alloc _))).mono ?_
    rintro e w1 ⟨rfl, b⟩
    have HB := Lib.hid ((below_alloc _).trans (b.mono (by simp)))
    clear b
    go_wp2
    go_ret
    exact gotInts_nil (HB.out.alloc HB.out.size _)

/-! Plain: what sets tell -/
theorem range_filter {p : Nat → Bool} {n : Nat} (h : ∀ a, p a = true → a < n) : ∀ k, (List.range (n + k)).filter p = (List.range n).filter p
  | 0 => rfl
  | k + 1 => by
    rw [show n + (k + 1) = (n + k) + 1 by omega, List.range_succ, List.filter_append, range_filter h k]
    have : p (n + k) = false := by
      cases hp : p (n + k) with
      | false => rfl
      | true => exact absurd (h _ hp) (by omega)
    simp [this]
theorem bitsL_of {s n : Nat} {p : Nat → Bool} (hn : n ≤ 64) (h : ∀ a, s.testBit a = p a) (hp : ∀ a, p a = true → a < n) : nums (bitsL s) = ((List.range n).map Int.ofNat).filter fun a => p a.toNat := by
  unfold bitsL nums
  rw [show s.testBit = p from funext h]
  obtain ⟨k, hk⟩ : ∃ k, 64 = n + k := ⟨64 - n, by omega⟩
  rw [hk, range_filter hp, List.filter_map]
  rfl
theorem predsL_bits {n : Nat} {E : List (Int × Int)} {ps : List Nat} (hn : n ≤ 64) (hF : Fits n E) (h : PredsOf n E ps) {y : Nat} (hy : y < n) : predsL n E y = nums (bitsL (ps.getD y 0)) := by
  rw [bitsL_of hn (h.bit y hy) (fun a ha => (ed_lt hF (of_decide_eq_true ha)).1)]
  unfold predsL
  apply List.filter_congr
  intro a ha
  obtain ⟨b, _, rfl⟩ := List.mem_map.mp ha
  rfl
theorem predsL_out {n : Nat} {E : List (Int × Int)} (hF : Fits n E) {x : Int} (h : ¬ (0 ≤ x ∧ x < n)) : predsL n E x = [] := by
  unfold predsL
  rw [List.filter_eq_nil_iff]
  intro a _ k
  have := hF _ (of_decide_eq_true k)
  exact h ⟨this.2.2.1, this.2.2.2⟩
theorem succsL_out {n : Nat} {E : List (Int × Int)} (hF : Fits n E) {x : Int} (h : ¬ (0 ≤ x ∧ x < n)) : succsL n E x = [] := by
  unfold succsL
  rw [List.filter_eq_nil_iff]
  intro a _ k
  have := hF _ (of_decide_eq_true k)
  exact h ⟨this.1, this.2.1⟩
end

section
variable {A : Option Addr} {n c : Nat} {F : Option Addr} {m d : Nat} {W : List Int} {E : List (Int × Int)}
theorem GotInts.up {w w1 : World} {zs : List Int} {e : Ending} {w' : World} (h : GotInts zs w1 e w') (hb : Below w.heap.size w w1) : GotInts zs w e w' := by
  obtain ⟨A, c, he, hI, b⟩ := h
  exact ⟨A, c, he, hI, hb.trans (b.mono hb.size)⟩
set_option maxHeartbeats 4000000 in
theorem preds_done (w : World) (x : Int) (h : IsG w A n c F m d W E) : Calls Tryd.prog 20 #[.agg #[.slice A n c, .slice F m d], .int .i64 x] w (GotInts (predsV W E x) w) := by
  have H := Lib.hid h
  have ln := h.ln
  have CN := Lib.hid (fun W' => is_node x n W' (by omega))
  by_cases hM : May W E
  · have C := Lib.hid (fun w' (h : IsG w' A n c F m d W E) => read_ok w' h hM)
    have HO := Lib.hid (show predsV W E x = predsL n E x by unfold predsV; rw [if_pos hM, h.hn])
    have hF : Fits n E := by rw [← h.hn]; exact hM.fits
    have hn64 : n ≤ 64 := by rw [← h.hn]; exact hM.nodes
    obtain ⟨l, hl⟩ : ∃ l, l = predsV W E x := ⟨_, rfl⟩
    rw [← hl] at HO ⊢
    by_cases hx : 0 ≤ x ∧ x < n
    · rw [decide_eq_true hx] at CN
      obtain ⟨y, rfl⟩ := Int.eq_ofNat_of_zero_le hx.1
      have hy : y < n := by omega
      have HPB := Lib.hid (fun ps (h : PredsOf n E ps) => predsL_bits hn64 hF h hy)
      clear h hM hl hF hx
      go_enter Tryd.func20, Tryd.ntmps20
      go_wp2_with fail
      refine (C.out _ (H.out.below (below_alloc _))).mono ?_
      rintro e w1 ⟨g, A', c', rfl, hR⟩
      have HB := Lib.hid ((below_alloc _).trans (hR.bel.mono (by simp)))
      obtain ⟨ps, hV, hPS⟩ := hR.row
      have hgl := hV.lt
      have hc := hV.cell (natsV_at (ps := ps) (j := y) (by rw [hPS.len]; exact hy))
      have CR := Lib.hid (fun W' (hT : Tab64 W') => set_row (ps.getD y 0) W' (hPS.lt y hy) hT)
      have HE := Lib.hid (HPB.out ps hPS)
      obtain ⟨p, hp⟩ : ∃ p, p = ps.getD y 0 := ⟨_, rfl⟩
      rw [← hp] at hc CR HE
      clear hR hV hPS hp
      go_wp2_with (first
        | (go_at_call 38; refine (CN.out _).mono ?_; rintro e w' ⟨rfl, rfl⟩)
        | (go_at_call 37; refine (CR.out _ ((H.out.tab.via HB.out).via (below_alloc _))).mono ?_; rintro e w2 ⟨A2, c2, rfl, hI, b⟩; have HI := Lib.hid hI; have HB2 := Lib.hid b; clear hI b))
      go_ret
      rw [HO.out, HE.out]
      exact ⟨A2, c2, rfl, HI.out, HB.out.trans ((below_alloc _).trans (HB2.out.mono (by simp)) |>.mono HB.out.size)⟩
    · rw [decide_eq_false hx] at CN
      have HNIL := Lib.hid (predsL_out hF hx)
      clear h hM hl hF hx
      go_enter Tryd.func20, Tryd.ntmps20
      go_wp2_with fail
      refine (C.out _ (H.out.below (below_alloc _))).mono ?_
      rintro e w1 ⟨g, A', c', rfl, hR⟩
      have HB := Lib.hid ((below_alloc _).trans (hR.bel.mono (by simp)))
      clear hR
      go_wp2_with (go_at_call 38; refine (CN.out _).mono ?_; rintro e w' ⟨rfl, rfl⟩)
      go_ret
      rw [HO.out, HNIL.out]
      exact gotInts_nil (HB.out.alloc HB.out.size _)
  · have C := Lib.hid (fun w' (h : IsG w' A n c F m d W E) => read_not w' h hM)
    have HO : predsV W E x = [] := by unfold predsV; rw [if_neg hM]
    rw [HO]
    have hc : (chkE W E != 0) = true := by
      rw [bne_iff_ne]
      exact fun q => hM (chkE_zero.mp q)
    obtain ⟨r, hr⟩ : ∃ r, r = chkE W E := ⟨_, rfl⟩
    rw [← hr] at C hc
    clear h hM hr HO
    go_enter Tryd.func20, Tryd.ntmps20
    go_wp2_with fail
    refine (C.out _ (H.out.below (below_alloc _))).mono ?_
    rintro e w1 ⟨rfl, b⟩
    have HB := Lib.hid ((below_alloc _).trans (b.mono (by simp)))
    clear b
    go_wp2
    go_ret
    exact gotInts_nil (HB.out.alloc HB.out.size _)
end
end Go.Proofs.YtmgfbpnphdkgiaaDoor
