/- dag.Check, Order, Preds, Succs and Before in the seat YtpaambpajpmjdaaDoor: their contracts.
   dag.Total in the seat YtpaambpajpmjdaaDoor: its contract.
   dag.Succs and dag.Before in the seat YtpaambpajpmjdaaDoor: their contracts.
   dag.Before in the seat YtpaambpajpmjdaaDoor: its contract.
   No statement is proved here. -/
import Derived.Test.YtpaambpajpmjdaaDoorZDagRead
set_option linter.unusedSimpArgs false
set_option linter.unusedVariables false
namespace Go.Proofs.YtpaambpajpmjdaaDoor
open Go.RowKit

section
variable {A : Option Addr} {n c : Nat} {F : Option Addr} {m d : Nat} {W : List Int} {E : List (Int × Int)}
theorem IsR.next {w w1 w2 : World} {g : Nat} {A' : Option Addr} {c' : Nat} (h : IsR w g n A' c' E w1) (hb : Below w1.heap.size w1 w2) : IsR w g n A' c' E w2 :=
  ⟨h.bel.trans (hb.mono h.bel.size), (h.ints.below hb).more hb.size, by
    obtain ⟨ps, h1, h2⟩ := h.row
    exact ⟨ps, h1.below hb h1.lt, h2⟩, h.low⟩
theorem gotInts_nil {w w' : World} (hb : Below w.heap.size w w') : GotInts [] w (.returned (.slice none 0 0)) w' := ⟨none, 0, rfl, Ints.nil_ _ _ _, hb⟩

set_option maxHeartbeats 2000000 in
theorem check_done (w : World) (h : IsG w A n c F m d W E) :
    Calls Tryd.prog 31 #[.agg #[.slice A n c, .slice F m d]] w fun e w' => e = .returned (.int .i64 (chkE W E)) ∧ Below w.heap.size w w' := by
  have H := Lib.hid h
  by_cases hM : May W E
  · have C := Lib.hid (fun w' (h : IsG w' A n c F m d W E) => read_ok w' h hM)
    rw [chkE_zero.mpr hM]
    clear h hM
    go_enter Tryd.func31, Tryd.ntmps31
    go_wp2_with fail
    refine (C.out _ (H.out.below (below_alloc _))).mono ?_
    rintro e w1 ⟨g, A', c', rfl, hR⟩
    have HB := Lib.hid ((below_alloc _).trans (hR.bel.mono (by simp)))
    clear hR
    go_wp2
    go_ret
    exact ⟨rfl, HB.out.alloc HB.out.size _⟩
  · have C := Lib.hid (fun w' (h : IsG w' A n c F m d W E) => read_not w' h hM)
    obtain ⟨r, hr⟩ : ∃ r, r = chkE W E := ⟨_, rfl⟩
    rw [← hr] at C ⊢
    clear h hM hr
    go_enter Tryd.func31, Tryd.ntmps31
    go_wp2_with fail
    refine (C.out _ (H.out.below (below_alloc _))).mono ?_
    rintro e w1 ⟨rfl, b⟩
    have HB := Lib.hid ((below_alloc _).trans (b.mono (by simp)))
    clear b
    go_wp2
    go_ret
    exact ⟨rfl, HB.out.alloc HB.out.size _⟩
/-! Plain: what sets tell -/
theorem range_filter {p : Nat → Bool} {n : Nat} (h : ∀ a, p a = true → a < n) : ∀ k, (List.range (n + k)).filter p = (List.range n).filter p
  | 0 => rfl
  | k + 1 => by
    rw [show n + (k + 1) = (n + k) + 1 by omega, List.range_succ, List.filter_append, range_filter h k]
    have : p (n + k) = false := by
      cases hp : p (n + k) with
      | false => rfl
      | true => exact absurd (h _ hp) (by omega)
    simp [this]
theorem bitsL_of {s n : Nat} {p : Nat → Bool} (hn : n ≤ 64) (h : ∀ a, s.testBit a = p a) (hp : ∀ a, p a = true → a < n) : nums (bitsL s) = ((List.range n).map Int.ofNat).filter fun a => p a.toNat := by
  unfold bitsL nums
  rw [show s.testBit = p from funext h]
  obtain ⟨k, hk⟩ : ∃ k, 64 = n + k := ⟨64 - n, by omega⟩
  rw [hk, range_filter hp, List.filter_map]
  rfl
theorem predsL_bits {n : Nat} {E : List (Int × Int)} {ps : List Nat} (hn : n ≤ 64) (hF : Fits n E) (h : PredsOf n E ps) {y : Nat} (hy : y < n) : predsL n E y = nums (bitsL (ps.getD y 0)) := by
  rw [bitsL_of hn (h.bit y hy) (fun a ha => (ed_lt hF (of_decide_eq_true ha)).1)]
  unfold predsL
  apply List.filter_congr
  intro a ha
  obtain ⟨b, _, rfl⟩ := List.mem_map.mp ha
  rfl
theorem predsL_out {n : Nat} {E : List (Int × Int)} (hF : Fits n E) {x : Int} (h : ¬ (0 ≤ x ∧ x < n)) : predsL n E x = [] := by
  unfold predsL
  rw [List.filter_eq_nil_iff]
  intro a _ k
  have := hF _ (of_decide_eq_true k)
  exact h ⟨this.2.2.1, this.2.2.2⟩
theorem succsL_out {n : Nat} {E : List (Int × Int)} (hF : Fits n E) {x : Int} (h : ¬ (0 ≤ x ∧ x < n)) : succsL n E x = [] := by
  unfold succsL
  rw [List.filter_eq_nil_iff]
  intro a _ k
  have := hF _ (of_decide_eq_true k)
  exact h ⟨this.1, this.2.1⟩
end

section
variable {A : Option Addr} {n c : Nat} {F : Option Addr} {m d : Nat} {W : List Int} {E : List (Int × Int)}
theorem GotInts.up {w w1 : World} {zs : List Int} {e : Ending} {w' : World} (h : GotInts zs w1 e w') (hb : Below w.heap.size w w1) : GotInts zs w e w' := by
  obtain ⟨A, c, he, hI, b⟩ := h
  exact ⟨A, c, he, hI, hb.trans (b.mono hb.size)⟩
set_option maxHeartbeats 4000000 in
theorem preds_done (w : World) (x : Int) (h : IsG w A n c F m d W E) : Calls Tryd.prog 56 #[.agg #[.slice A n c, .slice F m d], .int .i64 x] w (GotInts (predsV W E x) w) := by
  have H := Lib.hid h
  have ln := h.ln
  have CN := Lib.hid (fun W' => is_node x n W' (by omega))
  by_cases hM : May W E
  · have C := Lib.hid (fun w' (h : IsG w' A n c F m d W E) => read_ok w' h hM)
    have HO := Lib.hid (show predsV W E x = predsL n E x by unfold predsV; rw [if_pos hM, h.hn])
    have hF : Fits n E := by rw [← h.hn]; exact hM.fits
    have hn64 : n ≤ 64 := by rw [← h.hn]; exact hM.nodes
    obtain ⟨l, hl⟩ : ∃ l, l = predsV W E x := ⟨_, rfl⟩
    rw [← hl] at HO ⊢
    by_cases hx : 0 ≤ x ∧ x < n
    · rw [decide_eq_true hx] at CN
      obtain ⟨y, rfl⟩ := Int.eq_ofNat_of_zero_le hx.1
      have hy : y < n := by omega
      have HPB := Lib.hid (fun ps (h : PredsOf n E ps) => predsL_bits hn64 hF h hy)
      clear h hM hl hF hx
      go_enter Tryd.func56, Tryd.ntmps56
      go_wp2_with fail
      refine (C.out _ (H.out.below (below_alloc _))).mono ?_
      rintro e w1 ⟨g, A', c', rfl, hR⟩
      have HB := Lib.hid ((below_alloc _).trans (hR.bel.mono (by simp)))
      obtain ⟨ps, hV, hPS⟩ := hR.row
      have hgl := hV.lt
      have hc := hV.cell (natsV_at (ps := ps) (j := y) (by rw [hPS.len]; exact hy))
      have CR := Lib.hid (fun W' (hT : Tab64 W') => set_row (ps.getD y 0) W' (hPS.lt y hy) hT)
      have HE := Lib.hid (HPB.out ps hPS)
      obtain ⟨p, hp⟩ : ∃ p, p = ps.getD y 0 := ⟨_, rfl⟩
      rw [← hp] at hc CR HE
      clear hR hV hPS hp
      go_wp2_with (first
        | (go_at_call 65; refine (CN.out _).mono ?_; rintro e w' ⟨rfl, rfl⟩)
        | (go_at_call 48; refine (CR.out _ ((H.out.tab.via HB.out).via (below_alloc _))).mono ?_; rintro e w2 ⟨A2, c2, rfl, hI, b⟩; have HI := Lib.hid hI; have HB2 := Lib.hid b; clear hI b))
      go_ret
      rw [HO.out, HE.out]
      exact ⟨A2, c2, rfl, HI.out, HB.out.trans ((below_alloc _).trans (HB2.out.mono (by simp)) |>.mono HB.out.size)⟩
    · rw [decide_eq_false hx] at CN
      have HNIL := Lib.hid (predsL_out hF hx)
      clear h hM hl hF hx
      go_enter Tryd.func56, Tryd.ntmps56
      go_wp2_with fail
      refine (C.out _ (H.out.below (below_alloc _))).mono ?_
      rintro e w1 ⟨g, A', c', rfl, hR⟩
      have HB := Lib.hid ((below_alloc _).trans (hR.bel.mono (by simp)))
      clear hR
      go_wp2_with (go_at_call 65; refine (CN.out _).mono ?_; rintro e w' ⟨rfl, rfl⟩)
      go_ret
      rw [HO.out, HNIL.out]
      exact gotInts_nil (HB.out.alloc HB.out.size _)
  · have C := Lib.hid (fun w' (h : IsG w' A n c F m d W E) => read_not w' h hM)
    have HO : predsV W E x = [] := by unfold predsV; rw [if_neg hM]
    rw [HO]
    have hc : (chkE W E != 0) = true := by
      rw [bne_iff_ne]
      exact fun q => hM (chkE_zero.mp q)
    obtain ⟨r, hr⟩ : ∃ r, r = chkE W E := ⟨_, rfl⟩
    rw [← hr] at C hc
    clear h hM hr HO
    go_enter Tryd.func56, Tryd.ntmps56
    go_wp2_with fail
    refine (C.out _ (H.out.below (below_alloc _))).mono ?_
    rintro e w1 ⟨rfl, b⟩
    have HB := Lib.hid ((below_alloc _).trans (b.mono (by simp)))
    clear b
    go_wp2
    go_ret
    exact gotInts_nil (HB.out.alloc HB.out.size _)
end
end Go.Proofs.YtpaambpajpmjdaaDoor
set_option linter.unusedVariables false
namespace Go.Proofs.YtpaambpajpmjdaaDoor
open Go.RowKit

/-- The closure of Total: it adds to what it captured. -/
theorem total_add (z s : Int) (b : Nat) (w : World) (h0 : 0 ≤ s + z) (h1 : s + z ≤ 1000000) (hV : RowV b 3 [.int .i64 s] w) :
    Calls Tryd.prog 45 #[.int .i64 z, .pointer (some ⟨b, 0, none⟩)] w fun e w' => e = .returned (.tuple #[]) ∧ w' = w.setCell ⟨b, 0, none⟩ (.int .i64 (s + z)) := by
  have hc := hV.cell (j := 0) rfl
  have hf := hV.frozen 0
  have hb := hV.lt
  clear hV
  go_enter Tryd.func45, Tryd.ntmps45
  go_wp2
  go_end0
  exact ⟨rfl, rfl⟩

section
variable {A : Option Addr} {n c : Nat} {F : Option Addr} {m d : Nat} {W : List Int} {E : List (Int × Int)}
set_option maxHeartbeats 4000000 in
theorem total_done (w : World) (h : IsG w A n c F m d W E) :
    Calls Tryd.prog 26 #[.agg #[.slice A n c, .slice F m d]] w fun e w' => e = .returned (.int .i64 (totalV W E)) ∧ Below w.heap.size w w' := by
  have H := Lib.hid h
  have C := Lib.hid (fun w' (h : IsG w' A n c F m d W E) => check_done w' h)
  by_cases hM : May W E
  · have hn64 : n ≤ 64 := by rw [← h.hn]; exact hM.nodes
    have HW := Lib.hid hM.work
    rw [chkE_zero.mpr hM] at C
    have HT := Lib.hid (show totalV W E = W.sum by unfold totalV; rw [if_pos hM])
    obtain ⟨r, hr⟩ : ∃ r, r = totalV W E := ⟨_, rfl⟩
    rw [← hr] at HT ⊢
    obtain ⟨w0, hw0⟩ : ∃ w0, w0 = w.alloc (.cells #[.slice A n c, .slice F m d] 25) := ⟨_, rfl⟩
    have HW0 := Lib.hid hw0
    have HN := Lib.hid h.hn
    clear h hM hr hw0
    go_enter Tryd.func26, Tryd.ntmps26
    go_wp2_with fail
    refine (C.out _ (H.out.below (below_alloc _))).mono ?_
    rintro e w1 ⟨rfl, b⟩
    have HB := Lib.hid (show Below w0.heap.size w0 w1 by rw [HW0.out]; exact b)
    have HG := Lib.hid ((H.out.below (below_alloc _)).below b)
    have hs1 : w.heap.size < w1.heap.size := by have := b.size; simp at this; exact this
    have hbox0 : w1.cell? ⟨w.heap.size, 0, none⟩ = some (.slice A n c) := (b.cell (by simp)).trans (by rw [World.cell?_alloc_at _ _ _ _ rfl]; rfl)
    clear b
    go_wp2
    have H0 : Hid (RowV w1.heap.size 3 [.int .i64 0] (w1.alloc (.cells #[.int .i64 0] 3))) := Lib.hid (RowV.new w1 3 [.int .i64 0])
    go_loopw [14] (fun i wr => ∃ (j : Nat) (q : Int), j ≤ n ∧ i = .int .i64 j ∧ 0 ≤ q ∧ q ≤ 1000 * j ∧ Hid (q = (W.take j).sum) ∧ Hid (RowV w1.heap.size 3 [.int .i64 q] wr) ∧ Hid (Below w1.heap.size w1 wr)) (fun i _ => n - (intOf i).toNat)
    case atStart => exact ⟨0, 0, Nat.zero_le _, rfl, by omega, by omega, Lib.hid (by simp), H0, Lib.hid (below_alloc _)⟩
    case round =>
      obtain ⟨j, q, hj, rfl, hq0, hq1, hqe, HV, HB1⟩ := hrel
      clear H0
      have hbl := HV.out.lt
      by_cases hlt : j < n
      · obtain ⟨bk, o, z, rfl, hbg, hzj, hc1⟩ := HG.out.ints.at_ (k := j) (by rw [HN.out]; exact hlt)
        have hd1 : wr.cell? ⟨bk, o + j, none⟩ = some (.int .i64 z) := (HB1.out.cell hbg).trans hc1
        obtain ⟨z0, z1⟩ := HW.out z (List.mem_of_getElem? hzj)
        have HQ := Lib.hid (show q + z = (W.take (j + 1)).sum by rw [take_snoc' hzj, List.sum_append, hqe.out]; simp)
        have C2 := Lib.hid (total_add z q w1.heap.size wr (by omega) (by omega) HV.out)
        clear hzj hc1
        go_wp2_with (go_at_call 45; refine C2.out.mono ?_; rintro e w3 ⟨rfl, rfl⟩)
        go_roundw
        case rel => exact ⟨j + 1, q + z, by omega, by go_num, by omega, by omega, HQ, Lib.hid (HV.out.set 0 (.int .i64 (q + z))), Lib.hid (HB1.out.setCell (Nat.le_refl _) _)⟩
        case measure => simp [intOf]; omega
      · obtain rfl : j = n := by omega
        have hl2 : W.take j = W := List.take_of_length_le (by rw [HN.out]; omega)
        rw [hl2] at hqe
        have hc := HV.out.cell (j := 0) rfl
        go_wp2
        go_ret
        exact ⟨by rw [HT.out, ← hqe.out]; rfl, (below_alloc _).trans (by rw [← HW0.out]; exact (HB.out.trans (HB1.out.mono HB.out.size)).mono (by rw [HW0.out]; simp))⟩
  · have HO : totalV W E = 0 := by unfold totalV; rw [if_neg hM]
    rw [HO]
    have hc : (chkE W E != 0) = true := by
      rw [bne_iff_ne]
      exact fun q => hM (chkE_zero.mp q)
    obtain ⟨r, hr⟩ : ∃ r, r = chkE W E := ⟨_, rfl⟩
    rw [← hr] at C hc
    clear h hM hr HO
    go_enter Tryd.func26, Tryd.ntmps26
    go_wp2_with fail
    refine (C.out _ (H.out.below (below_alloc _))).mono ?_
    rintro e w1 ⟨rfl, b⟩
    have HB := Lib.hid ((below_alloc _).trans (b.mono (by simp)))
    clear b
    go_wp2
    go_ret
    exact ⟨rfl, HB.out⟩
end
end Go.Proofs.YtpaambpajpmjdaaDoor
set_option linter.unusedVariables false
namespace Go.Proofs.YtpaambpajpmjdaaDoor
open Go.RowKit

theorem succsL_bits {n T : Nat} {E : List (Int × Int)} (hn : n ≤ 64) (hF : Fits n E) {y : Nat} (h : ∀ a, T.testBit a = (decide (a < n) && decide (ed E y a))) : succsL n E y = nums (bitsL T) := by
  rw [bitsL_of hn h (fun a ha => by rw [Bool.and_eq_true, decide_eq_true_iff] at ha; exact ha.1)]
  unfold succsL
  apply List.filter_congr
  intro a ha
  obtain ⟨b, hb, rfl⟩ := List.mem_map.mp ha
  have hb2 := List.mem_range.mp hb
  show decide _ = (decide (b < n) && decide (ed E y b))
  rw [decide_eq_true hb2, Bool.true_and]
  rfl
theorem succ_step {T y j : Nat} {E : List (Int × Int)} (h : ∀ a, T.testBit a = (decide (a < j) && decide (ed E y a))) (he : ed E y j) (a : Nat) : (T ||| 2 ^ j).testBit a = (decide (a < j + 1) && decide (ed E y a)) := by
  rw [or_bit_testBit, h, Bool.eq_iff_iff]
  simp only [Bool.or_eq_true, Bool.and_eq_true, decide_eq_true_iff]
  constructor
  · rintro (⟨k1, k2⟩ | k)
    · exact ⟨by omega, k2⟩
    · exact ⟨by omega, k ▸ he⟩
  · rintro ⟨k1, k2⟩
    by_cases hj : j = a
    · exact .inr hj
    · exact .inl ⟨by omega, k2⟩
theorem succ_skip {T y j : Nat} {E : List (Int × Int)} (h : ∀ a, T.testBit a = (decide (a < j) && decide (ed E y a))) (he : ¬ ed E y j) (a : Nat) : T.testBit a = (decide (a < j + 1) && decide (ed E y a)) := by
  rw [h, Bool.eq_iff_iff]
  simp only [Bool.and_eq_true, decide_eq_true_iff]
  constructor
  · rintro ⟨k1, k2⟩
    exact ⟨by omega, k2⟩
  · rintro ⟨k1, k2⟩
    by_cases hj : j = a
    · exact absurd (hj ▸ k2) he
    · exact ⟨by omega, k2⟩
theorem and_ne_zero_iff (p u : Nat) : p &&& u ≠ 0 ↔ ∃ i, p.testBit i = true ∧ u.testBit i = true := by
  constructor
  · intro h
    obtain ⟨i, hi⟩ := Nat.exists_testBit_of_ne_zero h
    rw [Nat.testBit_and, Bool.and_eq_true] at hi
    exact ⟨i, hi⟩
  · rintro ⟨i, h1, h2⟩ h
    have : (p &&& u).testBit i = false := by rw [h, Nat.zero_testBit]
    rw [Nat.testBit_and, h1, h2] at this
    cases this
theorem way_order {n : Nat} {E : List (Int × Int)} {out : List Nat} (h : Ordered n E out) {j x a : Nat} (hx : out[j]? = some x) : (∃ p, ed E p x ∧ (p = a ∨ (p ∈ out.take j ∧ Way E a p))) ↔ Way E a x := by
  constructor
  · rintro ⟨p, he, rfl | ⟨_, hw⟩⟩
    · exact .one he
    · exact .more hw he
  · intro hw
    obtain ⟨p, he, hp⟩ := hw.last
    refine ⟨p, he, hp.imp id fun k => ⟨?_, k⟩⟩
    obtain ⟨hj, e⟩ := List.getElem?_eq_some_iff.mp hx
    exact h.behind j hj p (by rw [e]; exact he)

section
variable {A : Option Addr} {n c : Nat} {F : Option Addr} {m d : Nat} {W : List Int} {E : List (Int × Int)}
end
end Go.Proofs.YtpaambpajpmjdaaDoor
set_option linter.unusedVariables false
namespace Go.Proofs.YtpaambpajpmjdaaDoor
open Go.RowKit

theorem nums_get {l : List Nat} {j : Nat} {z : Int} (h : (nums l)[j]? = some z) : ∃ x : Nat, z = (x : Int) ∧ l[j]? = some x := by
  unfold nums at h
  rw [List.getElem?_map] at h
  cases hx : l[j]? with
  | none => rw [hx] at h; cases h
  | some x =>
    rw [hx] at h
    exact ⟨x, (Option.some.inj h).symm, rfl⟩
/-- What lies behind a, of the nodes that were met. -/
def Behind (E : List (Int × Int)) (a : Nat) (met : List Nat) (T : Nat) : Prop := ∀ x, T.testBit x = true ↔ x ∈ met ∧ Way E a x
theorem behind_nil (E : List (Int × Int)) (a : Nat) : Behind E a [] 0 := fun x => by simp
theorem behind_cond {n : Nat} {E : List (Int × Int)} {out ps : List Nat} (hO : Ordered n E out) (hP : PredsOf n E ps) {a j x f T : Nat} (hf : ∀ i, f.testBit i = decide (a = i)) (hT : Behind E a (out.take j) T) (hx : out[j]? = some x) :
    ps.getD x 0 &&& (f ||| T) ≠ 0 ↔ Way E a x := by
  have hxn : x < n := hO.lt x (List.mem_of_getElem? hx)
  rw [and_ne_zero_iff, ← way_order hO hx]
  constructor
  · rintro ⟨i, h1, h2⟩
    rw [hP.bit x hxn, decide_eq_true_iff] at h1
    rw [Nat.testBit_or, Bool.or_eq_true, hf, decide_eq_true_iff] at h2
    exact ⟨i, h1, h2.imp Eq.symm (hT i).mp⟩
  · rintro ⟨p, h1, h2⟩
    refine ⟨p, by rw [hP.bit x hxn]; exact decide_eq_true h1, ?_⟩
    rw [Nat.testBit_or, Bool.or_eq_true, hf, decide_eq_true_iff]
    exact h2.imp Eq.symm (hT p).mpr
theorem behind_more {E : List (Int × Int)} {out : List Nat} {a j x T : Nat} (hT : Behind E a (out.take j) T) (hx : out[j]? = some x) (hw : Way E a x) : Behind E a (out.take (j + 1)) (T ||| 2 ^ x) := fun i => by
  rw [or_bit_testBit, Bool.or_eq_true, hT i, decide_eq_true_iff, take_snoc' hx, List.mem_append, List.mem_singleton]
  constructor
  · rintro (⟨h1, h2⟩ | rfl)
    · exact ⟨.inl h1, h2⟩
    · exact ⟨.inr rfl, hw⟩
  · rintro ⟨h1 | h1, h2⟩
    · exact .inl ⟨h1, h2⟩
    · exact .inr h1.symm
theorem behind_skip {E : List (Int × Int)} {out : List Nat} {a j x T : Nat} (hT : Behind E a (out.take j) T) (hx : out[j]? = some x) (hw : ¬ Way E a x) : Behind E a (out.take (j + 1)) T := fun i => by
  rw [hT i, take_snoc' hx, List.mem_append, List.mem_singleton]
  constructor
  · rintro ⟨h1, h2⟩
    exact ⟨.inl h1, h2⟩
  · rintro ⟨h1 | rfl, h2⟩
    · exact ⟨h1, h2⟩
    · exact absurd h2 hw

section
variable {A : Option Addr} {n c : Nat} {F : Option Addr} {m d : Nat} {W : List Int} {E : List (Int × Int)}
theorem beforeV_out {a b : Int} (hF : Fits n E) (h : ¬ ((0 ≤ a ∧ a < n) ∧ (0 ≤ b ∧ b < n))) : beforeV W E a b = false := by
  unfold beforeV
  rw [if_neg]
  rintro ⟨_, h1, h2, h3⟩
  have := h3.lt hF
  exact h ⟨⟨h1, by omega⟩, h2, by omega⟩
end
end Go.Proofs.YtpaambpajpmjdaaDoor
