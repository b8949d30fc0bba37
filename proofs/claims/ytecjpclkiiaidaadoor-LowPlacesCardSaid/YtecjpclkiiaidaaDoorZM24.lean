/- The contract of trefoilref07.Same in the seat YtecjpclkiiaidaaDoor. No statement is proved here. -/
import Derived.Test.YtecjpclkiiaidaaDoorZM23
set_option linter.unusedVariables false
namespace Go.Proofs.YtecjpclkiiaidaaDoor
open Go.RowKit

section
variable {A : Option Addr} {n c : Nat} {F : Option Addr} {m d : Nat} {R : Option Addr} {k e : Nat} {W : List Int} {E P : List (Int × Int)} {A' : Option Addr} {n' c' : Nat} {F' : Option Addr} {m' d' : Nat} {R' : Option Addr} {k' e' : Nat} {W' : List Int} {E' P' : List (Int × Int)}
set_option maxRecDepth 100000 in
set_option maxHeartbeats 2000000 in
theorem rsameL_any (w : World) (h : IsL w A n c F m d R k e W E P) (h' : IsL w A' n' c' F' m' d' R' k' e' W' E' P') :
    Calls Tryd.prog 12 #[.agg #[.slice A n c, .slice F m d, .slice R k e], .agg #[.slice A' n' c', .slice F' m' d', .slice R' k' e']] w fun z w' => z = .returned (.bool (decide ((W = W' ∧ E = E') ∧ P = P'))) ∧ Below w.heap.size w w' := by
  have HP := Lib.hid h.pcs
  have HM := Lib.hid h.hk
  have HP' := Lib.hid h'.pcs
  have HM' := Lib.hid h'.hk
  have lk := h.lk
  have lk' := h'.lk
  have B0 := below_alloc2 (w := w) (.cells #[.slice A n c, .slice F m d, .slice R k e] 28) (.cells #[.slice A' n' c', .slice F' m' d', .slice R' k' e'] 28)
  obtain ⟨w0, hw0⟩ : ∃ w0, w0 = (w.alloc (.cells #[.slice A n c, .slice F m d, .slice R k e] 28)).alloc (.cells #[.slice A' n' c', .slice F' m' d', .slice R' k' e'] 28) := ⟨_, rfl⟩
  rw [← hw0] at B0
  have C := Lib.hid (fun W0 (hb : Below w0.heap.size w0 W0) => same_any A F A' F' n c m d n' c' m' d' W W' E E' W0 h.g.hn h.g.hm h'.g.hn h'.g.hm (by have := h.g.ln; omega) (by have := h.g.lm; omega) (by have := h'.g.ln; omega) (by have := h'.g.lm; omega)
    ((h.g.below (B0.trans (hb.mono B0.size))).ints) ((h.g.below (B0.trans (hb.mono B0.size))).pairs) ((h'.g.below (B0.trans (hb.mono B0.size))).ints) ((h'.g.below (B0.trans (hb.mono B0.size))).pairs))
  obtain ⟨r, hr⟩ : ∃ r, r = decide ((W = W' ∧ E = E') ∧ P = P') := ⟨_, rfl⟩
  obtain ⟨r1, hr1⟩ : ∃ r, r = decide (W = W' ∧ E = E') := ⟨_, rfl⟩
  rw [← hr1] at C
  rw [← hr]
  have HR := Lib.hid (And.intro hr hr1)
  have HB := Lib.hid B0
  have HW := Lib.hid hw0
  clear h h' hr hr1 B0 hw0
  by_cases h2 : k = k'
  · subst h2
    go_enter Tryd.func12, Tryd.ntmps12
    go_wp2
    go_loopw [5] (fun i wr => ∃ j N : Nat, j ≤ k ∧ i = .int .i64 j ∧ Hid (P.take j = P'.take j) ∧ wr = ((w.alloc (.cells #[.slice A n c, .slice F m d, .slice R k e] 28)).alloc (.cells #[.slice A' n' c', .slice F' m' d', .slice R' k e'] 28)).drewN N) (fun i _ => k - (intOf i).toNat)
    case atStart => exact ⟨0, 0, Nat.zero_le _, rfl, Lib.hid rfl, rfl⟩
    case round =>
      obtain ⟨j, M, hj, rfl, HU, rfl⟩ := hrel
      by_cases hlt2 : j < k
      · obtain ⟨b1, o1, ⟨x1, x2⟩, rfl, hb1, hx1, hc1, hc2⟩ := HP.out.at_ (k := j) (by rw [HM.out]; exact hlt2)
        obtain ⟨b2, o2, ⟨y1, y2⟩, rfl, hb2, hy1, hd1, hd2⟩ := HP'.out.at_ (k := j) (by rw [HM'.out]; exact hlt2)
        simp only at hc1 hc2 hd1 hd2
        have HX := Lib.hid hx1
        have HY := Lib.hid hy1
        clear hx1 hy1
        have hrun := fun W => piece_neq_run x1 x2 y1 y2 W
        by_cases hxy : (x1, x2) = (y1, y2)
        · injection hxy with h1 h2
          subst h1 h2
          have hb : (x1 == x1 && x2 == x2) = true := by simp
          simp only [hb] at hrun
          go_wp2
          go_quiet (fail)
          go_wp2
          go_roundw
          case rel => exact ⟨j + 1, _, by omega, by go_num, Lib.hid (take_next HU.out HX.out HY.out), rfl⟩
          case measure => simp [intOf]; omega
        · have hb : (x1 == y1 && x2 == y2) = false := by
            rw [Bool.and_eq_false_iff]
            by_cases h1 : x1 = y1
            · exact .inr (by simpa using fun h2 => hxy (by rw [h1, h2]))
            · exact .inl (by simpa using h1)
          simp only [hb] at hrun
          have HXY := Lib.hid hxy
          clear hxy
          go_wp2
          go_quiet (fail)
          go_wp2
          go_ret
          exact ⟨by rw [HR.out.1, decide_eq_false (fun e : (W = W' ∧ E = E') ∧ P = P' => take_part HX.out HY.out HXY.out e.2)]; rfl, below_drewN (below_drewN (below_alloc2 _ _) M) _⟩
      · obtain rfl : j = k := by omega
        have HEE := Lib.hid (take_ext (by rw [HM.out, HM'.out]) (by rw [HM.out]; exact HU.out) : P = P')
        go_wp2_with fail
        rw [← HW.out]
        refine (C.out _ (below_drewN (Below.refl _ _) _)).mono ?_
        rintro e w1 ⟨rfl, b1⟩
        have HBF := Lib.hid ((below_drewN HB.out M).trans (b1.mono (below_drewN HB.out M).size))
        have HQ : Hid (r1 = r) := Lib.hid (by rw [HR.out.1, HR.out.2]; simp [HEE.out])
        clear b1
        go_wp2
        go_ret
        exact ⟨by rw [HQ.out]; rfl, HBF.out⟩
  · have hb : ((k : Int) != (k' : Int)) = true := by simp; omega
    have HNO := Lib.hid (fun e : (W = W' ∧ E = E') ∧ P = P' => h2 (by rw [← HM.out, ← HM'.out, e.2]))
    clear h2
    go_enter Tryd.func12, Tryd.ntmps12
    go_wp2
    go_ret
    exact ⟨by rw [HR.out.1, decide_eq_false HNO.out]; rfl, below_alloc2 _ _⟩
end
end Go.Proofs.YtecjpclkiiaidaaDoor
