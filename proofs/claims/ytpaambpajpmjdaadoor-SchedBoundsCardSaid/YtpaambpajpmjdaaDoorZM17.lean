/- One of trefoilref10 in the seat YtpaambpajpmjdaaDoor: its contract.
   Ends of trefoilref10 in the seat YtpaambpajpmjdaaDoor: its contract.
   No statement is proved here. -/
import Derived.Test.YtpaambpajpmjdaaDoorZM16
import Derived.Test.YtpaambpajpmjdaaDoorZM3
import Derived.BigQuiet
set_option linter.unusedSimpArgs false
set_option linter.unusedVariables false
namespace Go.Proofs.YtpaambpajpmjdaaDoor
open Go.RowKit

section
variable {A : Option Addr} {n c : Nat} {F : Option Addr} {m d : Nat} {W : List Int} {E : List (Int × Int)} {N : Option Addr} {nn nc : Nat} {need : List Int} {T : Option Addr} {tn tc : Nat} {t : List (List Int)}
set_option maxRecDepth 100000 in
set_option maxHeartbeats 8000000 in
theorem rone_any (cores i k : Nat) (w : World) (h : IsG w A n c F m d W E) (hS : IsS w N nn nc T tn tc need t) (hF : Fits need.length E) (hR : ∀ r ∈ t, r.length = cores) (hi : i < tn) (hk : k < cores) (hc8 : cores ≤ 8) :
    Calls Tryd.prog 30 #[.agg #[.slice A n c, .slice F m d], .slice N nn nc, .slice T tn tc, .int .i64 i, .int .i64 k] w fun e w' => e = .returned (.int .i64 (oneV E need t i k)) ∧ Below w.heap.size w w' := by
  have HS := Lib.hid hS
  have HR := Lib.hid hR
  have HW0' : Hid (Below w.heap.size w (w.alloc (.cells #[.slice A n c, .slice F m d] 25))) := Lib.hid (below_alloc _)
  obtain ⟨bt, ot, row, A1, n1, c1, hTT, hbt, hrow, hn1, hcell, hints, hnil⟩ := hS.rows.at_ (k := i) (by rw [hS.ht]; exact hi)
  subst hTT
  obtain rfl : n1 = cores := hn1.symm.trans (hR row (List.mem_of_getElem? hrow))
  have HI1 := Lib.hid hints
  have HROW := Lib.hid hrow
  have HN1 := Lib.hid hn1
  obtain ⟨bk, off, x, hA1, hbk, hxk, hcx⟩ := hints.at_ (k := k) (by rw [hn1]; exact hk)
  subst hA1
  have HNUM := Lib.hid (numT_at hrow hxk)
  have HRT := Lib.hid (rowT_at hrow)
  have CR := Lib.hid (fun (W' : World) (hb : Below w.heap.size w W') (y : Int) => rran_any (tc := tc) y i w.heap.size W' hS.ht hS.lt hS.lr (hS.rows.below hb) (by omega))
  have CF := Lib.hid (fun (W' : World) (hb : Below w.heap.size w W') (y : Int) => rfree_any y i W' (h.below hb) (hS.below hb) hF (by omega))
  have htn : tn ≤ 400 := hS.lt
  have hnn : nn ≤ 400 := hS.ln
  obtain ⟨w0, hw0⟩ : ∃ w0, w0 = w.alloc (.cells #[.slice A n c, .slice F m d] 25) := ⟨_, rfl⟩
  have HW0 := Lib.hid hw0
  have HB0 : Hid (Below w.heap.size w w0) := Lib.hid (by rw [hw0]; exact below_alloc _)
  have HZ0 : Hid (w.heap.size < w0.heap.size) := Lib.hid (by rw [hw0]; simp)
  have P0 : Hid (w0.cell? ⟨w.heap.size, 0, none⟩ = some (.slice A n c)) := Lib.hid (by rw [hw0, World.cell?_alloc_at _ _ _ _ rfl]; rfl)
  have P1 : Hid (w0.cell? ⟨w.heap.size, 1, none⟩ = some (.slice F m d)) := Lib.hid (by rw [hw0, World.cell?_alloc_at _ _ _ _ rfl]; rfl)
  obtain ⟨r, hr⟩ : ∃ r, r = oneV E need t i k := ⟨_, rfl⟩
  rw [← hr]
  have HRR := Lib.hid hr
  clear h hS hF hR hrow hn1 hints hnil hxk hr hw0 HW0'
  by_cases hx1 : x = -1
  · obtain rfl : r = 0 := HRR.out.trans (one_idle (HNUM.out.trans hx1))
    subst hx1
    go_enter Tryd.func30, Tryd.ntmps30
    go_wp2
    go_ret
    exact ⟨rfl, below_alloc _⟩
  · have hne : (x == -1) = false := by simpa using hx1
    have HNE := Lib.hid (show numT t i k ≠ -1 by rw [HNUM.out]; exact hx1)
    clear hx1
    by_cases hx2 : x < 0
    · obtain rfl : r = 101 := HRR.out.trans (one_node HNE.out (.inl (by rw [HNUM.out]; exact hx2)))
      go_enter Tryd.func30, Tryd.ntmps30
      go_wp2
      go_ret
      exact ⟨rfl, below_alloc _⟩
    · have hx2' : decide (x < 0) = false := decide_eq_false hx2
      obtain ⟨q, rfl⟩ : ∃ q : Nat, x = (q : Int) := ⟨x.toNat, by omega⟩
      clear hx2
      by_cases hx3 : nn ≤ q
      · obtain rfl : r = 101 := HRR.out.trans (one_node HNE.out (.inr (by rw [HNUM.out, HS.out.hn]; omega)))
        go_enter Tryd.func30, Tryd.ntmps30
        go_wp2
        go_ret
        exact ⟨rfl, below_alloc _⟩
      · have hqn : q < nn := by omega
        clear hx3
        have HNO := Lib.hid (show ¬ (numT t i k < 0 ∨ (need.length : Int) ≤ numT t i k) by rw [HNUM.out, HS.out.hn]; omega)
        obtain ⟨bn, on, z, hN, hbn, hzq, hcz⟩ := HS.out.ints.at_ (k := q) (by rw [HS.out.hn]; exact hqn)
        subst hN
        have HZ := Lib.hid (show needT need (q : Int) = z by rw [needT_nat, List.getD_eq_getElem?_getD, hzq]; rfl)
        have HCZ := Lib.hid hcz
        have HBN := Lib.hid hbn
        clear hzq hcz hbn
        go_enter Tryd.func30, Tryd.ntmps30
        go_wp2
        rw [← HW0.out]
        go_loopw [12] (fun v wr => ∃ j : Nat, j ≤ k ∧ v = .int .i64 j ∧ w0 = wr ∧ Hid ((q : Int) ∉ row.take j)) (fun v _ => k - (intOf v).toNat)
        case atStart => exact ⟨0, Nat.zero_le _, rfl, rfl, Lib.hid (by simp)⟩
        case round =>
          obtain ⟨j, hj, rfl, rfl, HO⟩ := hrel
          have hb0 := HB0.out
          have hd1 : w0.cell? ⟨bt, ot + i, none⟩ = some (.slice (some ⟨bk, off, none⟩) n1 c1) := (HB0.out.cell hbt).trans hcell
          have hbt0 : bt < w0.heap.size := Nat.lt_of_lt_of_le hbt HB0.out.size
          have hbk0 : bk < w0.heap.size := Nat.lt_of_lt_of_le hbk HB0.out.size
          by_cases hlt : j < k
          · obtain ⟨bk', off', y, e1, _, hyk, hcy⟩ := HI1.out.at_ (k := j) (by rw [HN1.out]; omega)
            injection e1 with e1
            injection e1 with e2 e3 _
            subst e2 e3
            have hd2 : w0.cell? ⟨bk, off + j, none⟩ = some (.int .i64 y) := (HB0.out.cell hbk).trans hcy
            have HYK := Lib.hid hyk
            clear hyk hcy
            by_cases hy : y = (q : Int)
            · subst hy
              obtain rfl : r = 102 := HRR.out.trans (one_twice HNE.out HNO.out (by
                rw [HNUM.out, HRT.out]
                refine List.mem_of_getElem? (i := j) ?_
                rw [List.getElem?_take, if_pos hlt]; exact HYK.out))
              go_wp2
              go_ret
              exact ⟨rfl, HB0.out⟩
            · have hyf : (y == (q : Int)) = false := by simpa using hy
              have HO2 : Hid ((q : Int) ∉ row.take (j + 1)) := Lib.hid (by
                rw [take_snoc' HYK.out, List.mem_append, List.mem_singleton]
                rintro (h | h)
                · exact HO.out h
                · exact hy h.symm)
              clear hy
              go_wp2
              go_roundw
              case rel => exact ⟨j + 1, by omega, by go_num, (by first | trivial | rfl), HO2⟩
              case measure => simp [intOf]; omega
          · obtain rfl : j = k := by omega
            have HX4 := Lib.hid (show numT t i j ∉ (rowT t i).take j by rw [HNUM.out, HRT.out]; exact HO.out)
            have CRQ := Lib.hid (CR.out w0 HB0.out (q : Int))
            obtain ⟨v, hv⟩ : ∃ v, v = ranT t (q : Int) i := ⟨_, rfl⟩
            rw [← hv] at CRQ
            have HV := Lib.hid hv
            have hz0 : w0.cell? ⟨bn, on + q, none⟩ = some (.int .i64 z) := (HB0.out.cell HBN.out).trans HCZ.out
            have hbn0 : bn < w0.heap.size := Nat.lt_of_lt_of_le HBN.out HB0.out.size
            have hvb : v ≤ 400 * 400 := by
              have h1 : ranT t (q : Int) i ≤ (t.take i).flatten.length := List.count_le_length
              rw [flat_len HR.out i (by rw [HS.out.ht]; omega)] at h1
              have h2 : n1 * i ≤ 400 * 400 := Nat.mul_le_mul (by omega) (by omega)
              omega
            clear hv
            by_cases h5 : z ≤ v
            · obtain rfl : r = 105 := HRR.out.trans (one_over HNE.out HNO.out HX4.out (by
                rw [HNUM.out]
                have h1 := HZ.out
                have h2 := HV.out
                omega))
              go_wp2_with fail
              refine CRQ.out.mono ?_
              rintro e w1 ⟨rfl, rfl⟩
              go_wp2
              go_ret
              exact ⟨rfl, HB0.out⟩
            · have h5' : decide (z ≤ (v : Int)) = false := decide_eq_false h5
              have HX5 := Lib.hid (show ¬ needT need (numT t i j) ≤ ranT t (numT t i j) i by
                rw [HNUM.out]
                have h1 := HZ.out
                have h2 := HV.out
                omega)
              clear h5
              by_cases h6 : 0 < v
              · have hi1 : 1 ≤ i := by
                  rcases Nat.eq_zero_or_pos i with h0 | h0
                  · have h2 := HV.out
                    rw [h0, ranT_zero] at h2
                    omega
                  · exact h0
                obtain ⟨bt', ot', row', A2, n2, c2, e0, hbt', hrow', hn2, hcell', hints', hnil'⟩ := HS.out.rows.at_ (k := i - 1) (by rw [HS.out.ht]; omega)
                injection e0 with e0
                injection e0 with e1 e2 _
                subst e1 e2
                obtain rfl : n2 = n1 := hn2.symm.trans (HR.out row' (List.mem_of_getElem? hrow'))
                obtain ⟨bp, op, y, hA2, hbp, hyp, hcy⟩ := hints'.at_ (k := j) (by rw [hn2]; exact hk)
                subst hA2
                have hidx : ((i : Int) - 1) = ((i - 1 : Nat) : Int) := by omega
                have he1 : w0.cell? ⟨bt, ot + (i - 1), none⟩ = some (.slice (some ⟨bp, op, none⟩) n2 c2) := (HB0.out.cell hbt).trans hcell'
                have he2 : w0.cell? ⟨bp, op + j, none⟩ = some (.int .i64 y) := (HB0.out.cell hbp).trans hcy
                have hbp0 : bp < w0.heap.size := Nat.lt_of_lt_of_le hbp HB0.out.size
                have HY := Lib.hid (numT_at hrow' hyp)
                have him : i - 1 < tn := by omega
                clear hrow' hn2 hcell' hints' hnil' hyp hcy hbt'
                obtain ⟨i1, hi1e⟩ : ∃ i1, i1 = i - 1 := ⟨_, rfl⟩
                rw [← hi1e] at hidx he1 him
                have HI1E := Lib.hid hi1e
                clear hi1e
                by_cases h7 : y = (q : Int)
                · obtain rfl : r = 0 := HRR.out.trans (one_fine HNE.out HNO.out HX4.out HX5.out (by
                    rw [HNUM.out, HY.out, h7]
                    rintro ⟨_, h⟩
                    exact h rfl) (by
                    rw [HNUM.out]
                    rintro ⟨h, _⟩
                    have := HV.out
                    omega))
                  have hyb : (y != (q : Int)) = false := by rw [h7]; simp
                  have hv0 : ((v : Int) == 0) = false := by simp; omega
                  clear h7
                  go_wp2_with fail
                  refine CRQ.out.mono ?_
                  rintro e w1 ⟨rfl, rfl⟩
                  go_wp2
                  go_ret
                  exact ⟨rfl, HB0.out⟩
                · obtain rfl : r = 104 := HRR.out.trans (one_split HNE.out HNO.out HX4.out HX5.out (by
                    rw [HNUM.out, HY.out]
                    exact ⟨by have := HV.out; omega, h7⟩))
                  have hyb : (y != (q : Int)) = true := by simpa using h7
                  clear h7
                  go_wp2_with fail
                  refine CRQ.out.mono ?_
                  rintro e w1 ⟨rfl, rfl⟩
                  go_wp2
                  go_ret
                  exact ⟨rfl, HB0.out⟩
              · obtain rfl : v = 0 := by omega
                have h5z : decide (z ≤ 0) = false := by simpa using h5'
                clear h5' h6
                have CFQ := Lib.hid (CF.out w0 HB0.out (q : Int))
                have q0 := P0.out
                have q1 := P1.out
                by_cases hf : FreeT E need t (q : Int) i
                · obtain rfl : r = 0 := HRR.out.trans (one_fine HNE.out HNO.out HX4.out HX5.out (by
                    rw [HNUM.out]
                    rintro ⟨h, _⟩
                    have := HV.out
                    omega) (by
                    rw [HNUM.out]
                    rintro ⟨_, h⟩
                    exact h hf))
                  rw [decide_eq_true hf] at CFQ
                  clear hf
                  go_wp2_with fail
                  refine CRQ.out.mono ?_
                  rintro e w1 ⟨rfl, rfl⟩
                  go_wp2_with fail
                  refine CFQ.out.mono ?_
                  rintro e w2 ⟨rfl, b⟩
                  have HB2 := Lib.hid (HB0.out.trans (b.mono HB0.out.size))
                  clear b
                  go_wp2
                  go_ret
                  exact ⟨rfl, HB2.out⟩
                · obtain rfl : r = 103 := HRR.out.trans (one_wait HNE.out HNO.out HX4.out HX5.out (by
                    rw [HNUM.out]
                    rintro ⟨h, _⟩
                    have := HV.out
                    omega) (by
                    rw [HNUM.out]
                    exact ⟨HV.out.symm, hf⟩))
                  rw [decide_eq_false hf] at CFQ
                  clear hf
                  go_wp2_with fail
                  refine CRQ.out.mono ?_
                  rintro e w1 ⟨rfl, rfl⟩
                  go_wp2_with fail
                  refine CFQ.out.mono ?_
                  rintro e w2 ⟨rfl, b⟩
                  have HB2 := Lib.hid (HB0.out.trans (b.mono HB0.out.size))
                  clear b
                  go_wp2
                  go_ret
                  exact ⟨rfl, HB2.out⟩
end
end Go.Proofs.YtpaambpajpmjdaaDoor
set_option linter.unusedVariables false
namespace Go.Proofs.YtpaambpajpmjdaaDoor
open Go.RowKit

/-- The least tick behind k by which a node is done. -/
def EndF (need : List Int) (t : List (List Int)) (x : Int) (tn k : Nat) (v : Int) : Prop :=
  (v = -1 ∧ ∀ j, k ≤ j → j ≤ tn → (ranT t x j : Int) < needT need x) ∨ ∃ j : Nat, v = (j : Int) ∧ k ≤ j ∧ j ≤ tn ∧ needT need x ≤ ranT t x j ∧ ∀ i, k ≤ i → i < j → (ranT t x i : Int) < needT need x
theorem EndF.fin {need : List Int} {t : List (List Int)} {x : Int} {v : Int} (h : EndF need t x t.length 0 v) : endV need t x = v := by
  rcases h with ⟨rfl, h⟩ | ⟨j, rfl, _, hj, h1, h2⟩
  · exact endV_none (h _ (Nat.zero_le _) (Nat.le_refl _))
  · exact endV_some hj h1 fun i hi => h2 i (Nat.zero_le _) hi
section
variable {N : Option Addr} {nn nc : Nat} {need : List Int} {T : Option Addr} {tn tc : Nat} {t : List (List Int)}
set_option maxRecDepth 100000 in
set_option maxHeartbeats 8000000 in
theorem rends_any (w : World) (hS : IsS w N nn nc T tn tc need t) :
    Calls Tryd.prog 21 #[.slice N nn nc, .slice T tn tc] w (GotInts ((List.range need.length).map fun n : Nat => endV need t (n : Int)) w) := by
  have HS := Lib.hid hS
  have htn : tn ≤ 400 := hS.lt
  have hnn : nn ≤ 400 := hS.ln
  obtain ⟨L, hL⟩ : ∃ L, L = fun k : Nat => (List.range k).map fun n : Nat => endV need t (n : Int) := ⟨_, rfl⟩
  have HL := Lib.hid hL
  have HLN : Hid (∀ k, (L k).length = k) := Lib.hid (fun k => by rw [hL]; simp)
  have hLL : ((List.range need.length).map fun n : Nat => endV need t (n : Int)) = L nn := by rw [hL, hS.hn]
  rw [hLL]
  clear hS hL hLL
  go_enter Tryd.func21, Tryd.ntmps21
  go_wp2
  go_loopw [5, 6] (fun o v wr => ∃ (k : Nat) (A' : Option Addr) (c' : Nat), k ≤ nn ∧ v = .int .i64 k ∧ o = .slice A' k c' ∧ Hid (OwnI wr w.heap.size (.slice A' k c') (L k)) ∧ Hid (Below w.heap.size w wr)) (fun _ v _ => nn - (intOf v).toNat)
  case atStart => exact ⟨0, _, _, Nat.zero_le _, rfl, rfl, Lib.hid (by rw [HL.out]; exact OwnI.new w _ (Nat.le_refl _)), Lib.hid (below_alloc _)⟩
  case round =>
    obtain ⟨k, A', c', hk, rfl, rfl, HO, HB⟩ := hrel
    by_cases hlt : k < nn
    · obtain ⟨bn, on, z, rfl, hbn, hzq, hcz⟩ := HS.out.ints.at_ (k := k) (by rw [HS.out.hn]; exact hlt)
      have hdz : wr.cell? ⟨bn, on + k, none⟩ = some (.int .i64 z) := (HB.out.cell hbn).trans hcz
      have hbn2 : bn < wr.heap.size := Nat.lt_of_lt_of_le hbn HB.out.size
      have HZ := Lib.hid (show needT need (k : Int) = z by rw [needT_nat, List.getD_eq_getElem?_getD, hzq]; rfl)
      have HCZ := Lib.hid hcz
      clear hzq hcz
      go_wp2
      go_loopw [7, 8] (fun ev v wi => ∃ (j : Nat) (e : Int), j ≤ tn + 1 ∧ v = .int .i64 ((j : Int) - 1) ∧ ev = .int .i64 e ∧ Hid (EndF need t (k : Int) tn j e) ∧ Hid (Below wr.heap.size wr wi)) (fun _ v _ => (intOf v + 1).toNat)
      case atStart => exact ⟨tn + 1, -1, Nat.le_refl _, (by first | (congr 1; omega) | (simp)), rfl, Lib.hid (.inl ⟨rfl, fun j h1 h2 => by omega⟩), Lib.hid (Below.refl _ _)⟩
      case round =>
        obtain ⟨j, e, hj, rfl, rfl, HE, HB2⟩ := hrel
        have HBW := Lib.hid (HB.out.trans (HB2.out.mono HB.out.size))
        have hd : wr.cell? ⟨bn, on + k, none⟩ = some (.int .i64 z) := (HBW.out.cell hbn).trans HCZ.out
        have hbw : bn < wr.heap.size := Nat.lt_of_lt_of_le hbn HBW.out.size
        rcases Nat.eq_zero_or_pos j with hj0 | hj0
        · subst hj0
          have HSN : Hid (L (k + 1) = L k ++ [e]) := Lib.hid (by
            have hfin := EndF.fin (need := need) (t := t) (x := (k : Int)) (v := e) (by rw [HS.out.ht]; exact HE.out)
            rw [HL.out]
            simp only [List.range_succ, List.map_append, List.map_cons, List.map_nil, hfin])
          have HO1 := Lib.hid (HO.out.below HB2.out)
          have hsz := HBW.out.size
          clear hdz
          go_wp2_with (at_builtin; refine wpList_push rfl _ _ rfl wr w.heap.size _ (L k) e k (HLN.out k) (by omega) HO1.out hsz rfl rfl ?_; intro A2 c2 w2 HO2 HB3; (have HO2' := Lib.hid HO2); (have HB3' := Lib.hid HB3); clear HO2 HB3)
          go_roundw
          case rel => exact ⟨k + 1, A2, c2, by omega, by go_num, rfl, Lib.hid (by rw [HSN.out]; exact HO2'.out), Lib.hid (HBW.out.trans HB3'.out)⟩
          case measure => simp [intOf]; omega
        · obtain ⟨q, rfl⟩ : ∃ q, j = q + 1 := ⟨j - 1, by omega⟩
          rw [show (((q + 1 : Nat) : Int) - 1) = (q : Int) by omega]
          have hqt : q ≤ tn := by omega
          have CR := Lib.hid (fun (W' : World) (hb : Below w.heap.size w W') => rran_any (tc := tc) (k : Int) q w.heap.size W' HS.out.ht HS.out.lt HS.out.lr (HS.out.rows.below hb) hqt)
          obtain ⟨v, hv⟩ : ∃ v, v = ranT t (k : Int) q := ⟨_, rfl⟩
          rw [← hv] at CR
          have HV := Lib.hid hv
          clear hv
          by_cases hz : z ≤ (v : Int)
          · have HE2 : Hid (EndF need t (k : Int) tn q (q : Int)) := Lib.hid (.inr ⟨q, rfl, Nat.le_refl _, hqt, by have h1 := HZ.out; have h2 := HV.out; omega, fun i h1 h2 => by omega⟩)
            go_wp2
            go_quiet (first | (go_at_call 40; refine Calls.quiet_of_same (CR.out _ (below_drewN HBW.out _))))
            go_wp2
            go_roundw
            case rel => exact ⟨q, (q : Int), by omega, by go_num, rfl, HE2, Lib.hid (below_drewN HB2.out _)⟩
            case measure => simp [intOf]
          · have hzf : decide (z ≤ (v : Int)) = false := decide_eq_false hz
            have HE2 : Hid (EndF need t (k : Int) tn q e) := Lib.hid (by
              have h1 := HZ.out
              have h2 := HV.out
              rcases HE.out with ⟨h3, h4⟩ | ⟨i, h3, h4, h5, h6, h7⟩
              · exact .inl ⟨h3, fun i hi hit => by
                  rcases Nat.lt_or_ge q i with h | h
                  · exact h4 i h hit
                  · rw [show i = q by omega]; omega⟩
              · exact .inr ⟨i, h3, by omega, h5, h6, fun i' hi' h8 => by
                  rcases Nat.lt_or_ge q i' with h | h
                  · exact h7 i' h h8
                  · rw [show i' = q by omega]; omega⟩)
            clear hz
            go_wp2
            go_quiet (first | (go_at_call 40; refine Calls.quiet_of_same (CR.out _ (below_drewN HBW.out _))))
            go_wp2
            go_roundw
            case rel => exact ⟨q, e, by omega, by go_num, rfl, HE2, Lib.hid (below_drewN HB2.out _)⟩
            case measure => simp [intOf]
    · obtain rfl : k = nn := by omega
      obtain ⟨A2, c2, he, hI⟩ := HO.out.slice
      have HI := Lib.hid hI
      have HE := Lib.hid he
      clear hI he
      go_wp2
      go_ret
      exact ⟨A2, c2, by rw [← HE.out]; rfl, HI.out, HB.out⟩
end
end Go.Proofs.YtpaambpajpmjdaaDoor
