/- Greedy and Bound of trefoilref10 in the seat YtpaambpajpmjdaaDoor: their contracts. No statement is proved here. -/
import Derived.Test.YtpaambpajpmjdaaDoorZSchedRef4
import Derived.Test.YtpaambpajpmjdaaDoorZSchedGreedy
import Derived.Test.YtpaambpajpmjdaaDoorZM1
import Derived.Test.YtpaambpajpmjdaaDoorZM2
set_option linter.unusedSimpArgs false
set_option linter.unusedVariables false
namespace Go.Proofs.YtpaambpajpmjdaaDoor
open Go.RowKit

theorem mulr (k : Nat) (L : Int) : ((k + 1 : Nat) : Int) * L = (k : Int) * L + L := by
  rw [Int.natCast_add, Int.add_mul]; simp
section
variable {A : Option Addr} {n c : Nat} {F : Option Addr} {m d : Nat} {W : List Int} {E : List (Int × Int)} {N : Option Addr} {nn nc : Nat} {need : List Int} {T : Option Addr} {tn tc : Nat} {t : List (List Int)}
set_option maxRecDepth 100000 in
set_option maxHeartbeats 8000000 in
theorem rgreedy_any (w : World) (h : IsG w A n c F m d W E) (hS : IsS w N nn nc T tn tc need t) (hF : Fits need.length E) :
    Calls Tryd.prog 22 #[.agg #[.slice A n c, .slice F m d], .slice N nn nc, .slice T tn tc] w fun e w' => ∃ b, e = .returned (.bool b) ∧ (b = true ↔ GreedyT E need t) ∧ Below w.heap.size w w' := by
  have H := Lib.hid h
  have HS := Lib.hid hS
  have HF := Lib.hid hF
  have htn : tn ≤ 400 := hS.lt
  have hnn : nn ≤ 400 := hS.ln
  have B0 : Hid (BxB w w.heap.size A n c F m d (w.alloc (.cells #[.slice A n c, .slice F m d] 25))) := Lib.hid (BxB.start (Below.refl _ _) A n c F m d)
  have CR := Lib.hid (fun (W' : World) (hb : Below w.heap.size w W') (y : Int) (i : Nat) (hi : i ≤ tn) => rran_any (tc := tc) y i w.heap.size W' hS.ht hS.lt hS.lr (hS.rows.below hb) hi)
  have CF := Lib.hid (fun (W' : World) (hb : Below w.heap.size w W') (y : Int) (i : Nat) (hi : i ≤ tn) => rfree_any y i W' (h.below hb) (hS.below hb) hF hi)
  clear h hS hF
  go_enter Tryd.func22, Tryd.ntmps22
  go_wp2
  go_loopw [7] (fun v wr => ∃ i : Nat, i ≤ tn ∧ v = .int .i64 i ∧ Hid (BxB w w.heap.size A n c F m d wr) ∧ Hid (∀ j, j < i → ∀ k, k < need.length → okAt E need t j k)) (fun v _ => tn - (intOf v).toNat)
  case atStart => exact ⟨0, Nat.zero_le _, rfl, B0, Lib.hid (fun j hj => absurd hj (Nat.not_lt_zero _))⟩
  case round =>
    obtain ⟨i, hi, rfl, HBX, HO⟩ := hrel
    clear B0
    by_cases hlt : i < tn
    · obtain ⟨bt, ot, row, A1, n1, c1, rfl, hbt, hrow, hn1, hcell, hints, hnil⟩ := HS.out.rows.at_ (k := i) (by rw [HS.out.ht]; exact hlt)
      have hd : wr.cell? ⟨bt, ot + i, none⟩ = some (.slice A1 n1 c1) := (HBX.out.bel.cell hbt).trans hcell
      have HCELL := Lib.hid hcell
      have hbt2 : bt < wr.heap.size := Nat.lt_of_lt_of_le hbt HBX.out.bel.size
      have HRT := Lib.hid (rowT_at hrow)
      have h400 : n1 ≤ 400 := by rw [← hn1]; exact HS.out.lr row (List.mem_of_getElem? hrow)
      have CH := Lib.hid (fun (W' : World) (hb : Below w.heap.size w W') (y : Int) => has_any A1 c1 row y W' n1 hn1 (by omega) ((hints.below hb).more hb.size))
      have CH1 := Lib.hid (CH.out wr HBX.out.bel (-1))
      clear hrow hn1 hcell hints hnil
      by_cases h1 : (-1 : Int) ∈ row
      · rw [decide_eq_true h1] at CH1
        have HM1 := Lib.hid h1
        clear h1
        go_wp2_with fail
        refine CH1.out.mono ?_
        rintro e w1 ⟨rfl, rfl⟩
        go_wp2
        go_loopw [8] (fun v wi => ∃ k : Nat, k ≤ nn ∧ v = .int .i64 k ∧ Hid (BxB w w.heap.size A n c F m d wi) ∧ Hid (∀ j, j < k → okAt E need t i j)) (fun v _ => nn - (intOf v).toNat)
        case atStart => exact ⟨0, Nat.zero_le _, rfl, HBX, Lib.hid (fun j hj => absurd hj (Nat.not_lt_zero _))⟩
        case round =>
          obtain ⟨k, hk, rfl, HB2, HK⟩ := hrel
          by_cases hlt2 : k < nn
          · have HNX : Hid (okAt E need t i k → ∀ j, j < k + 1 → okAt E need t i j) := Lib.hid (fun hok j hj => by
              rcases Nat.lt_or_ge j k with h1 | h1
              · exact HK.out j h1
              · rw [show j = k by omega]; exact hok)
            have C1 := Lib.hid (CR.out wr HB2.out.bel (k : Int) i hi)
            have hd2 : wr.cell? ⟨bt, ot + i, none⟩ = some (.slice A1 n1 c1) := (HB2.out.bel.cell hbt).trans HCELL.out
            have hbt3 : bt < wr.heap.size := Nat.lt_of_lt_of_le hbt HB2.out.bel.size
            obtain ⟨q0, q1⟩ := HB2.out.cells
            obtain ⟨v, hv⟩ : ∃ v, v = ranT t (k : Int) i := ⟨_, rfl⟩
            rw [← hv] at C1
            have HV := Lib.hid hv
            clear hv hd
            by_cases hv0 : v = 0
            · subst hv0
              have C2 := Lib.hid (CH.out wr HB2.out.bel (k : Int))
              by_cases h2 : (k : Int) ∈ row
              · rw [decide_eq_true h2] at C2
                have HNK : Hid (∀ j, j < k + 1 → okAt E need t i j) := Lib.hid (HNX.out fun _ _ q => by rw [HRT.out] at q; exact absurd h2 q)
                clear h2
                go_wp2_with fail
                refine C1.out.mono ?_
                rintro e w3 ⟨rfl, rfl⟩
                go_wp2_with fail
                refine C2.out.mono ?_
                rintro e w4 ⟨rfl, rfl⟩
                go_wp2
                go_roundw
                case rel => exact ⟨k + 1, by omega, by go_num, HB2, HNK⟩
                case measure => simp [intOf]; omega
              · rw [decide_eq_false h2] at C2
                have C3 := Lib.hid (CF.out wr HB2.out.bel (k : Int) i hi)
                by_cases hf : FreeT E need t (k : Int) i
                · rw [decide_eq_true hf] at C3
                  have HNG : Hid (¬ GreedyT E need t) := Lib.hid (fun q => absurd hf (greedy_iff.mp q i (by rw [HS.out.ht]; exact hlt) k (by rw [HS.out.hn]; exact hlt2) (by rw [HRT.out]; exact HM1.out) HV.out.symm (by rw [HRT.out]; exact h2)))
                  clear h2 hf
                  go_wp2_with fail
                  refine C1.out.mono ?_
                  rintro e w3 ⟨rfl, rfl⟩
                  go_wp2_with fail
                  refine C2.out.mono ?_
                  rintro e w4 ⟨rfl, rfl⟩
                  go_wp2_with fail
                  refine C3.out.mono ?_
                  rintro e w5 ⟨rfl, b⟩
                  have HB5 := Lib.hid (HB2.out.next b)
                  clear b q0 q1
                  go_wp2
                  go_ret
                  exact ⟨false, rfl, ⟨fun q => absurd q (by decide), fun q => absurd q HNG.out⟩, HB5.out.bel⟩
                · rw [decide_eq_false hf] at C3
                  have HNK : Hid (∀ j, j < k + 1 → okAt E need t i j) := Lib.hid (HNX.out fun _ _ _ => hf)
                  clear h2 hf
                  go_wp2_with fail
                  refine C1.out.mono ?_
                  rintro e w3 ⟨rfl, rfl⟩
                  go_wp2_with fail
                  refine C2.out.mono ?_
                  rintro e w4 ⟨rfl, rfl⟩
                  go_wp2_with fail
                  refine C3.out.mono ?_
                  rintro e w5 ⟨rfl, b⟩
                  have HB5 := Lib.hid (HB2.out.next b)
                  clear b q0 q1
                  go_wp2
                  go_roundw
                  case rel => exact ⟨k + 1, by omega, by go_num, HB5, HNK⟩
                  case measure => simp [intOf]; omega
            · have hvf : ((v : Int) == 0) = false := by simpa using hv0
              have HNK : Hid (∀ j, j < k + 1 → okAt E need t i j) := Lib.hid (HNX.out fun _ q _ => by have := HV.out; omega)
              clear hv0
              go_wp2_with fail
              refine C1.out.mono ?_
              rintro e w3 ⟨rfl, rfl⟩
              go_wp2
              go_roundw
              case rel => exact ⟨k + 1, by omega, by go_num, HB2, HNK⟩
              case measure => simp [intOf]; omega
          · obtain rfl : k = nn := by omega
            have HNX : Hid (∀ j, j < i + 1 → ∀ k, k < need.length → okAt E need t j k) := Lib.hid (fun j hj k' hk' => by
              rcases Nat.lt_or_ge j i with h1 | h1
              · exact HO.out j h1 k' hk'
              · rw [show j = i by omega]; exact HK.out k' (by rw [← HS.out.hn]; exact hk'))
            go_wp2
            go_roundw
            case rel => exact ⟨i + 1, by omega, by go_num, HB2, HNX⟩
            case measure => simp [intOf]; omega
      · rw [decide_eq_false h1] at CH1
        have HNX : Hid (∀ j, j < i + 1 → ∀ k, k < need.length → okAt E need t j k) := Lib.hid (fun j hj k' hk' => by
          rcases Nat.lt_or_ge j i with h2 | h2
          · exact HO.out j h2 k' hk'
          · rw [show j = i by omega]
            intro q
            rw [HRT.out] at q
            exact absurd q h1)
        clear h1
        go_wp2_with fail
        refine CH1.out.mono ?_
        rintro e w1 ⟨rfl, rfl⟩
        go_wp2
        go_roundw
        case rel => exact ⟨i + 1, by omega, by go_num, HBX, HNX⟩
        case measure => simp [intOf]; omega
    · obtain rfl : i = tn := by omega
      go_wp2
      go_ret
      exact ⟨true, rfl, ⟨fun _ => greedy_iff.mpr fun j hj k hk => HO.out j (by rw [← HS.out.ht]; exact hj) k hk, fun _ => rfl⟩, HBX.out.bel⟩
set_option maxRecDepth 100000 in
set_option maxHeartbeats 8000000 in
theorem rbound_any (cores : Int) (w : World) (h : IsG w A n c F m d W E) (hn : need.length = nn) (hl : nn ≤ 400) (hI : Ints w w.heap.size N need) (hN : N = none → nn = 0 ∧ nc = 0) :
    Calls Tryd.prog 24 #[.agg #[.slice A n c, .slice F m d], .slice N nn nc, .int .i64 cores] w fun e w' => e = .returned (.int .i64 (boundV W E need cores)) ∧ Below w.heap.size w w' := by
  have H := Lib.hid h
  have HN := Lib.hid hn
  have HI := Lib.hid hI
  have HNN := Lib.hid hN
  have B0 : Hid (BxB w w.heap.size A n c F m d (w.alloc (.cells #[.slice A n c, .slice F m d] 25))) := Lib.hid (BxB.start (Below.refl _ _) A n c F m d)
  have C1 := Lib.hid (rcheck_g (h.below B0.out.bel))
  obtain ⟨e1, he1⟩ : ∃ e, e = chkE W E := ⟨_, rfl⟩
  rw [← he1] at C1
  have HE1 := Lib.hid he1
  obtain ⟨r, hr⟩ : ∃ r, r = boundV W E need cores := ⟨_, rfl⟩
  rw [← hr]
  have HRR := Lib.hid hr
  have CN := Lib.hid (fun (W' : World) (hb : Below w.heap.size w W') => rform_any (A := A) (n := n) (c := c) (F := F) (m := m) (d := d) (W := W) (nc := nc) cores W' hn hl h.hn ((hI.below hb).more hb.size))
  clear h hn hI hN he1 hr
  by_cases hz : e1 = 0
  · subst hz
    have hM := chkE_zero.mp HE1.out.symm
    by_cases h1 : FormOk W need cores
    · rw [decide_eq_true h1] at CN
      obtain ⟨k0, rfl⟩ : ∃ k : Nat, cores = (k : Int) := ⟨cores.toNat, by have := h1.2.2; omega⟩
      have hM2 := need_may hM h1
      have hk1 : 1 ≤ k0 := by have := h1.2.2.1; omega
      have hk8 : k0 ≤ 8 := by have := h1.2.2.2; omega
      have hlo := longV_total hM2
      have hsum := sum_le need hM2.work
      have hnn : nn ≤ 64 := by
        have h2 := hM2.nodes
        have h3 := HN.out
        omega
      have HRV : Hid (r = (need.sum + ((k0 : Int) - 1) * longV need E) / k0) := Lib.hid (by
        rw [HRR.out]
        unfold boundV
        rw [if_pos ⟨hM, h1⟩])
      have CT := Lib.hid (fun (W' : World) (hb : Below w.heap.size w W') => total_any N F nn nc m d need W' HN.out (by omega) hM2.work ((HI.out.below hb).more hb.size))
      have hlv : longV need E = most (farK need E nn) := by unfold longV; rw [if_pos hM2, HN.out]
      have CL := Lib.hid (fun (W' : World) (hb : Below w.heap.size w W') => rlong_any N F nn nc m d need E W' HN.out (by omega) H.out.hm (by have := H.out.lm; omega) hM2.work (by rw [← HN.out]; exact hM2.fits) hM2.acyc ((HI.out.below hb).more hb.size) ((H.out.pairs.below hb).more hb.size) (fun q => (HNN.out q).2))
      rw [← hlv] at CL
      obtain ⟨s, hs⟩ : ∃ s, s = need.sum := ⟨_, rfl⟩
      obtain ⟨L, hL⟩ : ∃ L, L = longV need E := ⟨_, rfl⟩
      rw [← hs] at CT HRV hsum hlo
      rw [← hL] at CL HRV hlo
      have hs2 : s ≤ 64000 := by
        have h3 := HN.out
        omega
      obtain ⟨hl1, hl2⟩ := hlo
      clear hM hM2 h1 hs hL hsum hlv
      go_enter Tryd.func24, Tryd.ntmps24
      go_wp2_with fail
      refine C1.out.mono ?_
      rintro e w1 ⟨rfl, b⟩
      have B1 := Lib.hid (B0.out.next b)
      clear b B0 C1
      obtain ⟨q0, q1⟩ := B1.out.cells
      go_wp2_with fail
      refine (CN.out _ B1.out.bel).mono ?_
      rintro e w2 ⟨rfl, b⟩
      have B2 := Lib.hid (B1.out.next b)
      clear b B1 q0 q1 CN
      obtain ⟨q0, q1⟩ := B2.out.cells
      have B3 := Lib.hid (BxB.start B2.out.bel N nn nc F m d)
      obtain ⟨g, hg⟩ : ∃ g, g = w2.heap.size := ⟨_, rfl⟩
      obtain ⟨w3, hw3⟩ : ∃ w3, w3 = w2.alloc (.cells #[.slice N nn nc, .slice F m d] 25) := ⟨_, rfl⟩
      rw [← hw3, ← hg] at B3
      have HW3 := Lib.hid hw3
      have HG3 := Lib.hid hg
      clear hw3 hg
      go_wp2_with fail
      rw [← HW3.out]
      refine (CT.out _ B3.out.bel).mono ?_
      rintro e w4 ⟨rfl, b⟩
      have B4 := Lib.hid (B3.out.next b)
      rw [← HG3.out]
      clear b B3 B2 q0 q1 HW3
      go_wp2
      go_loopw [8, 9] (fun sv v wr => ∃ (k : Nat) (x : Int), 1 ≤ k ∧ k ≤ k0 ∧ v = .int .i64 k ∧ sv = .int .i64 x ∧ 0 ≤ x ∧ x ≤ 64000 * k ∧ Hid (x = s + ((k : Int) - 1) * L) ∧ Hid (BxB w g N nn nc F m d wr)) (fun _ v _ => k0 - (intOf v).toNat)
      case atStart => exact ⟨1, s, Nat.le_refl _, hk1, rfl, rfl, by omega, by omega, Lib.hid (by simp), B4⟩
      case round =>
        obtain ⟨k, x, hk, hk2, rfl, rfl, hx0, hx1, HX, HBX⟩ := hrel
        clear B4
        obtain ⟨q0, q1⟩ := HBX.out.cells
        by_cases hlt : k < k0
        · have HX2 : Hid (x + L = s + (((k + 1 : Nat) : Int) - 1) * L) := Lib.hid (by
            rw [HX.out, show (((k + 1 : Nat) : Int) - 1) = ((k : Int) - 1) + 1 by omega, Int.add_mul, Int.one_mul]
            omega)
          go_wp2_with fail
          refine (CL.out _ HBX.out.bel).mono ?_
          rintro e w5 ⟨rfl, b⟩
          have HB5 := Lib.hid (HBX.out.next b)
          clear b q0 q1
          go_wp2
          go_roundw
          case rel => exact ⟨k + 1, x + L, by omega, by omega, by go_num, by go_num, by omega, by omega, HX2, HB5⟩
          case measure => simp [intOf]; omega
        · obtain rfl : k = k0 := by omega
          have hk0 : (k : Int) ≠ 0 := by omega
          go_wp2
          go_ret
          exact ⟨by rw [HRV.out, ← HX.out]; rfl, HBX.out.bel⟩
    · rw [decide_eq_false h1] at CN
      obtain rfl : r = 0 := by
        rw [HRR.out]
        unfold boundV
        rw [if_neg fun q => h1 q.2]
      clear h1 hM
      go_enter Tryd.func24, Tryd.ntmps24
      go_wp2_with fail
      refine C1.out.mono ?_
      rintro e w1 ⟨rfl, b⟩
      have B1 := Lib.hid (B0.out.next b)
      clear b B0 C1
      obtain ⟨q0, q1⟩ := B1.out.cells
      go_wp2_with fail
      refine (CN.out _ B1.out.bel).mono ?_
      rintro e w2 ⟨rfl, b⟩
      have B2 := Lib.hid (B1.out.next b)
      clear b B1 q0 q1
      go_wp2
      go_ret
      exact ⟨rfl, B2.out.bel⟩
  · have hne : (e1 != 0) = true := bne_iff_ne.mpr hz
    obtain rfl : r = 0 := by
      rw [HRR.out]
      unfold boundV
      rw [if_neg fun q => hz (HE1.out.trans (chkE_zero.mpr q.1))]
    clear hz
    go_enter Tryd.func24, Tryd.ntmps24
    go_wp2_with fail
    refine C1.out.mono ?_
    rintro e w1 ⟨rfl, b⟩
    have B1 := Lib.hid (B0.out.next b)
    clear b
    go_wp2
    go_ret
    exact ⟨rfl, B1.out.bel⟩
end
end Go.Proofs.YtpaambpajpmjdaaDoor
