/- Check of trefoilref10 in the seat YtpaambpajpmjdaaDoor: its contract. No statement is proved here. -/
import Derived.Test.YtpaambpajpmjdaaDoorZM16
import Derived.Test.YtpaambpajpmjdaaDoorZM17
import Derived.Test.YtpaambpajpmjdaaDoorZSchedBusyC
set_option linter.unusedSimpArgs false
set_option linter.unusedVariables false
namespace Go.Proofs.YtpaambpajpmjdaaDoor
open Go.RowKit

theorem rcheck_g {A : Option Addr} {n c : Nat} {F : Option Addr} {m d : Nat} {W : List Int} {E : List (Int × Int)} {w : World} (h : IsG w A n c F m d W E) :
    Calls Tryd.prog 28 #[.agg #[.slice A n c, .slice F m d]] w fun e w' => e = .returned (.int .i64 (chkE W E)) ∧ Below w.heap.size w w' :=
  rcheck_any A F n c m d W E w h.hn (by have := h.ln; omega) h.hm (by have := h.lm; omega) h.ints h.pairs
section
variable {A : Option Addr} {n c : Nat} {F : Option Addr} {m d : Nat} {W : List Int} {E : List (Int × Int)} {N : Option Addr} {nn nc : Nat} {need : List Int} {T : Option Addr} {tn tc : Nat} {t : List (List Int)}
set_option maxRecDepth 100000 in
set_option maxHeartbeats 8000000 in
theorem rcheck10_any (cores : Int) (w : World) (h : IsG w A n c F m d W E) (hS : IsS w N nn nc T tn tc need t) :
    Calls Tryd.prog 13 #[.agg #[.slice A n c, .slice F m d], .slice N nn nc, .int .i64 cores, .slice T tn tc] w fun e w' => e = .returned (.int .i64 (schedE W E need cores t)) ∧ Below w.heap.size w w' := by
  have H := Lib.hid h
  have HS := Lib.hid hS
  have B0 : Hid (BxB w w.heap.size A n c F m d (w.alloc (.cells #[.slice A n c, .slice F m d] 25))) := Lib.hid (BxB.start (Below.refl _ _) A n c F m d)
  have C1 := Lib.hid (rcheck_g (h.below B0.out.bel))
  obtain ⟨e1, he1⟩ : ∃ e, e = chkE W E := ⟨_, rfl⟩
  rw [← he1] at C1
  have HE1 := Lib.hid he1
  obtain ⟨r, hr⟩ : ∃ r, r = schedE W E need cores t := ⟨_, rfl⟩
  rw [← hr]
  have HR := Lib.hid hr
  have CN := Lib.hid (fun (W' : World) (hS : IsS W' N nn nc T tn tc need t) => rform_any (A := A) (n := n) (c := c) (F := F) (m := m) (d := d) (W := W) (nc := nc) cores W' hS.hn hS.ln h.hn hS.ints)
  have htn : tn ≤ 400 := hS.lt
  clear h hS he1 hr
  by_cases hz : e1 = 0
  · subst hz
    have HZ := Lib.hid HE1.out.symm
    by_cases h1 : FormOk W need cores
    · rw [decide_eq_true h1] at CN
      obtain ⟨k0, rfl⟩ : ∃ k : Nat, cores = (k : Int) := ⟨cores.toNat, by have := h1.2.2; omega⟩
      have HFO := Lib.hid h1
      have hk8 : k0 ≤ 8 := by have := h1.2.2.2; omega
      have HFIT : Hid (Fits need.length E) := Lib.hid (by rw [h1.1]; exact (chkE_zero.mp HZ.out).fits)
      clear h1
      go_enter Tryd.func13, Tryd.ntmps13
      go_wp2_with fail
      refine C1.out.mono ?_
      rintro e w1 ⟨rfl, b⟩
      have B1 := Lib.hid (B0.out.next b)
      clear b B0 C1
      obtain ⟨q0, q1⟩ := B1.out.cells
      go_wp2_with fail
      refine (CN.out _ (HS.out.below B1.out.bel)).mono ?_
      rintro e w2 ⟨rfl, b⟩
      have B2 := Lib.hid (B1.out.next b)
      clear b B1 q0 q1
      go_wp2
      go_loopw [10] (fun v wr => ∃ k : Nat, k ≤ tn ∧ v = .int .i64 k ∧ w2 = wr ∧ Hid (∀ r ∈ t.take k, (r.length : Int) = (k0 : Int))) (fun v _ => tn - (intOf v).toNat)
      case atStart => exact ⟨0, Nat.zero_le _, rfl, rfl, Lib.hid (fun z hz => by simp at hz)⟩
      case round =>
        obtain ⟨k, hk, rfl, rfl, HO⟩ := hrel
        by_cases hlt : k < tn
        · obtain ⟨bt, ot, row, A1, n1, c1, rfl, hbt, hrow, hn1, hcell, hints, hnil⟩ := HS.out.rows.at_ (k := k) (by rw [HS.out.ht]; exact hlt)
          have hd : w2.cell? ⟨bt, ot + k, none⟩ = some (.slice A1 n1 c1) := (B2.out.bel.cell hbt).trans hcell
          have hbt2 : bt < w2.heap.size := Nat.lt_of_lt_of_le hbt B2.out.bel.size
          have HROW := Lib.hid hrow
          have HN1 := Lib.hid hn1
          have h400 : n1 ≤ 400 := by rw [← hn1]; exact HS.out.lr row (List.mem_of_getElem? hrow)
          clear hrow hn1 hcell hints hnil
          by_cases hc : n1 = k0
          · subst hc
            have HO2 : Hid (∀ r ∈ t.take (k + 1), (r.length : Int) = (n1 : Int)) := Lib.hid (fun y hy => by
              rw [take_snoc' HROW.out, List.mem_append, List.mem_singleton] at hy
              rcases hy with hy | rfl
              · exact HO.out y hy
              · rw [HN1.out])
            go_wp2
            go_roundw
            case rel => exact ⟨k + 1, by omega, by go_num, (by first | trivial | rfl), HO2⟩
            case measure => simp [intOf]; omega
          · obtain rfl : r = 100 := HR.out.trans (schedE_form HZ.out (by
              rintro ⟨_, q⟩
              have := q row (List.mem_of_getElem? HROW.out)
              rw [HN1.out] at this
              omega))
            have hne : ((n1 : Int) != (k0 : Int)) = true := by rw [bne_iff_ne]; omega
            clear hc
            go_wp2
            go_ret
            exact ⟨rfl, B2.out.bel⟩
        · obtain rfl : k = tn := by omega
          have HROWS : Hid (∀ r ∈ t, r.length = k0) := Lib.hid (fun r hr => by
            have := HO.out r (by rw [List.take_of_length_le (by rw [HS.out.ht]; omega)]; exact hr)
            omega)
          have HRF : Hid (r = faultV E need k0 t) := Lib.hid (by
            rw [HR.out, schedE_fault HZ.out ⟨HFO.out, fun r hr => by rw [HROWS.out r hr]⟩, Int.toNat_natCast])
          have CO := Lib.hid (fun (W' : World) (hb : Below w.heap.size w W') (i j : Nat) (hi : i < k) (hj : j < k0) => rone_any k0 i j W' (H.out.below hb) (HS.out.below hb) HFIT.out HROWS.out hi hj hk8)
          clear HO CN
          go_wp2
          go_loopw [11] (fun v wr => ∃ i : Nat, i ≤ k ∧ v = .int .i64 i ∧ Hid (BxB w w.heap.size A n c F m d wr) ∧ Hid (firstV (tickV E need k0 t) i = 0)) (fun v _ => k - (intOf v).toNat)
          case atStart => exact ⟨0, Nat.zero_le _, rfl, B2, Lib.hid rfl⟩
          case round =>
            obtain ⟨i, hi, rfl, HBX, HFI⟩ := hrel
            clear B2
            by_cases hlt2 : i < k
            · go_wp2
              go_loopw [12] (fun v wi => ∃ j : Nat, j ≤ k0 ∧ v = .int .i64 j ∧ Hid (BxB w w.heap.size A n c F m d wi) ∧ Hid (firstV (oneV E need t i) j = 0)) (fun v _ => k0 - (intOf v).toNat)
              case atStart => exact ⟨0, Nat.zero_le _, rfl, HBX, Lib.hid rfl⟩
              case round =>
                obtain ⟨j, hj, rfl, HBX2, HFJ⟩ := hrel
                obtain ⟨q0, q1⟩ := HBX2.out.cells
                by_cases hlt3 : j < k0
                · have C3 := Lib.hid (CO.out _ HBX2.out.bel i j hlt2 hlt3)
                  obtain ⟨f, hf⟩ : ∃ f, f = oneV E need t i j := ⟨_, rfl⟩
                  rw [← hf] at C3
                  have HFF := Lib.hid hf
                  clear hf
                  by_cases hfz : f = 0
                  · subst hfz
                    go_wp2_with fail
                    refine C3.out.mono ?_
                    rintro e w4 ⟨rfl, b⟩
                    have HBX4 := Lib.hid (HBX2.out.next b)
                    clear b q0 q1
                    go_wp2
                    go_roundw
                    case rel => exact ⟨j + 1, by omega, by go_num, HBX4, Lib.hid (firstV_next HFJ.out HFF.out.symm)⟩
                    case measure => simp [intOf]; omega
                  · obtain rfl : r = f := by
                      have h1 : tickV E need k0 t i = f := by
                        unfold tickV
                        rw [firstV_hit HFJ.out (by rw [← HFF.out]; exact hfz) hlt3, HFF.out]
                      rw [HRF.out]
                      unfold faultV
                      rw [firstV_hit (f := tickV E need k0 t) HFI.out (by rw [h1]; exact hfz) (by rw [HS.out.ht]; exact hlt2), h1]
                    have hne : (r != 0) = true := bne_iff_ne.mpr hfz
                    clear hfz
                    go_wp2_with fail
                    refine C3.out.mono ?_
                    rintro e w4 ⟨rfl, b⟩
                    have HBX4 := Lib.hid (HBX2.out.next b)
                    clear b q0 q1
                    go_wp2
                    go_ret
                    exact ⟨rfl, HBX4.out.bel⟩
                · obtain rfl : j = k0 := by omega
                  have HT : Hid (firstV (tickV E need j t) (i + 1) = 0) := Lib.hid (firstV_next HFI.out HFJ.out)
                  go_wp2
                  go_roundw
                  case rel => exact ⟨i + 1, by omega, by go_num, HBX2, HT⟩
                  case measure => simp [intOf]; omega
            · obtain rfl : i = k := by omega
              obtain rfl : r = 0 := by
                rw [HRF.out]
                unfold faultV
                rw [HS.out.ht]; exact HFI.out
              go_wp2
              go_ret
              exact ⟨rfl, HBX.out.bel⟩
    · rw [decide_eq_false h1] at CN
      obtain rfl : r = 100 := HR.out.trans (schedE_form HZ.out fun q => h1 q.1)
      clear h1
      go_enter Tryd.func13, Tryd.ntmps13
      go_wp2_with fail
      refine C1.out.mono ?_
      rintro e w1 ⟨rfl, b⟩
      have B1 := Lib.hid (B0.out.next b)
      clear b B0 C1
      obtain ⟨q0, q1⟩ := B1.out.cells
      go_wp2_with fail
      refine (CN.out _ (HS.out.below B1.out.bel)).mono ?_
      rintro e w2 ⟨rfl, b⟩
      have B2 := Lib.hid (B1.out.next b)
      clear b B1 q0 q1
      go_wp2
      go_ret
      exact ⟨rfl, B2.out.bel⟩
  · have hne : (e1 != 0) = true := bne_iff_ne.mpr hz
    obtain rfl : r = e1 := by rw [HR.out, HE1.out]; exact schedE_bad (by rw [← HE1.out]; exact hz)
    clear hz
    go_enter Tryd.func13, Tryd.ntmps13
    go_wp2_with fail
    refine C1.out.mono ?_
    rintro e w1 ⟨rfl, b⟩
    have B1 := Lib.hid (B0.out.next b)
    clear b
    go_wp2
    go_ret
    exact ⟨rfl, B1.out.bel⟩
end
end Go.Proofs.YtpaambpajpmjdaaDoor
