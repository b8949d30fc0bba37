/- sched.fault in the seat YtpaambpajpmjdaaDoor: its contract. No statement is proved here. -/
import Derived.Test.YtpaambpajpmjdaaDoorZM14
import Derived.Test.YtpaambpajpmjdaaDoorZM2
import Derived.WalkMore
import Derived.ChangeKeysEq
set_option linter.unusedSimpArgs false
set_option linter.unusedVariables false
namespace Go.Proofs.YtpaambpajpmjdaaDoor
open Go.RowKit

theorem place_under : Tryd.prog.underlying 59 = some (.array 2 3) := by kernel_rfl
theorem int_cells : Tryd.prog.cellsOf 3 = 1 := by kernel_rfl
theorem place_neq (x y u v : Int) (W : World) : (binOp .neq 59 (.agg #[.int .i64 x, .int .i64 y]) (.agg #[.int .i64 u, .int .i64 v])).run Tryd.prog W = .ok (.bool (!(x == u && y == v))) W := by
  obtain ⟨i0, hi, _⟩ := info_parts int_cell_info
  have p1 := fun (a b : Int) (W : World) => (part_int a b W).1
  have p2 := fun (a b : Int) (W : World) => (part_int a b W).2
  have e1 := fun a b W => run_equalIn_int (P := Tryd.prog) W 9998 3 .i64 .i64 a b Tryd.underlying3
  rw [run_neq_struct, run_equalIn_array W 9999 _ _ place_under hi, int_cells]
  have hr : List.range 2 = [0, 1] := by decide
  rw [hr]
  simp only [Op.eqItems, Nat.zero_mul, Nat.one_mul]
  by_cases h1 : x = u
  · subst h1
    by_cases h2 : y = v
    · simp [p1, p2, e1, h2]
    · simp [p1, p2, e1, h2]
  · simp [p1, p2, e1, h1]
section
variable {A : Option Addr} {n c : Nat} {F : Option Addr} {m d : Nat} {W : List Int} {E : List (Int × Int)} {N : Option Addr} {nn nc : Nat} {need : List Int} {T : Option Addr} {tn tc : Nat} {t : List (List Int)} {cores : Nat}
/-- In the middle of a schedule. -/
structure Mid (w : World) (gw gp gv gn : Nat) (n : Nat) (W : List Int) (E : List (Int × Int)) (N : Option Addr) (nn nc : Nat) (need : List Int) (cores : Nat) (t : List (List Int)) (i : Nat) (w' : World) : Prop where
  bel : Below w.heap.size w w'
  waits : Waits gp gw n W E w'
  gplt : gp ≤ w'.heap.size
  watch : ∃ ran lt lc, Watch gp gv gn N nn nc need ran lt lc w' ∧ Track cores t i ran lt lc
  good : Good E need cores (t.take i)
  lw : gw < gp
  lp : w.heap.size ≤ gp
theorem Mid.below {w : World} {gw gp gv gn i : Nat} {w1 w2 : World} (h : Mid w gw gp gv gn n W E N nn nc need cores t i w1) (hb : Below w1.heap.size w1 w2) : Mid w gw gp gv gn n W E N nn nc need cores t i w2 :=
  ⟨h.bel.trans (hb.mono h.bel.size), h.waits.below (hb.mono h.gplt), Nat.le_trans h.gplt hb.size, by
    obtain ⟨ran, lt, lc, h1, h2⟩ := h.watch
    exact ⟨ran, lt, lc, h1.below hb, h2⟩, h.good, h.lw, h.lp⟩
set_option maxRecDepth 100000 in
set_option maxHeartbeats 8000000 in
theorem fault_any (w : World) (h : IsG w A n c F m d W E) (hS : IsS w N nn nc T tn tc need t) (hM : May W E) (hF : FormOk W need cores) (hR : ∀ r ∈ t, r.length = cores) :
    Calls Tryd.prog 34 #[.agg #[.slice A n c, .slice F m d], .slice N nn nc, .slice T tn tc] w fun e w' => e = .returned (.int .i64 (faultV E need cores t)) ∧ Below w.heap.size w w' := by
  have H := Lib.hid h
  have HS := Lib.hid hS
  have HM := Lib.hid hM
  have HF := Lib.hid hF
  have HR := Lib.hid hR
  have C1 := Lib.hid (fun W' (h : IsG W' A n c F m d W E) => preds10_any W' h)
  have C2 := Lib.hid (fun W' (h : IsS W' N nn nc T tn tc need t) => watch_any N nn nc need W' h.hn h.ints)
  obtain ⟨w0, hw0⟩ : ∃ w0, w0 = w.alloc (.cells #[.slice A n c, .slice F m d] 25) := ⟨_, rfl⟩
  have HW0 := Lib.hid hw0
  have HB0 : Hid (Below w.heap.size w w0) := Lib.hid (by rw [hw0]; exact below_alloc _)
  obtain ⟨r, hr⟩ : ∃ r, r = faultV E need cores t := ⟨_, rfl⟩
  rw [← hr]
  have HRR := Lib.hid hr
  clear h hS hM hF hR hw0 hr
  go_enter Tryd.func34, Tryd.ntmps34
  go_wp2
  go_step3
  go_wp2_with fail
  refine (C1.out _ (H.out.below (below_alloc _))).mono ?_
  rintro e w1 ⟨gw, rfl, hw, hb, hgw⟩
  have HB1 : Hid (Below w.heap.size w w1) := Lib.hid (HB0.out.trans (by rw [HW0.out]; exact hb.mono (by simp)))
  have HWT := Lib.hid hw
  have HGW : Hid (w.heap.size ≤ gw) := Lib.hid (by simp at hgw; omega)
  clear hw hb hgw HB0 C1
  go_wp2_with fail
  refine (C2.out _ (HS.out.below HB1.out)).mono ?_
  rintro e w2 ⟨gp, gv, gn, rfl, hw, hb, hgn, hgv, hgp⟩
  have HMID : Hid (Mid w gw gp gv gn n W E N nn nc need cores t 0 w2) := Lib.hid ⟨HB1.out.trans (hb.mono HB1.out.size), (HWT.out.below hb).more hgp, Nat.le_of_lt hw.past.lt_, ⟨_, _, _, hw, Track.start cores t _ _⟩, ⟨fun r hr => by simp at hr, fun i hi => by simp at hi⟩, Nat.lt_of_lt_of_le HWT.out.lt hgp, Nat.le_trans HB1.out.size hgp⟩
  clear hw hb hgn hgv hgp HWT HGW HB1 C2
  go_wp2
  go_step3
  go_wp2
  go_loopw [8, 24] (fun ev v wr => ∃ i : Nat, i ≤ tn ∧ v = .int .i64 i ∧ ev = .int .i64 0 ∧ Hid (Mid w gw gp gv gn n W E N nn nc need cores t i wr)) (fun _ v _ => tn - (intOf v).toNat)
  case atStart => exact ⟨0, Nat.zero_le _, rfl, rfl, HMID⟩
  case round =>
    obtain ⟨i, hi, rfl, rfl, HK⟩ := hrel
    clear HMID
    by_cases hlt : i < tn
    · obtain ⟨bt, ot, row, A1, n1, c1, rfl, hbt, hrow, hn1, hcell, hints, hnil⟩ := HS.out.rows.at_ (k := i) (by rw [HS.out.ht]; exact hlt)
      obtain rfl : n1 = cores := hn1.symm.trans (HR.out row (List.mem_of_getElem? hrow))
      have hd : wr.cell? ⟨bt, ot + i, none⟩ = some (.slice A1 n1 c1) := (HK.out.bel.cell hbt).trans hcell
      have HI1 := Lib.hid hints
      have HROW := Lib.hid hrow
      have HN1 := Lib.hid hn1
      have hbt2 : bt < wr.heap.size := Nat.lt_of_lt_of_le hbt HK.out.bel.size
      have hn8 : n1 ≤ 8 := by have := HF.out.2.2.2; omega
      have htn : tn ≤ 400 := HS.out.lt
      have HCAP := Lib.hid hnil.2
      clear hcell hints hrow hn1 hnil
      go_wp2
      go_loopw [8, 31] (fun ev v wi => ∃ k : Nat, k ≤ n1 ∧ v = .int .i64 k ∧ ev = .int .i64 0 ∧ Hid (Mid w gw gp gv gn n W E N nn nc need n1 t i wi) ∧ Hid (firstV (oneV E need t i) k = 0)) (fun _ v _ => n1 - (intOf v).toNat)
      case atStart => exact ⟨0, Nat.zero_le _, rfl, rfl, HK, Lib.hid rfl⟩
      case round =>
        obtain ⟨k, hk, rfl, rfl, HK2, HFI⟩ := hrel
        by_cases hlt2 : k < n1
        · obtain ⟨bk, off, x, rfl, hbk, hxk, hcx⟩ := HI1.out.at_ (k := k) (by rw [HN1.out]; exact hlt2)
          have hdx : wr.cell? ⟨bk, off + k, none⟩ = some (.int .i64 x) := (HK2.out.bel.cell hbk).trans hcx
          have hbk2 : bk < wr.heap.size := Nat.lt_of_lt_of_le hbk HK2.out.bel.size
          have HNUM := Lib.hid (numT_at HROW.out hxk)
          have HRT := Lib.hid (rowT_at HROW.out)
          clear hcx hxk
          by_cases hx1 : x = -1
          · subst hx1
            have HO := Lib.hid (one_idle (E := E) (need := need) HNUM.out)
            go_wp2
            go_roundw
            case rel => exact ⟨k + 1, by omega, by go_num, rfl, HK2, Lib.hid (firstV_next HFI.out HO.out)⟩
            case measure => simp [intOf]; omega
          · have hne : (x == -1) = false := by simpa using hx1
            have HX1 := Lib.hid hx1
            clear hx1
            by_cases hx2 : x < -1
            · obtain rfl : r = 101 := HRR.out.trans (fault_hit HK2.out.good (by rw [HS.out.ht]; exact hlt) hlt2 HFI.out (one_node (by rw [HNUM.out]; exact HX1.out) (.inl (by rw [HNUM.out]; omega))) (by decide))
              go_wp2
              try rw [Exit.noGoto_ret]
              go_ret
              exact ⟨rfl, HK2.out.bel⟩
            · have h0 : 0 ≤ x := by have := HX1.out; omega
              have hx2' : decide (x < -1) = false := decide_eq_false hx2
              clear hx2
              by_cases hx3 : (nn : Int) ≤ x
              · obtain rfl : r = 101 := HRR.out.trans (fault_hit HK2.out.good (by rw [HS.out.ht]; exact hlt) hlt2 HFI.out (one_node (by rw [HNUM.out]; exact HX1.out) (.inr (by rw [HNUM.out, HS.out.hn]; exact hx3))) (by decide))
                go_wp2
                try rw [Exit.noGoto_ret]
                go_ret
                exact ⟨rfl, HK2.out.bel⟩
              · have hx3' : decide ((nn : Int) ≤ x) = false := decide_eq_false hx3
                have hq0 : x < nn := by omega
                clear hx3
                have hnn : nn ≤ 64 := by
                  have h1 := HF.out.1
                  have h2 := HM.out.nodes
                  have h3 := HS.out.hn
                  omega
                have HNO := Lib.hid (show ¬ (numT t i k < 0 ∨ (need.length : Int) ≤ numT t i k) by rw [HNUM.out, HS.out.hn]; omega)
                have HNE := Lib.hid (show numT t i k ≠ -1 by rw [HNUM.out]; exact HX1.out)
                have C3 := Lib.hid (contains_any (some ⟨bk, off, none⟩) c1 k (row.take k) x w.heap.size wr (by rw [List.length_take, HN1.out]; omega) (by omega) ((HI1.out.below HK2.out.bel).take k))
                have hcap := HCAP.out
                by_cases hx4 : x ∈ row.take k
                · obtain rfl : r = 102 := HRR.out.trans (fault_hit HK2.out.good (by rw [HS.out.ht]; exact hlt) hlt2 HFI.out (one_twice HNE.out HNO.out (by rw [HNUM.out, HRT.out]; exact hx4)) (by decide))
                  rw [decide_eq_true hx4] at C3
                  clear hx4
                  go_wp2_with fail
                  refine C3.out.mono ?_
                  rintro e w3 ⟨rfl, rfl⟩
                  go_wp2
                  try rw [Exit.noGoto_ret]
                  go_ret
                  exact ⟨rfl, HK2.out.bel⟩
                · rw [decide_eq_false hx4] at C3
                  have HX4 := Lib.hid (show numT t i k ∉ (rowT t i).take k by rw [HNUM.out, HRT.out]; exact hx4)
                  clear hx4
                  obtain ⟨ran, lt, lc, hw, htr⟩ := HK2.out.watch
                  have HW := Lib.hid hw
                  have HTR := Lib.hid htr
                  have hov := htr.over HK2.out.good (fun z hz => (HF.out.2.1 z hz).1) h0 (show x < need.length by rw [HS.out.hn]; exact hq0)
                  have hdone := doneB_any x wr hw h0 (by rw [HS.out.hn]; exact hq0) hnn
                  rw [hov] at hdone
                  clear hw htr hov
                  by_cases hx5 : needT need x ≤ ranT t x i
                  · obtain rfl : r = 105 := HRR.out.trans (fault_hit HK2.out.good (by rw [HS.out.ht]; exact hlt) hlt2 HFI.out (one_over HNE.out HNO.out HX4.out (by rw [HNUM.out]; exact hx5)) (by decide))
                    rw [decide_eq_true hx5] at hdone
                    have C4 := Lib.hid hdone
                    clear hx5 hdone
                    go_wp2_with fail
                    refine C3.out.mono ?_
                    rintro e w3 ⟨rfl, rfl⟩
                    go_wp2_with (go_at_call 55; refine C4.out.mono ?_; rintro e w4 ⟨rfl, b⟩; have HK4 := Lib.hid (HK2.out.below b); clear b)
                    try rw [Exit.noGoto_ret]
                    go_ret
                    exact ⟨rfl, HK4.out.bel⟩
                  · rw [decide_eq_false hx5] at hdone
                    have C4 := Lib.hid hdone
                    have HX5 := Lib.hid (show ¬ needT need (numT t i k) ≤ ranT t (numT t i k) i by rw [HNUM.out]; exact hx5)
                    clear hx5 hdone
                    obtain ⟨q, rfl⟩ : ∃ q : Nat, x = (q : Int) := ⟨x.toNat, by omega⟩
                    have hq64 : q < 64 := by omega
                    go_wp2_with fail
                    refine C3.out.mono ?_
                    rintro e w3 ⟨rfl, rfl⟩
                    go_wp2_with fail
                    refine C4.out.mono ?_
                    rintro e w4 ⟨rfl, b⟩
                    have HK4 := Lib.hid (HK2.out.below b)
                    have HW4 := Lib.hid (HW.out.below b)
                    obtain ⟨d1, d2, d3⟩ := (HW.out.below b).past.cells hq64
                    have hgp4 := (HW.out.below b).past.lt_
                    clear b hdx
                    obtain ⟨v1, hv1⟩ : ∃ v, v = ran q := ⟨_, rfl⟩
                    obtain ⟨v2, hv2⟩ : ∃ v, v = lt q := ⟨_, rfl⟩
                    obtain ⟨v3, hv3⟩ : ∃ v, v = lc q := ⟨_, rfl⟩
                    rw [← hv1] at d1
                    rw [← hv2] at d2
                    rw [← hv3] at d3
                    have HV1 := Lib.hid (hv1.trans (HTR.out.ran q))
                    have HSP := Lib.hid (fun h => HTR.out.split HK2.out.good (by rw [HS.out.ht]; exact hi) (n := q) hlt2 h)
                    rw [← hv2, ← hv3] at HSP
                    have hb1 : 0 ≤ v1 := by have := HV1.out; omega
                    have hpn := place_neq v2 v3 ((i : Int) - 1) (k : Int)
                    clear hv1 hv2 hv3
                    by_cases hp : 0 < v1
                    · by_cases hs : v2 = (i : Int) - 1 ∧ v3 = (k : Int)
                      · have HO := Lib.hid (one_fine (E := E) HNE.out HNO.out HX4.out (by have := HX5.out; omega) (by
                          rw [HNUM.out]
                          rintro ⟨h1, h2⟩
                          exact h2 ((HSP.out h1).mp hs)) (by
                          rw [HNUM.out]
                          rintro ⟨h1, _⟩
                          have := HV1.out
                          omega))
                        have hpb : (!(v2 == (i : Int) - 1 && v3 == (k : Int))) = false := by simp [hs.1, hs.2]
                        rw [hpb] at hpn
                        have hz : (v1 == 0) = false := by simp; omega
                        clear hs hpb
                        go_wp2
                        go_roundw
                        case rel => exact ⟨k + 1, by omega, by go_num, rfl, HK4, Lib.hid (firstV_next HFI.out HO.out)⟩
                        case measure => simp [intOf]; omega
                      · obtain rfl : r = 104 := HRR.out.trans (fault_hit HK2.out.good (by rw [HS.out.ht]; exact hlt) hlt2 HFI.out (one_split HNE.out HNO.out HX4.out (by have := HX5.out; omega) (by
                          rw [HNUM.out]
                          have h1 : 0 < ranT t (q : Int) i := by have := HV1.out; omega
                          exact ⟨h1, fun h2 => hs ((HSP.out h1).mpr h2)⟩)) (by decide))
                        have hpb : (!(v2 == (i : Int) - 1 && v3 == (k : Int))) = true := by
                          simp only [Bool.not_eq_true', Bool.and_eq_false_iff, beq_eq_false_iff_ne]
                          by_cases h1 : v2 = (i : Int) - 1
                          · exact .inr fun h2 => hs ⟨h1, h2⟩
                          · exact .inl h1
                        rw [hpb] at hpn
                        clear hs hpb
                        go_wp2
                        try rw [Exit.noGoto_ret]
                        go_ret
                        exact ⟨rfl, HK4.out.bel⟩
                    · obtain rfl : v1 = 0 := by omega
                      have HR0 := Lib.hid (show ranT t (q : Int) i = 0 by have := HV1.out; omega)
                      have hqn : q < n := by
                        have h1 := HF.out.1
                        have h3 := HS.out.hn
                        have h4 := H.out.hn
                        omega
                      obtain ⟨A2, c2, e1, e2⟩ := HK4.out.waits.at_ q hqn
                      have hfr := HTR.out.free HK2.out.good (fun z hz => (HF.out.2.1 z hz).1) HM.out HF.out.1.symm (q : Int)
                      have hpl : (predsV W E (q : Int)).length ≤ n := by
                        unfold predsV
                        rw [if_pos HM.out, H.out.hn]
                        exact predsL_length _ _ _
                      have hpx : ∀ y ∈ predsV W E (q : Int), 0 ≤ y ∧ y < need.length := by
                        intro y hy
                        unfold predsV at hy
                        rw [if_pos HM.out] at hy
                        unfold predsL at hy
                        rw [List.mem_filter, List.mem_map] at hy
                        obtain ⟨⟨z, hz, rfl⟩, _⟩ := hy
                        have := HF.out.1
                        simp at hz ⊢
                        omega
                      have hall := all_any A2 c2 _ _ w4 rfl (by have := H.out.ln; omega) (e2.more HK4.out.gplt) hpx hnn HW4.out
                      rw [hfr] at hall
                      obtain ⟨l2, hl2⟩ : ∃ l, l = (predsV W E (q : Int)).length := ⟨_, rfl⟩
                      rw [← hl2] at hall e1
                      have hgw : gw < w4.heap.size := Nat.lt_of_lt_of_le HK4.out.waits.lt HK4.out.gplt
                      clear e2 hfr hpl hpx hl2 hpn hb1
                      by_cases hf : FreeT E need t (q : Int) i
                      · have HO := Lib.hid (one_fine (E := E) HNE.out HNO.out HX4.out (by have := HX5.out; omega) (by
                          rw [HNUM.out]
                          rintro ⟨h1, _⟩
                          have := HR0.out
                          omega) (by
                          rw [HNUM.out]
                          rintro ⟨_, h1⟩
                          exact h1 hf))
                        rw [decide_eq_true hf] at hall
                        have C6 := Lib.hid hall
                        clear hf hall
                        go_wp2_with (go_at_call 38; refine C6.out.mono ?_; rintro e w6 ⟨rfl, b⟩; have HK6 := Lib.hid (HK4.out.below b); clear b)
                        go_roundw
                        case rel => exact ⟨k + 1, by omega, by go_num, rfl, HK6, Lib.hid (firstV_next HFI.out HO.out)⟩
                        case measure => simp [intOf]; omega
                      · obtain rfl : r = 103 := HRR.out.trans (fault_hit HK2.out.good (by rw [HS.out.ht]; exact hlt) hlt2 HFI.out (one_wait HNE.out HNO.out HX4.out (by have := HX5.out; omega) (by
                          rw [HNUM.out]
                          rintro ⟨h1, _⟩
                          have := HR0.out
                          omega) (by rw [HNUM.out]; exact ⟨HR0.out, hf⟩)) (by decide))
                        rw [decide_eq_false hf] at hall
                        have C6 := Lib.hid hall
                        clear hf hall
                        go_wp2_with (go_at_call 38; refine C6.out.mono ?_; rintro e w6 ⟨rfl, b⟩; have HK6 := Lib.hid (HK4.out.below b); clear b)
                        try rw [Exit.noGoto_ret]
                        go_ret
                        exact ⟨rfl, HK6.out.bel⟩
        · obtain rfl : k = n1 := by omega
          obtain ⟨ran, lt, lc, hw, htr⟩ := HK2.out.watch
          have hG := HK2.out.good.snoc HR.out HFI.out
          have hti : i < t.length := by rw [HS.out.ht]; exact hlt
          have CA := Lib.hid (add_any (i : Int) A1 k c1 row wr HN1.out (by omega) ((HI1.out.below HK2.out.bel).more HK2.out.lp) (fun x hx => by
            have h1 := hG.mem (i := i) (by rw [List.length_take]; omega) (x := x) (by rw [rowT_take t (i + 1) i (by omega), rowT_at HROW.out]; exact hx)
            have h2 := HF.out.1
            have h3 := HM.out.nodes
            omega) (fun j => htr.bound HR.out (by omega) (by rw [HS.out.ht]; exact htn) (by omega) j) hw.past)
          have HNX := Lib.hid (htr.next hti HROW.out HN1.out)
          have HG := Lib.hid hG
          have HW := Lib.hid hw
          clear hw htr hG hti
          go_wp2_with (go_at_call 36; refine CA.out.mono ?_; rintro e w5 ⟨rfl, hp, b⟩; have HP5 := Lib.hid hp; have HB5 := Lib.hid b; clear hp b)
          go_roundw
          case rel => exact ⟨i + 1, by omega, by go_num, rfl, Lib.hid ⟨HK2.out.bel.trans (HB5.out.mono HK2.out.lp), HK2.out.waits.below HB5.out, Nat.le_of_lt HP5.out.lt_, ⟨_, _, _, HW.out.turned HB5.out HP5.out, HNX.out⟩, HG.out, HK2.out.lw, HK2.out.lp⟩⟩
          case measure => simp [intOf]; omega
    · obtain rfl : i = tn := by omega
      have hrv : r = 0 := by
        rw [HRR.out]
        exact fault_none (by rw [HS.out.ht]; exact HK.out.good)
      subst hrv
      go_wp2
      try rw [Exit.noGoto_ret]
      go_ret
      exact ⟨rfl, HK.out.bel⟩
end
end Go.Proofs.YtpaambpajpmjdaaDoor
