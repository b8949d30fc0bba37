/- sched.Greedy in the seat YtpaambpajpmjdaaDoor: its contract. No statement is proved here. -/
import Derived.Test.YtpaambpajpmjdaaDoorZSchedEnds
set_option linter.unusedSimpArgs false
set_option linter.unusedVariables false
namespace Go.Proofs.YtpaambpajpmjdaaDoor
open Go.RowKit

/-- At a tick a node doesn't wait needlessly. -/
def okAt (E : List (Int × Int)) (need : List Int) (t : List (List Int)) (i k : Nat) : Prop := (-1) ∈ rowT t i → ranT t (k : Int) i = 0 → (k : Int) ∉ rowT t i → ¬ FreeT E need t (k : Int) i
theorem greedy_iff {E : List (Int × Int)} {need : List Int} {t : List (List Int)} : GreedyT E need t ↔ ∀ i, i < t.length → ∀ k, k < need.length → okAt E need t i k :=
  ⟨fun h i hi k hk h1 h2 h3 => h i hi h1 k hk h2 h3, fun h i hi h1 k hk h2 h3 => h i hi k hk h1 h2 h3⟩
open Classical in
noncomputable def greedyB (W : List Int) (E : List (Int × Int)) (need : List Int) (cores : Int) (t : List (List Int)) : Bool := decide (schedE W E need cores t = 0 ∧ GreedyT E need t)
open Classical in
theorem greedyB_iff {W : List Int} {E : List (Int × Int)} {need : List Int} {cores : Int} {t : List (List Int)} : greedyB W E need cores t = true ↔ schedE W E need cores t = 0 ∧ GreedyT E need t := by unfold greedyB; rw [decide_eq_true_iff]
section
variable {A : Option Addr} {n c : Nat} {F : Option Addr} {m d : Nat} {W : List Int} {E : List (Int × Int)} {N : Option Addr} {nn nc : Nat} {need : List Int} {T : Option Addr} {tn tc : Nat} {t : List (List Int)}
set_option maxRecDepth 100000 in
set_option maxHeartbeats 8000000 in
theorem greedy_any (cores : Int) (w : World) (h : IsG w A n c F m d W E) (hS : IsS w N nn nc T tn tc need t) :
    Calls Tryd.prog 19 #[.agg #[.slice A n c, .slice F m d], .slice N nn nc, .int .i64 cores, .slice T tn tc] w fun e w' => e = .returned (.bool (greedyB W E need cores t)) ∧ Below w.heap.size w w' := by
  have H := Lib.hid h
  have HS := Lib.hid hS
  obtain ⟨w0, hw0⟩ : ∃ w0, w0 = w.alloc (.cells #[.slice A n c, .slice F m d] 25) := ⟨_, rfl⟩
  have HW0 := Lib.hid hw0
  have HB0 : Hid (Below w.heap.size w w0) := Lib.hid (by rw [hw0]; exact below_alloc _)
  have HS0 : Hid (w.heap.size < w0.heap.size) := Lib.hid (by rw [hw0]; simp)
  have P0 : Hid (w0.cell? ⟨w.heap.size, 0, none⟩ = some (.slice A n c)) := Lib.hid (by rw [hw0, World.cell?_alloc_at _ _ _ _ rfl]; rfl)
  have P1 : Hid (w0.cell? ⟨w.heap.size, 1, none⟩ = some (.slice F m d)) := Lib.hid (by rw [hw0, World.cell?_alloc_at _ _ _ _ rfl]; rfl)
  have C0 := Lib.hid (scheck_any cores _ (h.below HB0.out) (hS.below HB0.out))
  have C1 := Lib.hid (fun W' (h : IsG W' A n c F m d W E) => preds10_any W' h)
  have C2 := Lib.hid (fun W' (h : IsS W' N nn nc T tn tc need t) => watch_any N nn nc need W' h.hn h.ints)
  obtain ⟨r, hr⟩ : ∃ r, r = greedyB W E need cores t := ⟨_, rfl⟩
  rw [← hr]
  have HRR := Lib.hid hr
  clear h hS hr hw0
  by_cases hz : schedE W E need cores t = 0
  · rw [hz] at C0
    have HOK := Lib.hid (schedE_zero.mp hz)
    have HRV : Hid (∀ b : Bool, (b = true ↔ GreedyT E need t) → r = b) := Lib.hid (fun b hb => by
      rw [HRR.out, Bool.eq_iff_iff, greedyB_iff, hb]
      exact ⟨fun q => q.2, fun q => ⟨hz, q⟩⟩)
    clear hz
    go_enter Tryd.func19, Tryd.ntmps19
    go_wp2_with fail
    rw [← HW0.out]
    refine C0.out.mono ?_
    rintro e w1 ⟨rfl, b⟩
    have HB1 := Lib.hid (HB0.out.trans (b.mono HB0.out.size))
    have q0 := (b.cell HS0.out).trans P0.out
    have q1 := (b.cell HS0.out).trans P1.out
    have HS1 := Lib.hid (Nat.lt_of_lt_of_le HS0.out b.size)
    clear b C0
    go_wp2_with fail
    refine (C1.out _ (H.out.below HB1.out)).mono ?_
    rintro e w2 ⟨gw, rfl, hw, hb, hgw⟩
    have HB2 : Hid (Below w.heap.size w w2) := Lib.hid (HB1.out.trans (hb.mono HB1.out.size))
    have HWT := Lib.hid hw
    clear hw hb hgw C1 q0 q1
    go_wp2_with fail
    refine (C2.out _ (HS.out.below HB2.out)).mono ?_
    rintro e w3 ⟨gp, gv, gn, rfl, hw, hb, hgn, hgv, hgp⟩
    obtain ⟨k0, hk0, hok⟩ := HOK.out
    have HOK2 := Lib.hid hok
    have HMID : Hid (Mid w gw gp gv gn n W E N nn nc need k0 t 0 w3) := Lib.hid ⟨HB2.out.trans (hb.mono HB2.out.size), (HWT.out.below hb).more hgp, Nat.le_of_lt hw.past.lt_, ⟨_, _, _, hw, Track.start k0 t _ _⟩, hok.good.take 0, Nat.lt_of_lt_of_le HWT.out.lt hgp, Nat.le_trans HB2.out.size hgp⟩
    clear hw hb hgn hgv hgp HWT HB2 C2 hok HOK
    subst hk0
    go_wp2
    go_loopw [31] (fun v wr => ∃ i : Nat, i ≤ tn ∧ v = .int .i64 i ∧ Hid (Mid w gw gp gv gn n W E N nn nc need k0 t i wr) ∧ Hid (∀ j, j < i → ∀ k, k < need.length → okAt E need t j k)) (fun v _ => tn - (intOf v).toNat)
    case atStart => exact ⟨0, Nat.zero_le _, rfl, HMID, Lib.hid (fun j hj => absurd hj (Nat.not_lt_zero _))⟩
    case round =>
      obtain ⟨i, hi, rfl, HK, HO⟩ := hrel
      clear HMID
      by_cases hlt : i < tn
      · obtain ⟨bt, ot, row, A1, n1, c1, rfl, hbt, hrow, hn1, hcell, hints, hnil⟩ := HS.out.rows.at_ (k := i) (by rw [HS.out.ht]; exact hlt)
        obtain rfl : n1 = k0 := hn1.symm.trans (HOK2.out.good.rows row (List.mem_of_getElem? hrow))
        have hd : wr.cell? ⟨bt, ot + i, none⟩ = some (.slice A1 n1 c1) := (HK.out.bel.cell hbt).trans hcell
        have HI1 := Lib.hid hints
        have HROW := Lib.hid hrow
        have HN1 := Lib.hid hn1
        have hbt2 : bt < wr.heap.size := Nat.lt_of_lt_of_le hbt HK.out.bel.size
        have hn8 : n1 ≤ 8 := by have := HOK2.out.form.2.2.2; omega
        have htn : tn ≤ 400 := HS.out.lt
        have hnn : nn ≤ 64 := by
          have h1 := HOK2.out.form.1
          have h2 := HOK2.out.may.nodes
          have h3 := HS.out.hn
          omega
        have HTI : Hid (i < t.length) := Lib.hid (by rw [HS.out.ht]; exact hlt)
        clear hcell hints hrow hn1 hnil
        go_wp2
        go_loopw [38] (fun v wi => ∃ k : Nat, k ≤ nn ∧ v = .int .i64 k ∧ Hid (Mid w gw gp gv gn n W E N nn nc need n1 t i wi) ∧ Hid (∀ j, j < k → okAt E need t i j)) (fun v _ => nn - (intOf v).toNat)
        case atStart => exact ⟨0, Nat.zero_le _, rfl, HK, Lib.hid (fun j hj => absurd hj (Nat.not_lt_zero _))⟩
        case round =>
          obtain ⟨k, hk, rfl, HK2, HF⟩ := hrel
          by_cases hlt2 : k < nn
          · obtain ⟨ran, lt, lc, hw, htr⟩ := HK2.out.watch
            have HW := Lib.hid hw
            obtain ⟨d1, _, _⟩ := hw.past.cells (show k < 64 by omega)
            have hgp := hw.past.lt_
            have HV1 := Lib.hid (htr.ran k)
            obtain ⟨v1, hv1⟩ : ∃ v, v = ran k := ⟨_, rfl⟩
            rw [← hv1] at d1 HV1
            have hfr := htr.free HK2.out.good (fun z hz => (HOK2.out.form.2.1 z hz).1) HOK2.out.may HOK2.out.form.1.symm (k : Int)
            have HNX : Hid (okAt E need t i k → ∀ j, j < k + 1 → okAt E need t i j) := Lib.hid (fun hok j hj => by
              rcases Nat.lt_or_ge j k with h1 | h1
              · exact HF.out j h1
              · rw [show j = k by omega]; exact hok)
            clear hv1 hw htr
            by_cases hv : v1 = 0
            · subst hv
              have HR0 : Hid (ranT t (k : Int) i = 0) := Lib.hid (by have := HV1.out; omega)
              have hkn : k < n := by
                have h1 := HOK2.out.form.1
                have h3 := HS.out.hn
                have h4 := H.out.hn
                omega
              obtain ⟨A2, c2, e1, e2⟩ := HK2.out.waits.at_ k hkn
              have hpl : (predsV W E (k : Int)).length ≤ n := by
                unfold predsV
                rw [if_pos HOK2.out.may, H.out.hn]
                exact predsL_length _ _ _
              have hpx : ∀ y ∈ predsV W E (k : Int), 0 ≤ y ∧ y < need.length := by
                intro y hy
                unfold predsV at hy
                rw [if_pos HOK2.out.may] at hy
                unfold predsL at hy
                rw [List.mem_filter, List.mem_map] at hy
                obtain ⟨⟨z, hz, rfl⟩, _⟩ := hy
                have := HOK2.out.form.1
                simp at hz ⊢
                omega
              have hall := all_any A2 c2 _ _ wr rfl (by have := H.out.ln; omega) (e2.more HK2.out.gplt) hpx hnn HW.out
              rw [hfr] at hall
              obtain ⟨l2, hl2⟩ : ∃ l, l = (predsV W E (k : Int)).length := ⟨_, rfl⟩
              rw [← hl2] at hall e1
              have hgw : gw < wr.heap.size := Nat.lt_of_lt_of_le HK2.out.waits.lt HK2.out.gplt
              clear e2 hfr hpl hpx hl2
              by_cases hf : FreeT E need t (k : Int) i
              · rw [decide_eq_true hf] at hall
                have C6 := Lib.hid hall
                have HFR := Lib.hid hf
                clear hf hall
                go_wp2_with fail
                refine C6.out.mono ?_
                rintro e w6 ⟨rfl, b⟩
                have HK6 := Lib.hid (HK2.out.below b)
                have hrm := rowT_at HROW.out
                have CA := Lib.hid (contains_any A1 c1 n1 row (-1) w.heap.size w6 HN1.out (by omega) (HI1.out.below HK6.out.bel))
                have CB := Lib.hid (contains_any A1 c1 n1 row (k : Int) w.heap.size w6 HN1.out (by omega) (HI1.out.below HK6.out.bel))
                clear b C6 d1 e1
                by_cases h1 : (-1 : Int) ∈ row
                · rw [decide_eq_true h1] at CA
                  by_cases h2 : (k : Int) ∈ row
                  · rw [decide_eq_true h2] at CB
                    have HNK : Hid (∀ j, j < k + 1 → okAt E need t i j) := Lib.hid (HNX.out fun _ _ q => by rw [hrm] at q; exact absurd h2 q)
                    clear h1 h2 hrm
                    go_wp2_with fail
                    refine CA.out.mono ?_
                    rintro e w7 ⟨rfl, rfl⟩
                    go_wp2_with fail
                    refine CB.out.mono ?_
                    rintro e w8 ⟨rfl, rfl⟩
                    go_wp2
                    go_roundw
                    case rel => exact ⟨k + 1, by omega, by go_num, HK6, HNK⟩
                    case measure => simp [intOf]; omega
                  · rw [decide_eq_false h2] at CB
                    obtain rfl : r = false := HRV.out false ⟨fun q => absurd q (by decide), fun q => absurd HFR.out (greedy_iff.mp q i HTI.out k (by rw [HS.out.hn]; exact hlt2) (by rw [hrm]; exact h1) HR0.out (by rw [hrm]; exact h2))⟩
                    clear h1 h2 hrm
                    go_wp2_with fail
                    refine CA.out.mono ?_
                    rintro e w7 ⟨rfl, rfl⟩
                    go_wp2_with fail
                    refine CB.out.mono ?_
                    rintro e w8 ⟨rfl, rfl⟩
                    go_wp2
                    go_ret
                    exact ⟨rfl, HK6.out.bel⟩
                · rw [decide_eq_false h1] at CA
                  have HNK : Hid (∀ j, j < k + 1 → okAt E need t i j) := Lib.hid (HNX.out fun q _ _ => by rw [hrm] at q; exact absurd q h1)
                  clear h1 hrm CB
                  go_wp2_with fail
                  refine CA.out.mono ?_
                  rintro e w7 ⟨rfl, rfl⟩
                  go_wp2
                  go_roundw
                  case rel => exact ⟨k + 1, by omega, by go_num, HK6, HNK⟩
                  case measure => simp [intOf]; omega
              · rw [decide_eq_false hf] at hall
                have C6 := Lib.hid hall
                have HNK : Hid (∀ j, j < k + 1 → okAt E need t i j) := Lib.hid (HNX.out fun _ _ _ => hf)
                clear hf hall
                go_wp2_with fail
                refine C6.out.mono ?_
                rintro e w6 ⟨rfl, b⟩
                have HK6 := Lib.hid (HK2.out.below b)
                clear b C6 d1 e1
                go_wp2
                go_roundw
                case rel => exact ⟨k + 1, by omega, by go_num, HK6, HNK⟩
                case measure => simp [intOf]; omega
            · have hv' : (v1 == 0) = false := by simpa using hv
              have HNK : Hid (∀ j, j < k + 1 → okAt E need t i j) := Lib.hid (HNX.out fun _ q _ => by have := HV1.out; omega)
              clear hv hfr
              go_wp2
              go_roundw
              case rel => exact ⟨k + 1, by omega, by go_num, HK2, HNK⟩
              case measure => simp [intOf]; omega
          · obtain rfl : k = nn := by omega
            obtain ⟨ran, lt, lc, hw, htr⟩ := HK2.out.watch
            have CA := Lib.hid (add_any (i : Int) A1 n1 c1 row wr HN1.out (by omega) ((HI1.out.below HK2.out.bel).more HK2.out.lp) (fun x hx => by
              have h1 := HOK2.out.good.mem HTI.out (x := x) (by rw [rowT_at HROW.out]; exact hx)
              have h2 := HOK2.out.form.1
              have h3 := HOK2.out.may.nodes
              omega) (fun j => htr.bound HOK2.out.good.rows (by have := HTI.out; omega) (by rw [HS.out.ht]; exact htn) (by omega) j) hw.past)
            have HNX := Lib.hid (htr.next HTI.out HROW.out HN1.out)
            have HW := Lib.hid hw
            clear hw htr
            go_wp2_with (go_at_call 36; refine CA.out.mono ?_; rintro e w5 ⟨rfl, hp, b⟩; have HP5 := Lib.hid hp; have HB5 := Lib.hid b; clear hp b)
            go_roundw
            case rel => exact ⟨i + 1, by omega, by go_num, Lib.hid ⟨HK2.out.bel.trans (HB5.out.mono HK2.out.lp), HK2.out.waits.below HB5.out, Nat.le_of_lt HP5.out.lt_, ⟨_, _, _, HW.out.turned HB5.out HP5.out, HNX.out⟩, HOK2.out.good.take _, HK2.out.lw, HK2.out.lp⟩, Lib.hid (fun j hj k' hk' => by
              rcases Nat.lt_or_ge j i with h1 | h1
              · exact HO.out j h1 k' hk'
              · rw [show j = i by omega]; exact HF.out k' (by rw [← HS.out.hn]; exact hk'))⟩
            case measure => simp [intOf]; omega
      · obtain rfl : i = tn := by omega
        obtain rfl : r = true := HRV.out true ⟨fun _ => greedy_iff.mpr fun j hj k hk => HO.out j (by rw [← HS.out.ht]; exact hj) k hk, fun _ => rfl⟩
        go_wp2
        go_ret
        exact ⟨rfl, HK.out.bel⟩
  · obtain ⟨z, hz2⟩ : ∃ z, z = schedE W E need cores t := ⟨_, rfl⟩
    obtain rfl : r = false := by
      rw [HRR.out, ← Bool.not_eq_true, greedyB_iff]
      exact fun q => hz q.1
    rw [← hz2] at C0 hz
    have hne : (z == 0) = false := by simpa using hz
    clear hz hz2 C1 C2 HRR
    go_enter Tryd.func19, Tryd.ntmps19
    go_wp2_with fail
    rw [← HW0.out]
    refine C0.out.mono ?_
    rintro e w1 ⟨rfl, b⟩
    have HB1 := Lib.hid (HB0.out.trans (b.mono HB0.out.size))
    clear b C0
    go_wp2
    go_ret
    exact ⟨rfl, HB1.out⟩
end
end Go.Proofs.YtpaambpajpmjdaaDoor
