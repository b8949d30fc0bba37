/- sched.Ends in the seat YtpaambpajpmjdaaDoor: its contract. No statement is proved here. -/
import Derived.Test.YtpaambpajpmjdaaDoorZSchedCheck
import Derived.Test.YtpaambpajpmjdaaDoorZM9
set_option linter.unusedSimpArgs false
set_option linter.unusedVariables false
namespace Go.Proofs.YtpaambpajpmjdaaDoor
open Go.RowKit

section
variable {E : List (Int × Int)} {need : List Int} {cores : Nat} {t : List (List Int)}
theorem ranT_const {x : Int} {a : Nat} : ∀ b, a ≤ b → (∀ j, a ≤ j → j < b → x ∉ rowT t j) → ranT t x b = ranT t x a
  | 0, h, _ => by rw [show a = 0 by omega]
  | b + 1, h, hno => by
    rcases Nat.lt_or_ge b a with h1 | h1
    · rw [show a = b + 1 by omega]
    · rw [ranT_step, List.count_eq_zero.mpr (hno b h1 (by omega)), Nat.add_zero]
      exact ranT_const b h1 fun j h2 h3 => hno j h2 (by omega)
theorem Track.end_ {ran lt lc : Nat → Int} (h : Track cores t t.length ran lt lc) (G : Good E need cores t) (hp : ∀ z ∈ need, 1 ≤ z) {n : Nat} (hx : n < need.length) : endV need t (n : Int) = if doneB need ran (n : Int) = true then lt n + 1 else -1 := by
  have h0 : (0 : Int) ≤ (n : Int) := by omega
  have hx' : (n : Int) < need.length := by omega
  have hov := h.over (by rw [List.take_length]; exact G) hp h0 hx'
  have hpos := needT_pos hp h0 hx'
  rw [hov]
  by_cases hd : needT need (n : Int) ≤ ranT t (n : Int) t.length
  · rw [if_pos (decide_eq_true hd)]
    obtain ⟨k, c, e1, e2, hk, hc, hnum, hlast⟩ := h.last n (by omega)
    have hc1 : ranT t (n : Int) t.length = ranT t (n : Int) (k + 1) := ranT_const _ (by omega) fun j h1 h2 => hlast j (by omega) h2
    have hmem : (n : Int) ∈ rowT t k := by rw [← hnum]; exact num_mem (by rw [G.len hk]; exact hc)
    have hcnt := List.count_pos_iff.mpr hmem
    have hst := ranT_step t (n : Int) k
    have hle := G.ran_le hp h0 hx' (k + 1)
    rw [e1]
    rw [endV_some (k := k + 1) (by omega) (by omega) (fun j hj => by
      have := ranT_mono t (n : Int) (show j ≤ k by omega)
      omega)]
    omega
  · rw [if_neg (by simpa using hd)]
    exact endV_none (by omega)
end
open Classical in
noncomputable def endsV (W : List Int) (E : List (Int × Int)) (need : List Int) (cores : Int) (t : List (List Int)) : List Int := if schedE W E need cores t = 0 then (List.range need.length).map fun n : Nat => endV need t (n : Int) else []
theorem endsV_ok {W : List Int} {E : List (Int × Int)} {need : List Int} {cores : Int} {t : List (List Int)} (h : schedE W E need cores t = 0) : endsV W E need cores t = (List.range need.length).map fun n : Nat => endV need t (n : Int) := by unfold endsV; rw [if_pos h]
theorem endsV_bad {W : List Int} {E : List (Int × Int)} {need : List Int} {cores : Int} {t : List (List Int)} (h : schedE W E need cores t ≠ 0) : endsV W E need cores t = [] := by unfold endsV; rw [if_neg h]
theorem row_ints10 {g : Nat} {us : List Int} {w : World} (h : RowV g 3 (intsV us) w) : Ints w w.heap.size (some ⟨g, 0, none⟩) us := fun _ =>
  ⟨g, 0, rfl, h.lt, fun k hk => by rw [Nat.zero_add]; exact h.cell (intsV_at hk)⟩
section
variable {A : Option Addr} {n c : Nat} {F : Option Addr} {m d : Nat} {W : List Int} {E : List (Int × Int)} {N : Option Addr} {nn nc : Nat} {need : List Int} {T : Option Addr} {tn tc : Nat} {t : List (List Int)}
set_option maxRecDepth 100000 in
set_option maxHeartbeats 8000000 in
theorem ends_any (cores : Int) (w : World) (h : IsG w A n c F m d W E) (hS : IsS w N nn nc T tn tc need t) :
    Calls Tryd.prog 18 #[.agg #[.slice A n c, .slice F m d], .slice N nn nc, .int .i64 cores, .slice T tn tc] w (GotInts (endsV W E need cores t) w) := by
  have H := Lib.hid h
  have HS := Lib.hid hS
  have HB0 : Hid (Below w.heap.size w (w.alloc (.cells #[.slice A n c, .slice F m d] 25))) := Lib.hid (below_alloc _)
  have C1 := Lib.hid (scheck_any cores _ (h.below HB0.out) (hS.below HB0.out))
  have C2 := Lib.hid (fun W' (h : IsS W' N nn nc T tn tc need t) => watch_any N nn nc need W' h.hn h.ints)
  by_cases hz : schedE W E need cores t = 0
  · have HE := Lib.hid (endsV_ok hz)
    rw [hz] at C1
    have HOK := Lib.hid (schedE_zero.mp hz)
    have hln := hS.ln
    have hlt := hS.lt
    clear hz h hS
    obtain ⟨l, hl⟩ : ∃ l, l = endsV W E need cores t := ⟨_, rfl⟩
    rw [← hl] at HE ⊢
    clear hl
    go_enter Tryd.func18, Tryd.ntmps18
    go_wp2_with fail
    refine C1.out.mono ?_
    rintro e w1 ⟨rfl, b⟩
    have HB1 := Lib.hid (HB0.out.trans (b.mono (by simp)))
    clear b HB0 C1
    go_wp2_with fail
    refine (C2.out _ (HS.out.below HB1.out)).mono ?_
    rintro e w2 ⟨gp, gv, gn, rfl, hw, b, hgn, hgv, hgp⟩
    obtain ⟨k0, hk0, hok⟩ := HOK.out
    have HOK2 := Lib.hid hok
    have HGP := Lib.hid (Nat.le_trans HB1.out.size hgp)
    have HX : Hid (∃ ran lt lc, Watch gp gv gn N nn nc need ran lt lc w2 ∧ Track k0 t 0 ran lt lc) := Lib.hid ⟨_, _, _, hw, Track.start _ _ _ _⟩
    have HB2 := Lib.hid (HB1.out.trans (b.mono HB1.out.size))
    clear hw b hgn hgv hgp hok HOK C2 HB1
    subst hk0
    go_wp2
    go_loopw [28] (fun v wr => ∃ i : Nat, i ≤ tn ∧ v = .int .i64 i ∧ Hid (∃ ran lt lc, Watch gp gv gn N nn nc need ran lt lc wr ∧ Track k0 t i ran lt lc) ∧ Hid (Below w.heap.size w wr)) (fun v _ => tn - (intOf v).toNat)
    case atStart => exact ⟨0, Nat.zero_le _, rfl, HX, HB2⟩
    case round =>
      obtain ⟨i, hi, rfl, HK, HB⟩ := hrel
      clear HX HB2
      by_cases hlt : i < tn
      · obtain ⟨bt, ot, row, A1, n1, c1, rfl, hbt, hrow, hn1, hcell, hints, hnil⟩ := HS.out.rows.at_ (k := i) (by rw [HS.out.ht]; exact hlt)
        obtain rfl : n1 = k0 := hn1.symm.trans (HOK2.out.good.rows row (List.mem_of_getElem? hrow))
        have hd : wr.cell? ⟨bt, ot + i, none⟩ = some (.slice A1 n1 c1) := (HB.out.cell hbt).trans hcell
        have hbt2 : bt < wr.heap.size := Nat.lt_of_lt_of_le hbt HB.out.size
        obtain ⟨ran, lt, lc, hw, htr⟩ := HK.out
        have hti : i < t.length := by rw [HS.out.ht]; exact hlt
        have hn8 : n1 ≤ 8 := by have := HOK2.out.form.2.2.2; omega
        have CA := Lib.hid (add_any (i : Int) A1 n1 c1 row wr hn1 (by omega) ((hints.below HB.out).more HGP.out) (fun x hx => by
          have h1 := HOK2.out.good.mem hti (x := x) (by rw [rowT_at hrow]; exact hx)
          have h2 := HOK2.out.form.1
          have h3 := HOK2.out.may.nodes
          omega) (fun j => htr.bound HOK2.out.good.rows (by omega) (by rw [HS.out.ht]; exact HS.out.lt) (by omega) j) hw.past)
        have HNX := Lib.hid (htr.next hti hrow hn1)
        have HW := Lib.hid hw
        clear hw htr hti hcell hints hrow hn1 hnil hn8
        go_wp2_with (go_at_call 36; refine CA.out.mono ?_; rintro e w5 ⟨rfl, hp, b⟩; have HP5 := Lib.hid hp; have HB5 := Lib.hid b; clear hp b)
        go_roundw
        case rel => exact ⟨i + 1, by omega, by go_num, Lib.hid ⟨_, _, _, HW.out.turned HB5.out HP5.out, HNX.out⟩, Lib.hid (HB.out.trans (HB5.out.mono HGP.out))⟩
        case measure => simp [intOf]; omega
      · obtain rfl : i = tn := by omega
        obtain ⟨ran, lt, lc, hw, htr⟩ := HK.out
        have HW := Lib.hid hw
        have hlen : t.length = i := HS.out.ht
        have HEND := Lib.hid (fun (n : Nat) (hx : n < need.length) => Track.end_ (by rw [hlen]; exact htr) HOK2.out.good (fun z hz => (HOK2.out.form.2.1 z hz).1) hx)
        have hnn64 : nn ≤ 64 := by
          have h2 := HOK2.out.form.1
          have h3 := HOK2.out.may.nodes
          have h4 := HS.out.hn
          omega
        have hb64 : ∀ j : Nat, j < 64 → -2 ≤ lt j + 1 ∨ True := fun _ _ => .inr trivial
        have hmk := fun W' => make_ints nn (by omega) W'
        have X0 : Hid (RowV wr.heap.size 3 (intsV (List.replicate nn 0)) (wr.alloc (.cells (List.replicate nn (Value.int .i64 0)).toArray 3))) := Lib.hid (by
          have := RowV.new wr 3 (intsV (List.replicate nn 0))
          rw [show intsV (List.replicate nn 0) = List.replicate nn (Value.int .i64 0) by simp [intsV]] at this ⊢
          exact this)
        have HTL := Lib.hid (fun (j : Nat) (hj : doneB need ran (j : Int) = true) (hx : j < need.length) => show 0 ≤ lt j ∧ lt j ≤ 400 by
          have hov := htr.over (E := E) (by rw [← hlen, List.take_length]; exact HOK2.out.good) (fun z hz => (HOK2.out.form.2.1 z hz).1) (x := (j : Int)) (by omega) (by omega)
          rw [hov, decide_eq_true_iff] at hj
          have hpos := needT_pos (need := need) (fun z hz => (HOK2.out.form.2.1 z hz).1) (x := (j : Int)) (by omega) (by omega)
          obtain ⟨k, c, e1, _, hk, _⟩ := htr.last j (by omega)
          have := HS.out.lt
          omega)
        clear hw htr hlen hlt hb64
        obtain ⟨w5, hw5⟩ : ∃ w5, w5 = wr := ⟨_, rfl⟩
        subst hw5
        go_wp2
        go_loopw [43] (fun v wi => ∃ (k : Nat) (us : List Int), k ≤ nn ∧ v = .int .i64 k ∧ Hid (us.length = nn ∧ ∀ j, j < k → us[j]? = some (endV need t (j : Int))) ∧ Hid (RowV w5.heap.size 3 (intsV us) wi) ∧ Hid (Below w5.heap.size w5 wi)) (fun v _ => nn - (intOf v).toNat)
        case atStart => exact ⟨0, List.replicate nn 0, Nat.zero_le _, rfl, Lib.hid ⟨by simp, fun j hj => absurd hj (Nat.not_lt_zero _)⟩, X0, Lib.hid (below_alloc _)⟩
        case round =>
          obtain ⟨k, us, hk, rfl, HU, HROW, HBI⟩ := hrel
          clear X0 hmk
          have hsz := HROW.out.lt
          by_cases hlt2 : k < nn
          · have hkn : k < need.length := by rw [HS.out.hn]; exact hlt2
            have hcell := HROW.out.cell (intsV_at (l := us) (j := k) (by rw [HU.out.1]; exact hlt2))
            have hfr := HROW.out.frozen k
            have hrow1 : RowV w5.heap.size 3 (intsV (us.set k (-1))) (wr.setCell ⟨w5.heap.size, k, none⟩ (.int .i64 (-1))) := by
              rw [intsV_set]
              exact HROW.out.set k _
            have HR1 := Lib.hid hrow1
            have HBX : Hid (Below w5.heap.size w5 (wr.setCell ⟨w5.heap.size, k, none⟩ (.int .i64 (-1)))) := Lib.hid (HBI.out.setCell (Nat.le_refl _) _)
            have CD := Lib.hid (doneB_any (k : Int) _ (HW.out.below HBX.out) (by omega) (by omega) hnn64)
            have HEK := Lib.hid (HEND.out k hkn)
            obtain ⟨db, hdb⟩ : ∃ b, b = doneB need ran (k : Int) := ⟨_, rfl⟩
            have HTK := Lib.hid (fun h => HTL.out k h hkn)
            rw [← hdb] at CD HEK HTK
            clear hrow1 hdb
            go_wp2_with fail
            refine CD.out.mono ?_
            rintro e w6 ⟨rfl, b⟩
            have HB6 := Lib.hid (HBX.out.trans (b.mono HBX.out.size))
            have HR6 := Lib.hid (HR1.out.below b HR1.out.lt)
            obtain ⟨_, d2, _⟩ := (HW.out.below HB6.out).past.cells (show k < 64 by omega)
            have hgp6 := (HW.out.below HB6.out).past.lt_
            have hc6 := HR6.out.cell (intsV_at (l := us.set k (-1)) (j := k) (by rw [List.length_set, HU.out.1]; exact hlt2))
            have hf6 := HR6.out.frozen k
            have hl6 := HR6.out.lt
            clear b hcell hfr CD HR1 HBX
            cases db with
            | true =>
              obtain ⟨h1, h2⟩ := HTK.out rfl
              have HV : Hid (endV need t (k : Int) = lt k + 1) := Lib.hid (by rw [HEK.out]; rfl)
              obtain ⟨z, hz⟩ : ∃ z, z = lt k := ⟨_, rfl⟩
              rw [← hz] at d2 h1 h2 HV
              clear hz HTK HEK
              go_wp2
              go_roundw
              case rel => exact ⟨k + 1, us.set k (z + 1), by omega, by go_num, Lib.hid ⟨by rw [List.length_set]; exact HU.out.1, fun j hj => by
                rw [List.getElem?_set]
                by_cases e : k = j
                · subst e
                  rw [if_pos rfl, if_pos (by rw [HU.out.1]; exact hlt2), HV.out]
                · rw [if_neg e]
                  exact HU.out.2 j (by omega)⟩, Lib.hid (by
                have := HR6.out.set k (.int .i64 (z + 1))
                rw [← intsV_set, List.set_set] at this
                exact this), Lib.hid (HB6.out.setCell (Nat.le_refl _) _)⟩
              case measure => simp [intOf]; omega
            | false =>
              have HV : Hid (endV need t (k : Int) = -1) := Lib.hid (by rw [HEK.out]; rfl)
              clear HTK HEK
              go_wp2
              go_roundw
              case rel => exact ⟨k + 1, us.set k (-1), by omega, by go_num, Lib.hid ⟨by rw [List.length_set]; exact HU.out.1, fun j hj => by
                rw [List.getElem?_set]
                by_cases e : k = j
                · subst e
                  rw [if_pos rfl, if_pos (by rw [HU.out.1]; exact hlt2), HV.out]
                · rw [if_neg e]
                  exact HU.out.2 j (by omega)⟩, HR6, HB6⟩
              case measure => simp [intOf]; omega
          · obtain rfl : k = nn := by omega
            have HUL : Hid (us = l) := Lib.hid (by
              rw [HE.out]
              apply List.ext_getElem?
              intro j
              rcases Nat.lt_or_ge j k with hj | hj
              · rw [HU.out.2 j hj, List.getElem?_map, List.getElem?_range (by rw [HS.out.hn]; exact hj)]; rfl
              · rw [List.getElem?_eq_none (by rw [HU.out.1]; exact hj), List.getElem?_eq_none (by rw [List.length_map, List.length_range, HS.out.hn]; exact hj)])
            go_wp2
            go_ret
            refine ⟨some ⟨w5.heap.size, 0, none⟩, k, ?_, by rw [← HUL.out]; exact row_ints10 HROW.out, HB.out.trans (HBI.out.mono HB.out.size)⟩
            rw [← HUL.out, HU.out.1]
            rfl
  · have HE := endsV_bad hz
    obtain ⟨z, hz2⟩ : ∃ z, z = schedE W E need cores t := ⟨_, rfl⟩
    rw [← hz2] at C1 hz
    have hne : (z == 0) = false := by simpa using hz
    rw [HE]
    clear hz hz2 h hS HE C2
    go_enter Tryd.func18, Tryd.ntmps18
    go_wp2_with fail
    refine C1.out.mono ?_
    rintro e w1 ⟨rfl, b⟩
    have HB1 := Lib.hid (HB0.out.trans (b.mono (by simp)))
    clear b HB0 C1
    go_wp2
    go_ret
    exact ⟨none, 0, rfl, Ints.nil_ _ _ _, HB1.out⟩
end
end Go.Proofs.YtpaambpajpmjdaaDoor
