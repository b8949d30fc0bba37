/- Ran, free and Form of trefoilref10 in the seat YtpaambpajpmjdaaDoor: their contracts.
   Few, Form and One of trefoilref10 in the seat YtpaambpajpmjdaaDoor: their contracts.
   No statement is proved here. -/
import Derived.Test.YtpaambpajpmjdaaDoorZSchedCheck
import Derived.BigQuiet
set_option linter.unusedSimpArgs false
set_option linter.unusedVariables false
namespace Go.Proofs.YtpaambpajpmjdaaDoor
open Go.RowKit

section
variable {A : Option Addr} {n c : Nat} {F : Option Addr} {m d : Nat} {W : List Int} {E : List (Int × Int)} {N : Option Addr} {nn nc : Nat} {need : List Int} {T : Option Addr} {tn tc : Nat} {t : List (List Int)}
set_option maxRecDepth 100000 in
set_option maxHeartbeats 4000000 in
theorem rran_any (x : Int) (k : Nat) (B : Nat) (w : World) (ht : t.length = tn) (hl : tn ≤ 400) (hr : ∀ r ∈ t, r.length ≤ 400) (hT : Trc w B T t) (hk : k ≤ tn) :
    Calls Tryd.prog 40 #[.slice T tn tc, .int .i64 x, .int .i64 k] w fun e w' => e = .returned (.int .i64 (ranT t x k)) ∧ w' = w := by
  have HT := Lib.hid hT
  have HL := Lib.hid ht
  have HRL := Lib.hid hr
  obtain ⟨r, hr2⟩ : ∃ r, r = ranT t x k := ⟨_, rfl⟩
  rw [← hr2]
  have HR := Lib.hid hr2
  clear hT ht hr hr2
  go_enter Tryd.func40, Tryd.ntmps40
  go_wp2
  go_loop [7, 8] (fun s v => ∃ i b : Nat, i ≤ k ∧ v = .int .i64 i ∧ s = .int .i64 b ∧ b ≤ 400 * i ∧ Hid (b = ranT t x i)) (fun _ v => k - (intOf v).toNat)
  case atStart => exact ⟨0, 0, Nat.zero_le _, rfl, rfl, by omega, Lib.hid (ranT_zero t x).symm⟩
  case round =>
    obtain ⟨i, b, hi, rfl, rfl, hb, HBI⟩ := hrel
    by_cases hlt : i < k
    · obtain ⟨bt, ot, row, A1, n1, c1, rfl, hbt, hrow, hn1, hcell, hints, hnil⟩ := HT.out.at_ (k := i) (by rw [HL.out]; omega)
      have HI1 := Lib.hid hints
      have HN1 := Lib.hid hn1
      have HRT := Lib.hid (rowT_at hrow)
      have h400 : n1 ≤ 400 := by rw [← hn1]; exact HRL.out row (List.mem_of_getElem? hrow)
      have hit : i < tn := by omega
      clear hints hrow hn1 hnil
      go_wp2
      go_loop [7, 9] (fun s v => ∃ j q : Nat, j ≤ n1 ∧ v = .int .i64 j ∧ s = .int .i64 q ∧ q ≤ 400 * i + j ∧ Hid (q = b + (row.take j).count x)) (fun _ v => n1 - (intOf v).toNat)
      case atStart => exact ⟨0, b, Nat.zero_le _, rfl, rfl, by omega, Lib.hid (by simp)⟩
      case round =>
        obtain ⟨j, q, hj, rfl, rfl, hq, HQ⟩ := hrel
        by_cases hlt2 : j < n1
        · obtain ⟨bk, off, y, rfl, hbk, hxk, hcx⟩ := HI1.out.at_ (k := j) (by rw [HN1.out]; exact hlt2)
          have HCS := Lib.hid (count_take_succ (l := row) (k := j) (by rw [HN1.out]; exact hlt2) x)
          have HYD := Lib.hid (show row.getD j (-1) = y by rw [List.getD_eq_getElem?_getD, hxk]; rfl)
          clear hxk
          by_cases hx : y = x
          · subst hx
            have HQ2 : Hid (q + 1 = b + (row.take (j + 1)).count y) := Lib.hid (by rw [HCS.out, HYD.out, if_pos rfl]; have := HQ.out; omega)
            go_wp2
            go_round
            case rel => exact ⟨j + 1, q + 1, by omega, by go_num, by go_num, by omega, HQ2⟩
            case measure => simp [intOf]; omega
          · have HQ2 : Hid (q = b + (row.take (j + 1)).count x) := Lib.hid (by rw [HCS.out, HYD.out, if_neg hx]; have := HQ.out; omega)
            have hne : (y == x) = false := by simpa using hx
            clear hx
            go_wp2
            go_round
            case rel => exact ⟨j + 1, q, by omega, by go_num, rfl, by omega, HQ2⟩
            case measure => simp [intOf]; omega
        · obtain rfl : j = n1 := by omega
          have HQ2 : Hid (q = ranT t x (i + 1)) := Lib.hid (by
            have h1 := HQ.out
            rw [List.take_of_length_le (by rw [HN1.out]; omega)] at h1
            rw [ranT_step, HRT.out, ← HBI.out]; exact h1)
          go_wp2
          go_round
          case rel => exact ⟨i + 1, q, by omega, by go_num, rfl, by omega, HQ2⟩
          case measure => simp [intOf]; omega
    · obtain rfl : i = k := by omega
      have hrv : r = b := by rw [HR.out, HBI.out]
      subst hrv
      go_wp2
      go_ret
      exact ⟨rfl, rfl⟩
theorem free_next {k : Nat} {x : Int} {e : Int × Int} {i : Nat} (hE : E[i]? = some e) : (∀ e' ∈ E.take (i + 1), e'.2 = x → needT need e'.1 ≤ ranT t e'.1 k) ↔ (∀ e' ∈ E.take i, e'.2 = x → needT need e'.1 ≤ ranT t e'.1 k) ∧ (e.2 = x → needT need e.1 ≤ ranT t e.1 k) := by
  rw [take_snoc' hE]
  constructor
  · intro h
    exact ⟨fun e' he => h e' (List.mem_append_left _ he), h e (by simp)⟩
  · rintro ⟨h1, h2⟩ e' he
    rcases List.mem_append.mp he with he | he
    · exact h1 e' he
    · rw [List.mem_singleton] at he
      rw [he]; exact h2
set_option maxRecDepth 100000 in
set_option maxHeartbeats 8000000 in
theorem rfree_any (x : Int) (k : Nat) (w : World) (h : IsG w A n c F m d W E) (hS : IsS w N nn nc T tn tc need t) (hF : Fits need.length E) (hk : k ≤ tn) :
    Calls Tryd.prog 42 #[.agg #[.slice A n c, .slice F m d], .slice N nn nc, .slice T tn tc, .int .i64 x, .int .i64 k] w fun e w' => e = .returned (.bool (decide (FreeT E need t x k))) ∧ Below w.heap.size w w' := by
  have HS := Lib.hid hS
  have HF := Lib.hid hF
  have HP := Lib.hid h.pairs
  have HM := Lib.hid h.hm
  have hlm := h.lm
  obtain ⟨w0, hw0⟩ : ∃ w0, w0 = w.alloc (.cells #[.slice A n c, .slice F m d] 25) := ⟨_, rfl⟩
  have HW0 := Lib.hid hw0
  have HB0 : Hid (Below w.heap.size w w0) := Lib.hid (by rw [hw0]; exact below_alloc _)
  have HS0 : Hid (w.heap.size < w0.heap.size) := Lib.hid (by rw [hw0]; simp)
  have P1 : Hid (w0.cell? ⟨w.heap.size, 1, none⟩ = some (.slice F m d)) := Lib.hid (by rw [hw0, World.cell?_alloc_at _ _ _ _ rfl]; rfl)
  have CR := Lib.hid (fun (W' : World) (hb : Below w.heap.size w W') (y : Int) => rran_any (tc := tc) y k w.heap.size W' hS.ht hS.lt hS.lr (hS.rows.below hb) hk)
  obtain ⟨r, hr⟩ : ∃ r, r = decide (FreeT E need t x k) := ⟨_, rfl⟩
  rw [← hr]
  have HRR := Lib.hid hr
  clear h hS hF hr hw0
  go_enter Tryd.func42, Tryd.ntmps42
  go_wp2
  have X0 : Hid (Below w.heap.size w (w.alloc (.cells #[.slice A n c, .slice F m d] 25)) ∧ (w.alloc (.cells #[.slice A n c, .slice F m d] 25)).cell? ⟨w.heap.size, 1, none⟩ = some (.slice F m d) ∧ w.heap.size < (w.alloc (.cells #[.slice A n c, .slice F m d] 25)).heap.size) := Lib.hid (by rw [← HW0.out]; exact ⟨HB0.out, P1.out, HS0.out⟩)
  go_loopw [11] (fun v wr => ∃ i : Nat, i ≤ m ∧ v = .int .i64 i ∧ Hid (Below w.heap.size w wr ∧ wr.cell? ⟨w.heap.size, 1, none⟩ = some (.slice F m d) ∧ w.heap.size < wr.heap.size) ∧ Hid (∀ e ∈ E.take i, e.2 = x → needT need e.1 ≤ ranT t e.1 k)) (fun v _ => m - (intOf v).toNat)
  case atStart => exact ⟨0, Nat.zero_le _, rfl, X0, Lib.hid (fun e he => by simp at he)⟩
  case round =>
    obtain ⟨i, hi, rfl, HX, HO⟩ := hrel
    clear X0
    obtain ⟨hbel, hbox, hsz⟩ := HX.out
    have HBEL := Lib.hid hbel
    clear hbel
    by_cases hlt : i < m
    · obtain ⟨bk, o, ⟨ex, ey⟩, rfl, hbg, hek, hc1, hc2⟩ := HP.out.at_ (k := i) (by rw [HM.out]; exact hlt)
      simp only at hc1 hc2
      have hd1 : wr.cell? ⟨bk, o + i * 2, none⟩ = some (.int .i64 ex) := (HBEL.out.cell hbg).trans hc1
      have hd2 : wr.cell? ⟨bk, o + i * 2 + 1, none⟩ = some (.int .i64 ey) := (HBEL.out.cell hbg).trans hc2
      have hbk2 : bk < wr.heap.size := Nat.lt_of_lt_of_le hbg HBEL.out.size
      have HNX := Lib.hid (free_next (need := need) (t := t) (k := k) (x := x) hek)
      have hfit := HF.out _ (List.mem_of_getElem? hek)
      have HEK := Lib.hid (List.mem_of_getElem? hek)
      simp only at hfit
      clear hek hc1 hc2
      by_cases he : ey = x
      · subst he
        obtain ⟨q, rfl⟩ : ∃ q : Nat, ex = (q : Int) := ⟨ex.toNat, by omega⟩
        have hq : q < need.length := by omega
        obtain ⟨bn, on, z, hN, hbn, hzq, hcz⟩ := HS.out.ints.at_ (k := q) hq
        have hdz : wr.cell? ⟨bn, on + q, none⟩ = some (.int .i64 z) := (HBEL.out.cell hbn).trans hcz
        have hbn2 : bn < wr.heap.size := Nat.lt_of_lt_of_le hbn HBEL.out.size
        have HZ := Lib.hid (show needT need (q : Int) = z by rw [needT_nat, List.getD_eq_getElem?_getD, hzq]; rfl)
        have hqn : q < nn := by rw [← HS.out.hn]; exact hq
        subst hN
        have C1 := Lib.hid (CR.out (wr.drewN 1) (below_drewN HBEL.out 1) (q : Int))
        obtain ⟨v, hv⟩ : ∃ v, v = ranT t (q : Int) k := ⟨_, rfl⟩
        have HV := Lib.hid hv
        have CRQ := Lib.hid (fun (W' : World) (hb : Below w.heap.size w W') => CR.out W' hb (q : Int))
        rw [← hv] at CRQ
        clear hv hzq hcz hq hfit C1
        by_cases hz : (v : Int) < z
        · obtain rfl : r = false := by
            rw [HRR.out, decide_eq_false_iff_not]
            intro hall
            have := hall _ HEK.out rfl
            have h1 := HZ.out
            have h2 := HV.out
            simp only at this
            omega
          go_wp2
          go_quiet (first | (go_at_call 40; refine Calls.quiet_of_same (CRQ.out _ (below_drewN HBEL.out _))))
          go_wp2
          go_ret
          exact ⟨rfl, below_drewN HBEL.out _⟩
        · have hzf : decide ((v : Int) < z) = false := decide_eq_false hz
          have HOK : Hid (∀ e ∈ E.take (i + 1), e.2 = ey → needT need e.1 ≤ ranT t e.1 k) := Lib.hid (HNX.out.mpr ⟨HO.out, fun _ => by
            have h1 := HZ.out
            have h2 := HV.out
            simp only
            omega⟩)
          clear hz
          go_wp2
          go_quiet (first | (go_at_call 40; refine Calls.quiet_of_same (CRQ.out _ (below_drewN HBEL.out _))))
          go_wp2
          go_roundw
          case rel => exact ⟨i + 1, by omega, by go_num, Lib.hid ⟨below_drewN HBEL.out _, by simpa using hbox, by simpa using hsz⟩, HOK⟩
          case measure => simp [intOf]; omega
      · have hne : (ey == x) = false := by simpa using he
        have HOK : Hid (∀ e ∈ E.take (i + 1), e.2 = x → needT need e.1 ≤ ranT t e.1 k) := Lib.hid (HNX.out.mpr ⟨HO.out, fun q => absurd q he⟩)
        clear he hfit
        go_wp2
        go_quiet (fail)
        go_wp2
        go_roundw
        case rel => exact ⟨i + 1, by omega, by go_num, Lib.hid ⟨below_drewN HBEL.out _, by simpa using hbox, by simpa using hsz⟩, HOK⟩
        case measure => simp [intOf]; omega
    · obtain rfl : i = m := by omega
      obtain rfl : r = true := by
        rw [HRR.out, decide_eq_true_iff]
        intro e he
        exact HO.out e (by rw [List.take_of_length_le (by rw [HM.out]; omega)]; exact he)
      go_wp2
      go_ret
      exact ⟨rfl, HBEL.out⟩
end
end Go.Proofs.YtpaambpajpmjdaaDoor
set_option linter.unusedVariables false
namespace Go.Proofs.YtpaambpajpmjdaaDoor
open Go.RowKit

section
variable {A : Option Addr} {n c : Nat} {F : Option Addr} {m d : Nat} {W : List Int} {E : List (Int × Int)} {N : Option Addr} {nn nc : Nat} {need : List Int} {T : Option Addr} {tn tc : Nat} {t : List (List Int)}
set_option maxRecDepth 100000 in
set_option maxHeartbeats 4000000 in
theorem rform_any (cores : Int) (w : World) (hn : need.length = nn) (hl : nn ≤ 400) (hW : W.length = n) (hI : Ints w w.heap.size N need) :
    Calls Tryd.prog 29 #[.agg #[.slice A n c, .slice F m d], .slice N nn nc, .int .i64 cores] w fun e w' => e = .returned (.bool (decide (FormOk W need cores))) ∧ Below w.heap.size w w' := by
  have HI := Lib.hid hI
  have HN := Lib.hid hn
  have HF := Lib.hid (form_iff cores hn hW)
  obtain ⟨r, hr⟩ : ∃ r, r = decide (FormOk W need cores) := ⟨_, rfl⟩
  rw [← hr]
  have HR := Lib.hid hr
  obtain ⟨w0, hw0⟩ : ∃ w0, w0 = w.alloc (.cells #[.slice A n c, .slice F m d] 25) := ⟨_, rfl⟩
  have HW0 := Lib.hid hw0
  clear hI hn hW hr hw0
  go_enter Tryd.func29, Tryd.ntmps29
  go_wp2
  go_loopw [7] (fun v wr => ∃ k : Nat, k ≤ nn ∧ v = .int .i64 k ∧ wr = w.alloc (.cells #[.slice A n c, .slice F m d] 25) ∧ Hid (∀ z ∈ need.take k, badN z = false)) (fun v _ => nn - (intOf v).toNat)
  case atStart => exact ⟨0, Nat.zero_le _, rfl, rfl, Lib.hid (fun z hz => by simp at hz)⟩
  case round =>
    obtain ⟨k, hk, rfl, rfl, HO⟩ := hrel
    by_cases hlt : k < nn
    · obtain ⟨bk, off, z, rfl, hbk, hzk, hcz⟩ := HI.out.at_ (k := k) (by rw [HN.out]; exact hlt)
      have HZK := Lib.hid hzk
      have hd : (w.alloc (.cells #[.slice A n c, .slice F m d] 25)).cell? ⟨bk, off + k, none⟩ = some (.int .i64 z) := by rw [World.cell?_alloc_lt _ _ _ hbk]; exact hcz
      clear hzk
      by_cases h1 : z < 1
      · obtain rfl : r = false := by
          rw [HR.out, decide_eq_false_iff_not, HF.out]
          rintro ⟨_, h2, _⟩
          exact h2 ⟨z, List.mem_of_getElem? HZK.out, by simp [badN, h1]⟩
        go_wp2
        go_ret
        exact ⟨rfl, below_alloc _⟩
      · have h1' : decide (z < 1) = false := decide_eq_false h1
        by_cases h2 : 1000 < z
        · obtain rfl : r = false := by
            rw [HR.out, decide_eq_false_iff_not, HF.out]
            rintro ⟨_, h3, _⟩
            exact h3 ⟨z, List.mem_of_getElem? HZK.out, by simp [badN, h2]⟩
          clear h1
          go_wp2
          go_ret
          exact ⟨rfl, below_alloc _⟩
        · have h2' : decide (1000 < z) = false := decide_eq_false h2
          have HO2 : Hid (∀ y ∈ need.take (k + 1), badN y = false) := Lib.hid (fun y hy => by
            rw [take_snoc' HZK.out, List.mem_append, List.mem_singleton] at hy
            rcases hy with hy | rfl
            · exact HO.out y hy
            · simp [badN, h1', h2'])
          clear h1 h2
          go_wp2
          go_roundw
          case rel => exact ⟨k + 1, by omega, by go_num, (by first | trivial | rfl), HO2⟩
          case measure => simp [intOf]; omega
    · obtain rfl : k = nn := by omega
      have HB : Hid (¬ ∃ z ∈ need, badN z = true) := Lib.hid (by
        rintro ⟨z, hz, hb⟩
        rw [HO.out z (by rw [List.take_of_length_le (by rw [HN.out]; omega)]; exact hz)] at hb
        cases hb)
      by_cases h1 : k = n
      · subst h1
        by_cases h2 : 1 ≤ cores
        · obtain rfl : r = decide (cores ≤ 8) := by
            rw [HR.out, Bool.eq_iff_iff, decide_eq_true_iff, decide_eq_true_iff, HF.out]
            exact ⟨fun q => q.2.2.2, fun q => ⟨by first | rfl | trivial, HB.out, h2, q⟩⟩
          go_wp2
          go_ret
          exact ⟨rfl, below_alloc _⟩
        · obtain rfl : r = false := by
            rw [HR.out, decide_eq_false_iff_not, HF.out]
            exact fun q => h2 q.2.2.1
          have h2' : decide (1 ≤ cores) = false := decide_eq_false h2
          clear h2
          go_wp2
          go_ret
          exact ⟨rfl, below_alloc _⟩
      · obtain rfl : r = false := by
          rw [HR.out, decide_eq_false_iff_not, HF.out]
          exact fun q => h1 q.1
        have h1' : ((k : Int) == (n : Int)) = false := by simpa using (fun q : (k : Int) = (n : Int) => h1 (by omega))
        clear h1
        go_wp2
        go_ret
        exact ⟨rfl, below_alloc _⟩
/-- A schedule and needs of these sizes at most. -/
def FewS (need : List Int) (t : List (List Int)) : Prop := need.length ≤ 70 ∧ t.length ≤ 120 ∧ ∀ r ∈ t, r.length ≤ 12
set_option maxRecDepth 100000 in
set_option maxHeartbeats 4000000 in
theorem rfew_any (r : Bool) (hr : r = true ↔ FewS need t) (B : Nat) (w : World) (hn : need.length = nn) (ht : t.length = tn) (kn : nn ≤ 9223372036854775807) (kt : tn ≤ 9223372036854775807) (kr : ∀ r ∈ t, r.length ≤ 9223372036854775807) (hT : Trc w B T t) :
    Calls Tryd.prog 12 #[.slice N nn nc, .slice T tn tc] w fun e w' => e = .returned (.bool r) ∧ w' = w := by
  have HT := Lib.hid hT
  have HN := Lib.hid hn
  have HL := Lib.hid ht
  have HR := Lib.hid hr
  have HK := Lib.hid kr
  clear hT hn ht hr kr
  go_enter Tryd.func12, Tryd.ntmps12
  go_wp2
  go_loop [5] (fun v => ∃ k : Nat, k ≤ tn ∧ k ≤ 121 ∧ v = .int .i64 k ∧ Hid (∀ r ∈ t.take k, r.length ≤ 12)) (fun v => 121 - (intOf v).toNat)
  case atStart => exact ⟨0, Nat.zero_le _, Nat.zero_le _, rfl, Lib.hid (fun z hz => by simp at hz)⟩
  case round =>
    obtain ⟨k, hk, hk2, rfl, HO⟩ := hrel
    by_cases hlt : k < tn
    · by_cases hlt2 : k < 121
      · obtain ⟨bt, ot, row, A1, n1, c1, rfl, hbt, hrow, hn1, hcell, hints, hnil⟩ := HT.out.at_ (k := k) (by rw [HL.out]; exact hlt)
        have HROW := Lib.hid hrow
        have HN1 := Lib.hid hn1
        have hk1 : n1 ≤ 9223372036854775807 := by rw [← hn1]; exact HK.out row (List.mem_of_getElem? hrow)
        clear hrow hn1 hints hnil
        by_cases h12 : 12 < n1
        · obtain rfl : r = false := by
            rw [← Bool.not_eq_true, HR.out]
            intro q
            have := q.2.2 row (List.mem_of_getElem? HROW.out)
            rw [HN1.out] at this
            omega
          go_wp2
          go_ret
          exact ⟨rfl, rfl⟩
        · have HO2 : Hid (∀ r ∈ t.take (k + 1), r.length ≤ 12) := Lib.hid (fun y hy => by
            rw [take_snoc' HROW.out, List.mem_append, List.mem_singleton] at hy
            rcases hy with hy | rfl
            · exact HO.out y hy
            · rw [HN1.out]; omega)
          have h12' : n1 ≤ 12 := by omega
          clear h12
          go_wp2
          go_round
          case rel => exact ⟨k + 1, by omega, by omega, by go_num, HO2⟩
          case measure => simp [intOf]; omega
      · obtain rfl : k = 121 := by omega
        have h120 : ¬ tn ≤ 120 := by omega
        obtain rfl : r = false := by
          rw [← Bool.not_eq_true, HR.out]
          intro q
          have h1 := q.2.1
          rw [HL.out] at h1
          omega
        have h120' : decide (tn ≤ 120) = false := decide_eq_false h120
        have h120i : decide ((tn : Int) ≤ 120) = false := decide_eq_false (by omega)
        by_cases h70 : nn ≤ 70
        · go_wp2
          go_ret
          exact ⟨rfl, rfl⟩
        · have h70i : decide ((nn : Int) ≤ 70) = false := decide_eq_false (by omega)
          have h70' : decide (nn ≤ 70) = false := decide_eq_false h70
          go_wp2
          go_ret
          exact ⟨rfl, rfl⟩
    · obtain rfl : k = tn := by omega
      have HB : Hid (∀ r ∈ t, r.length ≤ 12) := Lib.hid (fun r hr => HO.out r (by rw [List.take_of_length_le (by rw [HL.out]; omega)]; exact hr))
      by_cases h70 : nn ≤ 70
      · by_cases h120 : k ≤ 120
        · obtain rfl : r = true := HR.out.mpr ⟨by rw [HN.out]; exact h70, by rw [HL.out]; exact h120, HB.out⟩
          have h120i : decide ((k : Int) ≤ 120) = true := decide_eq_true (by omega)
          go_wp2
          go_ret
          exact ⟨rfl, rfl⟩
        · obtain rfl : r = false := by
            rw [← Bool.not_eq_true, HR.out]
            intro q
            have h1 := q.2.1
            rw [HL.out] at h1
            omega
          have h120i : decide ((k : Int) ≤ 120) = false := decide_eq_false (by omega)
          have h120' : decide (k ≤ 120) = false := decide_eq_false h120
          go_wp2
          go_ret
          exact ⟨rfl, rfl⟩
      · obtain rfl : r = false := by
          rw [← Bool.not_eq_true, HR.out]
          intro q
          have h1 := q.1
          rw [HN.out] at h1
          omega
        have h70i : decide ((nn : Int) ≤ 70) = false := decide_eq_false (by omega)
        have h70' : decide (nn ≤ 70) = false := decide_eq_false h70
        go_wp2
        go_ret
        exact ⟨rfl, rfl⟩
end
end Go.Proofs.YtpaambpajpmjdaaDoor
