/- The walk of ListOne in the seat YtmmogdccjiagnaaDoor (printed by list/mk_one.py). No statement is proved here. -/
import Derived.Test.YtmmogdccjiagnaaDoorZM22
set_option linter.unusedSimpArgs false
set_option linter.unusedVariables false
set_option linter.unusedSimpArgs false
namespace Go.Proofs.YtmmogdccjiagnaaDoor
open Go Go.RowKit

section
variable {A : Option Addr} {n c : Nat} {F : Option Addr} {m d : Nat} {W : List Int} {E : List (Int × Int)} {N : Option Addr} {nn nc : Nat} {need : List Int}
end
theorem newE_cores {W : List Int} {E : List (Int × Int)} {need : List Int} {k : Int} (h1 : 1 ≤ k) (h8 : k ≤ 8) : newE W E need k = newE W E need 1 := by
  unfold newE
  have h : FormOk W need k ↔ FormOk W need 1 := by
    unfold FormOk
    exact ⟨fun q => ⟨q.1, q.2.1, by decide, by decide⟩, fun q => ⟨q.1, q.2.1, h1, h8⟩⟩
  simp only [h]
theorem run_busy {W : List Int} {E : List (Int × Int)} {need : List Int} {k : Int} (h : newE W E need k = 0) : (busyT (runV W E need k) : Int) = need.sum ∧ ((runV W E need k).length : Int) ≤ need.sum := by
  have q := runV_ok h
  obtain ⟨_, h1, h2, _⟩ := newE_zero.mp h
  exact ⟨q.busy h2 h1, q.len⟩
theorem run_alone {W : List Int} {E : List (Int × Int)} {need : List Int} (h : newE W E need 1 = 0) : ((runV W E need 1).length : Int) = need.sum := by
  have q := runV_ok h
  obtain ⟨_, h1, h2, _⟩ := newE_zero.mp h
  exact RunOk.alone q h2 h1
theorem take_sum_le2 {l : List Int} (h : ∀ z ∈ l, 0 ≤ z) (k : Nat) : 0 ≤ (l.take k).sum ∧ (l.take k).sum ≤ l.sum := by
  induction l generalizing k with
  | nil => simp
  | cons z l ih =>
    have hz := h z List.mem_cons_self
    cases k with
    | zero =>
      have := (ih (fun y hy => h y (List.mem_cons_of_mem _ hy)) l.length)
      rw [List.take_length] at this
      simp only [List.take_zero, List.sum_nil, List.sum_cons]
      omega
    | succ k =>
      have := ih (fun y hy => h y (List.mem_cons_of_mem _ hy)) k
      rw [List.take_succ_cons, List.sum_cons, List.sum_cons]
      omega
theorem take_sum_succ {l : List Int} {k : Nat} {z : Int} (h : l[k]? = some z) : (l.take (k + 1)).sum = (l.take k).sum + z := by
  obtain ⟨hk, rfl⟩ := List.getElem?_eq_some_iff.1 h
  rw [List.take_succ_eq_append_getElem hk, List.sum_append]
  simp
section
variable {A : Option Addr} {n c : Nat} {F : Option Addr} {m d : Nat} {W : List Int} {E : List (Int × Int)} {N : Option Addr} {nn nc : Nat} {need : List Int}
set_option maxRecDepth 100000 in
set_option maxHeartbeats 16000000 in
theorem lone_many (w0 : World) (hT : Tab64 w0) (hg : InG w0 A n c F m d W E) (hs : InNL w0 N nn nc need) (K : ListOk) (h : ¬ ((n ≤ 70 ∧ m ≤ 300) ∧ nn ≤ 70 ∧ litV 300 need = true)) : Calls Tryd.prog 8 #[.agg #[.slice A n c, .slice F m d], .slice N nn nc] w0 fun e w' => e = .returned (.bool true) ∧ Below w0.heap.size w0 w' := by
  have HK := Lib.hid K
  have HTW := Lib.hid (fun W (h : Below w0.heap.size w0 W) => Tab64.via hT h)
  have B0 := Lib.hid (BxB.start (Below.refl w0.heap.size w0) A n c F m d)
  by_cases hd : n ≤ 70 ∧ m ≤ 300
  · have F1 := Lib.hid (fun W => few_yes A F n c m d W hd.1 hd.2)
    by_cases h70 : nn ≤ 70
    · have F3 := Lib.hid (fun W' (hb : Below w0.heap.size w0 W') => little_any (nc := nc) W' hs.hn (by omega : nn ≤ 400) ((hs.ints.below hb).more hb.size))
      obtain hl : litV 300 need = false := by
        cases e : litV 300 need with
        | false => rfl
        | true => exact absurd ⟨hd, h70, e⟩ h
      rw [hl] at F3
      have h70a : decide (70 < nn) = false := decide_eq_false (by omega)
      have h70b : decide ((70 : Int) < (nn : Int)) = false := decide_eq_false (by omega)
      clear hg hs h hd hT hl K
      go_enter Tryd.func8, Tryd.ntmps8
      go_wp2_with fail
      refine (awakeC_any HK.out _ (HTW.out _ B0.out.bel)).mono ?_
      rintro e y1 ⟨rfl, b⟩
      have B1 := Lib.hid (B0.out.next b)
      clear b
      obtain ⟨q0, q1⟩ := B1.out.cells
      go_wp2_with fail
      refine (F1.out _).mono ?_
      rintro e y2 ⟨rfl, b⟩
      have B2 := Lib.hid (B1.out.next b)
      clear b q0 q1
      go_wp2_with fail
      refine (F3.out _ B2.out.bel).mono ?_
      rintro e y2' ⟨rfl, rfl⟩
      go_wp2_with fail
      refine (awakeC_any HK.out _ (HTW.out _ B2.out.bel)).mono ?_
      rintro e y3 ⟨rfl, b⟩
      have B3 := Lib.hid (B2.out.next b)
      clear b
      go_wp2_with fail
      go_ret
      exact ⟨rfl, B3.out.bel⟩
    · have h70a : decide (70 < nn) = true := decide_eq_true (by omega)
      have h70b : decide ((70 : Int) < (nn : Int)) = true := decide_eq_true (by omega)
      have hnn := hs.ln
      clear hg hs h hd hT K
      go_enter Tryd.func8, Tryd.ntmps8
      go_wp2_with fail
      refine (awakeC_any HK.out _ (HTW.out _ B0.out.bel)).mono ?_
      rintro e y1 ⟨rfl, b⟩
      have B1 := Lib.hid (B0.out.next b)
      clear b
      obtain ⟨q0, q1⟩ := B1.out.cells
      go_wp2_with fail
      refine (F1.out _).mono ?_
      rintro e y2 ⟨rfl, b⟩
      have B2 := Lib.hid (B1.out.next b)
      clear b q0 q1
      go_wp2_with fail
      refine (awakeC_any HK.out _ (HTW.out _ B2.out.bel)).mono ?_
      rintro e y3 ⟨rfl, b⟩
      have B3 := Lib.hid (B2.out.next b)
      clear b
      go_wp2_with fail
      go_ret
      exact ⟨rfl, B3.out.bel⟩
  · have F1 := Lib.hid (fun W => few_no A F n c m d W hg.ln hg.lm hd)
    clear hg hs h hd hT K
    go_enter Tryd.func8, Tryd.ntmps8
    go_wp2_with fail
    refine (awakeC_any HK.out _ (HTW.out _ B0.out.bel)).mono ?_
    rintro e y1 ⟨rfl, b⟩
    have B1 := Lib.hid (B0.out.next b)
    clear b
    obtain ⟨q0, q1⟩ := B1.out.cells
    go_wp2_with fail
    refine (F1.out _).mono ?_
    rintro e y2 ⟨rfl, b⟩
    have B2 := Lib.hid (B1.out.next b)
    clear b q0 q1
    go_wp2_with fail
    refine (awakeC_any HK.out _ (HTW.out _ B2.out.bel)).mono ?_
    rintro e y3 ⟨rfl, b⟩
    have B3 := Lib.hid (B2.out.next b)
    clear b
    go_wp2_with fail
    go_ret
    exact ⟨rfl, B3.out.bel⟩

set_option maxRecDepth 100000 in
set_option maxHeartbeats 16000000 in
theorem lone_good_few (w0 : World) (K : ListOk) (hG : IsG w0 A n c F m d W E) (hs : InNL w0 N nn nc need) (l1 : n ≤ 70) (l2 : m ≤ 300) (l3 : nn ≤ 70) (hl : litV 300 need = true) (h0 : newE W E need 1 = 0) : Calls Tryd.prog 8 #[.agg #[.slice A n c, .slice F m d], .slice N nn nc] w0 fun e w' => e = .returned (.bool true) ∧ Below w0.heap.size w0 w' := by
  have HS0 : newE W E need 1 = 0 → need.sum ≤ 300 := new_sum hl
  obtain ⟨r, hr⟩ : ∃ r, r = runV W E need 1 := ⟨_, rfl⟩
  have HR : Hid (r.length ≤ 300 ∧ ∀ x ∈ r, x.length ≤ 400) := Lib.hid (by rw [hr]; exact runV_small HS0)
  have HS := Lib.hid HS0
  obtain ⟨ne, rfl⟩ : ∃ z : Int, z = 0 := ⟨0, rfl⟩
  obtain ⟨sm, hsm⟩ : ∃ z, need.sum = z := ⟨_, rfl⟩
  have hz1 := (newE_zero.mp h0).2.2.1
  have HZ : Hid (∀ z ∈ need, 1 ≤ z ∧ z ≤ 1000) := Lib.hid hz1
  have HSL : Hid (∀ k, 0 ≤ (need.take k).sum ∧ (need.take k).sum ≤ 300) := Lib.hid (fun k => by
    have h1 := take_sum_le2 (fun z hz => by have := (hz1 z hz).1; omega) k
    have h2 := HS0 h0
    omega)
  have hb := run_busy h0
  have ha := run_alone h0
  rw [← hr, hsm] at hb ha
  have HBT := Lib.hid hb.1
  have hsm3 : sm ≤ 300 := by rw [← hsm]; exact HS0 h0
  have HAL : Hid (((r.length : Int)) = sm) := Lib.hid ha
  have HSS := Lib.hid hsm
  have HE := Lib.hid hr
  have HNE := Lib.hid h0
  have HN0 : Hid ((0 : Int) = 0) := Lib.hid rfl
  clear hr HS0 hz1 hb ha hsm h0
  have HK := Lib.hid K
  have HTW := Lib.hid (fun W (h : Below w0.heap.size w0 W) => Tab64.via hG.tab h)
  have HG := Lib.hid (fun W' (h : Below w0.heap.size w0 W') => hG.below h)
  have HI := Lib.hid (fun W' (h : Below w0.heap.size w0 W') => (hs.ints.below h).more h.size)
  have HL := Lib.hid hs.hn
  have HA := Lib.hid hs.hN
  have B0 := Lib.hid (BxB.start (Below.refl w0.heap.size w0) A n c F m d)
  have F1 := Lib.hid (fun W => few_yes A F n c m d W l1 l2)
  have F3 := Lib.hid (fun W' (hb : Below w0.heap.size w0 W') => little_any (nc := nc) W' hs.hn (by omega : nn ≤ 400) ((hs.ints.below hb).more hb.size))
  rw [hl] at F3
  have h70a : decide (70 < nn) = false := decide_eq_false (by omega)
  have h70b : decide ((70 : Int) < (nn : Int)) = false := decide_eq_false (by omega)
  clear hG hs hl K
  go_enter Tryd.func8, Tryd.ntmps8
  go_wp2_with fail
  refine (awakeC_any HK.out _ (HTW.out _ B0.out.bel)).mono ?_
  rintro e y1 ⟨rfl, b⟩
  have B1 := Lib.hid (B0.out.next b)
  clear b
  obtain ⟨q0, q1⟩ := B1.out.cells
  go_wp2_with fail
  refine (F1.out _).mono ?_
  rintro e y2 ⟨rfl, b⟩
  have B2 := Lib.hid (B1.out.next b)
  clear b q0 q1
  go_wp2_with fail
  refine (F3.out _ B2.out.bel).mono ?_
  rintro e y2' ⟨rfl, rfl⟩
  obtain ⟨q0, q1⟩ := B2.out.cells
  go_wp2_with fail
  refine (own_g10 (HG.out _ B2.out.bel)).mono ?_
  rintro e y3 ⟨A1, c1, F1, d1, rfl, hg1, b7b⟩
  have B3 := Lib.hid (B2.out.next b7b)
  have HG1 := Lib.hid hg1
  clear hg1 q0 q1
  go_wp2_with (at_builtin; refine wpList_copiedO rfl _ _ rfl y3 N nc nn need HL.out (by omega) (HI.out _ B3.out.bel) HA.out rfl rfl ?_; intro A2 c2 y4 hi4 hn4 hb4; (have HI2 := Lib.hid (And.intro hi4 hn4)); (have HB4 := Lib.hid hb4); clear hi4 hn4 hb4)
  refine (HK.out.run (W := W) (E := E) (need := need) 1 y4 (by decide) (by decide) (HG1.out.below HB4.out) HL.out (by omega) HI2.out.1 HI2.out.2 HS.out).mono ?_
  rintro e y5 ⟨v, he, hg5, b⟩
  obtain ⟨T5, tc5, rfl, ht5, hN5⟩ := hg5
  rw [HNE.out] at he
  rw [← HE.out] at he ht5 hN5
  subst he
  have B5a := Lib.hid ((B3.out.next HB4.out).next b)
  clear b HG1 HI2 HB4 B3 b7b
  obtain ⟨tn, htn⟩ : ∃ k, r.length = k := ⟨_, rfl⟩
  rw [htn] at hN5 ⊢
  have ht3 : tn ≤ 300 := by have := HR.out.1; omega
  have HTN := Lib.hid htn
  have B5 : Hid (BxT w0 A n c F m d T5 tn tc5 r y5) := Lib.hid ⟨B5a.out, ht5, htn, ht3, HR.out.2, hN5⟩
  rw [htn] at HAL
  clear ht5 hN5 htn B5a
  go_wp2
  go_loopw [7, 8] (fun sv v wr => ∃ (k : Nat) (s : Int), k ≤ nn ∧ v = .int .i64 k ∧ sv = .int .i64 s ∧ (0 ≤ s ∧ s ≤ 300 ∧ Hid ((need.take k).sum = s)) ∧ y5 = wr) (fun _ v _ => nn - (intOf v).toNat)
  case atStart => exact ⟨0, 0, Nat.zero_le _, rfl, rfl, ⟨by decide, by decide, Lib.hid (by simp)⟩, rfl⟩
  case round =>
    obtain ⟨k, s, hk, rfl, rfl, ⟨hs0, hs1, HSM⟩, rfl⟩ := hrel
    by_cases hlt : k < nn
    · obtain ⟨bz, oz, z, hAz, hbz, hzz, hcz⟩ := (HI.out _ B5.out.bel).at_ (k := k) (by rw [HL.out]; exact hlt)
      subst hAz
      have hzr := HZ.out z (List.mem_of_getElem? hzz)
      have hsm := take_sum_succ hzz
      rw [HSM.out] at hsm
      have hst := HSL.out (k + 1)
      rw [hsm] at hst
      have HSM2 := Lib.hid hsm
      clear hzz hbz hsm HSM
      go_wp2
      go_roundw
      case rel => exact ⟨k + 1, s + z, by omega, by go_num, by go_num, ⟨by omega, by omega, HSM2⟩, (by first | trivial | rfl)⟩
      case measure => simp [intOf]; omega
    · obtain rfl : nn = k := by omega
      obtain rfl : sm = s := by
        rw [← HSM.out, List.take_of_length_le (by rw [HL.out]; exact Nat.le_refl _), HSS.out]
      clear HSM
      go_wp2
      go_loopw [9] (fun v wr => ∃ k : Nat, 2 ≤ k ∧ k ≤ 9 ∧ v = .int .i64 k ∧ Hid (BxT w0 A n c F m d T5 tn tc5 r wr)) (fun v _ => 9 - (intOf v).toNat)
      case atStart => exact ⟨2, by decide, by decide, rfl, B5⟩
      case round =>
        obtain ⟨k, hk2, hk9, rfl, BL⟩ := hrel
        by_cases hlt : k ≤ 8
        · have hka : decide ((k : Int) ≤ 8) = true := decide_eq_true (by omega)
          have HNK : Hid (newE W E need (k : Int) = 0) := Lib.hid (by rw [newE_cores (by omega) (by omega), HNE.out])
          have HSK : Hid (newE W E need (k : Int) = 0 → need.sum ≤ 300) := Lib.hid (fun h => HS.out (by first | exact HNE.out | (rw [HNE.out, ← HNK.out]; exact h)))
          obtain ⟨u, hu⟩ : ∃ u, u = runV W E need (k : Int) := ⟨_, rfl⟩
          have HRU : Hid (u.length ≤ 300 ∧ ∀ x ∈ u, x.length ≤ 400) := Lib.hid (by rw [hu]; exact runV_small HSK.out)
          have hub := run_busy (W := W) (E := E) (need := need) (k := (k : Int)) HNK.out
          rw [← hu, HSS.out] at hub
          have HUB := Lib.hid hub.1
          have hul := hub.2
          clear hub
          have HU := Lib.hid hu
          obtain ⟨q0, q1⟩ := BL.out.cells
          go_wp2_with fail
          refine (own_g10 (HG.out _ BL.out.bel)).mono ?_
          rintro e y6 ⟨A1, c1, F1, d1, rfl, hg1, b7b⟩
          have B6 := Lib.hid (BL.out.next b7b)
          have HG6 := Lib.hid hg1
          clear hg1 q0 q1
          go_wp2_with (at_builtin; refine wpList_copiedO rfl _ _ rfl y6 N nc nn need HL.out (by omega) (HI.out _ B6.out.bel) HA.out rfl rfl ?_; intro A2 c2 y7 hi4 hn4 hb4; (have HI7 := Lib.hid (And.intro hi4 hn4)); (have HB4 := Lib.hid hb4); clear hi4 hn4 hb4)
          have B7 := Lib.hid (B6.out.next HB4.out)
          refine (HK.out.run (W := W) (E := E) (need := need) (k : Int) y7 (by omega) (by omega) (HG6.out.below HB4.out) HL.out (by omega) HI7.out.1 HI7.out.2 HSK.out).mono ?_
          rintro e y8 ⟨v, he, hg8, b⟩
          obtain ⟨T8, tc8, rfl, ht8, hN8⟩ := hg8
          rw [HNK.out] at he
          rw [← HU.out] at he ht8 hN8
          subst he
          have B8 := Lib.hid (B7.out.next b)
          clear b HG6 HI7 HB4 B6 B7 b7b HSK
          obtain ⟨un, hun⟩ : ∃ k, u.length = k := ⟨_, rfl⟩
          rw [hun] at hN8 ⊢
          have hun3 : un ≤ 300 := by have := HRU.out.1; omega
          have HUN := Lib.hid hun
          have HT8 := Lib.hid ht8
          have hee : ((0 : Int) != 0) = false := by decide
          rw [hun] at hul
          have hgt : decide (sm < (un : Int)) = false := decide_eq_false (by omega)
          clear ht8 hN8 hun hu
          go_wp2_with fail
          refine (busy_any _ HUN.out (by omega) HRU.out.2 HT8.out).mono ?_
          rintro e y9 ⟨rfl, rfl⟩
          rw [HUB.out]
          go_wp2_with fail
          refine (busy_any _ HTN.out (by omega) HR.out.2 B8.out.t).mono ?_
          rintro e y10 ⟨rfl, rfl⟩
          rw [HBT.out]
          have hss : (sm != sm) = false := by simp
          go_wp2
          go_roundw
          case rel => exact ⟨k + 1, by omega, by omega, by go_num, B8⟩
          case measure => simp [intOf]; omega
        · have hka : decide ((k : Int) ≤ 8) = false := decide_eq_false (by omega)
          have hta : ((tn : Int) == sm) = true := by have := HAL.out; simp; omega
          have hsa : (sm == sm) = true := by simp
          have hz0 : ((0 : Int) != 0) = false := by decide
          go_wp2_with fail
          refine (busy_any _ HTN.out (by omega) HR.out.2 BL.out.t).mono ?_
          rintro e y10 ⟨rfl, rfl⟩
          rw [HBT.out]
          go_wp2
          go_ret
          exact ⟨rfl, BL.out.bel⟩

set_option maxRecDepth 100000 in
set_option maxHeartbeats 16000000 in
theorem lone_bad_few (w0 : World) (K : ListOk) (hG : IsG w0 A n c F m d W E) (hs : InNL w0 N nn nc need) (l1 : n ≤ 70) (l2 : m ≤ 300) (l3 : nn ≤ 70) (hl : litV 300 need = true) (h0 : ¬ newE W E need 1 = 0) : Calls Tryd.prog 8 #[.agg #[.slice A n c, .slice F m d], .slice N nn nc] w0 fun e w' => e = .returned (.bool true) ∧ Below w0.heap.size w0 w' := by
  have HS0 : newE W E need 1 = 0 → need.sum ≤ 300 := new_sum hl
  obtain ⟨r, hr⟩ : ∃ r, r = runV W E need 1 := ⟨_, rfl⟩
  have HR : Hid (r.length ≤ 300 ∧ ∀ x ∈ r, x.length ≤ 400) := Lib.hid (by rw [hr]; exact runV_small HS0)
  have HS := Lib.hid HS0
  obtain ⟨ne, hne⟩ : ∃ z, newE W E need 1 = z := ⟨_, rfl⟩
  have HR0 : Hid (r = []) := Lib.hid (by rw [hr]; unfold runV; rw [if_neg h0])
  rw [hne] at h0
  have HN0 := Lib.hid h0
  have HNE := Lib.hid hne
  have HE := Lib.hid hr
  clear hr hne HS0 h0
  have HK := Lib.hid K
  have HTW := Lib.hid (fun W (h : Below w0.heap.size w0 W) => Tab64.via hG.tab h)
  have HG := Lib.hid (fun W' (h : Below w0.heap.size w0 W') => hG.below h)
  have HI := Lib.hid (fun W' (h : Below w0.heap.size w0 W') => (hs.ints.below h).more h.size)
  have HL := Lib.hid hs.hn
  have HA := Lib.hid hs.hN
  have B0 := Lib.hid (BxB.start (Below.refl w0.heap.size w0) A n c F m d)
  have F1 := Lib.hid (fun W => few_yes A F n c m d W l1 l2)
  have F3 := Lib.hid (fun W' (hb : Below w0.heap.size w0 W') => little_any (nc := nc) W' hs.hn (by omega : nn ≤ 400) ((hs.ints.below hb).more hb.size))
  rw [hl] at F3
  have h70a : decide (70 < nn) = false := decide_eq_false (by omega)
  have h70b : decide ((70 : Int) < (nn : Int)) = false := decide_eq_false (by omega)
  clear hG hs hl K
  go_enter Tryd.func8, Tryd.ntmps8
  go_wp2_with fail
  refine (awakeC_any HK.out _ (HTW.out _ B0.out.bel)).mono ?_
  rintro e y1 ⟨rfl, b⟩
  have B1 := Lib.hid (B0.out.next b)
  clear b
  obtain ⟨q0, q1⟩ := B1.out.cells
  go_wp2_with fail
  refine (F1.out _).mono ?_
  rintro e y2 ⟨rfl, b⟩
  have B2 := Lib.hid (B1.out.next b)
  clear b q0 q1
  go_wp2_with fail
  refine (F3.out _ B2.out.bel).mono ?_
  rintro e y2' ⟨rfl, rfl⟩
  obtain ⟨q0, q1⟩ := B2.out.cells
  go_wp2_with fail
  refine (own_g10 (HG.out _ B2.out.bel)).mono ?_
  rintro e y3 ⟨A1, c1, F1, d1, rfl, hg1, b7b⟩
  have B3 := Lib.hid (B2.out.next b7b)
  have HG1 := Lib.hid hg1
  clear hg1 q0 q1
  go_wp2_with (at_builtin; refine wpList_copiedO rfl _ _ rfl y3 N nc nn need HL.out (by omega) (HI.out _ B3.out.bel) HA.out rfl rfl ?_; intro A2 c2 y4 hi4 hn4 hb4; (have HI2 := Lib.hid (And.intro hi4 hn4)); (have HB4 := Lib.hid hb4); clear hi4 hn4 hb4)
  refine (HK.out.run (W := W) (E := E) (need := need) 1 y4 (by decide) (by decide) (HG1.out.below HB4.out) HL.out (by omega) HI2.out.1 HI2.out.2 HS.out).mono ?_
  rintro e y5 ⟨v, he, hg5, b⟩
  obtain ⟨T5, tc5, rfl, ht5, hN5⟩ := hg5
  rw [HNE.out] at he
  rw [← HE.out] at he ht5 hN5
  subst he
  have B5a := Lib.hid ((B3.out.next HB4.out).next b)
  clear b HG1 HI2 HB4 B3 b7b
  obtain ⟨tn, htn⟩ : ∃ k, r.length = k := ⟨_, rfl⟩
  rw [htn] at hN5 ⊢
  have ht3 : tn ≤ 300 := by have := HR.out.1; omega
  have HTN := Lib.hid htn
  have B5 : Hid (BxT w0 A n c F m d T5 tn tc5 r y5) := Lib.hid ⟨B5a.out, ht5, htn, ht3, HR.out.2, hN5⟩
  clear ht5 hN5 htn B5a
  go_wp2
  go_loopw [7, 8] (fun sv v wr => ∃ (k : Nat) (s : Int), k ≤ nn ∧ v = .int .i64 k ∧ sv = .int .i64 s ∧ (True) ∧ y5 = wr) (fun _ v _ => nn - (intOf v).toNat)
  case atStart => exact ⟨0, 0, Nat.zero_le _, rfl, rfl, trivial, rfl⟩
  case round =>
    obtain ⟨k, s, hk, rfl, rfl, -, rfl⟩ := hrel
    by_cases hlt : k < nn
    · obtain ⟨bz, oz, z, hAz, hbz, hzz, hcz⟩ := (HI.out _ B5.out.bel).at_ (k := k) (by rw [HL.out]; exact hlt)
      subst hAz
      clear hzz hbz
      go_wp2
      go_roundw
      case rel => exact ⟨k + 1, _, by omega, by go_num, (by first | rfl | trivial), trivial, (by first | trivial | rfl)⟩
      case measure => simp [intOf]; omega
    · obtain rfl : nn = k := by omega
      go_wp2
      go_loopw [9] (fun v wr => ∃ k : Nat, 2 ≤ k ∧ k ≤ 9 ∧ v = .int .i64 k ∧ Hid (BxT w0 A n c F m d T5 tn tc5 r wr)) (fun v _ => 9 - (intOf v).toNat)
      case atStart => exact ⟨2, by decide, by decide, rfl, B5⟩
      case round =>
        obtain ⟨k, hk2, hk9, rfl, BL⟩ := hrel
        by_cases hlt : k ≤ 8
        · have hka : decide ((k : Int) ≤ 8) = true := decide_eq_true (by omega)
          have HNK : Hid (newE W E need (k : Int) = ne) := Lib.hid (by rw [newE_cores (by omega) (by omega), HNE.out])
          have HSK : Hid (newE W E need (k : Int) = 0 → need.sum ≤ 300) := Lib.hid (fun h => HS.out (by first | exact HNE.out | (rw [HNE.out, ← HNK.out]; exact h)))
          obtain ⟨u, hu⟩ : ∃ u, u = runV W E need (k : Int) := ⟨_, rfl⟩
          have HRU : Hid (u.length ≤ 300 ∧ ∀ x ∈ u, x.length ≤ 400) := Lib.hid (by rw [hu]; exact runV_small HSK.out)
          have hu0 : u = [] := by rw [hu]; unfold runV; rw [if_neg (by rw [HNK.out]; exact HN0.out)]
          have HU := Lib.hid hu
          obtain ⟨q0, q1⟩ := BL.out.cells
          go_wp2_with fail
          refine (own_g10 (HG.out _ BL.out.bel)).mono ?_
          rintro e y6 ⟨A1, c1, F1, d1, rfl, hg1, b7b⟩
          have B6 := Lib.hid (BL.out.next b7b)
          have HG6 := Lib.hid hg1
          clear hg1 q0 q1
          go_wp2_with (at_builtin; refine wpList_copiedO rfl _ _ rfl y6 N nc nn need HL.out (by omega) (HI.out _ B6.out.bel) HA.out rfl rfl ?_; intro A2 c2 y7 hi4 hn4 hb4; (have HI7 := Lib.hid (And.intro hi4 hn4)); (have HB4 := Lib.hid hb4); clear hi4 hn4 hb4)
          have B7 := Lib.hid (B6.out.next HB4.out)
          refine (HK.out.run (W := W) (E := E) (need := need) (k : Int) y7 (by omega) (by omega) (HG6.out.below HB4.out) HL.out (by omega) HI7.out.1 HI7.out.2 HSK.out).mono ?_
          rintro e y8 ⟨v, he, hg8, b⟩
          obtain ⟨T8, tc8, rfl, ht8, hN8⟩ := hg8
          rw [HNK.out] at he
          rw [← HU.out] at he ht8 hN8
          subst he
          have B8 := Lib.hid (B7.out.next b)
          clear b HG6 HI7 HB4 B6 B7 b7b HSK
          obtain ⟨un, hun⟩ : ∃ k, u.length = k := ⟨_, rfl⟩
          rw [hun] at hN8 ⊢
          have hun3 : un ≤ 300 := by have := HRU.out.1; omega
          have HUN := Lib.hid hun
          have HT8 := Lib.hid ht8
          have hee : (ne != ne) = false := by simp
          have hne0 : (ne == 0) = false := by simpa using HN0.out
          clear ht8 hN8 hun hu
          by_cases hgt0 : s < (un : Int)
          · have hgt : decide (s < (un : Int)) = true := decide_eq_true hgt0
            go_wp2_with fail
            refine (busy_any _ HUN.out (by omega) HRU.out.2 HT8.out).mono ?_
            rintro e y9 ⟨rfl, rfl⟩
            rw [hu0]
            go_wp2_with fail
            refine (busy_any _ HTN.out (by omega) HR.out.2 B8.out.t).mono ?_
            rintro e y10 ⟨rfl, rfl⟩
            rw [HR0.out]
            have hss : ((busyT [] : Int) != (busyT [] : Int)) = false := by simp
            go_wp2
            go_roundw
            case rel => exact ⟨k + 1, by omega, by omega, by go_num, B8⟩
            case measure => simp [intOf]; omega
          · have hgt : decide (s < (un : Int)) = false := decide_eq_false hgt0
            go_wp2_with fail
            refine (busy_any _ HUN.out (by omega) HRU.out.2 HT8.out).mono ?_
            rintro e y9 ⟨rfl, rfl⟩
            rw [hu0]
            go_wp2_with fail
            refine (busy_any _ HTN.out (by omega) HR.out.2 B8.out.t).mono ?_
            rintro e y10 ⟨rfl, rfl⟩
            rw [HR0.out]
            have hss : ((busyT [] : Int) != (busyT [] : Int)) = false := by simp
            go_wp2
            go_roundw
            case rel => exact ⟨k + 1, by omega, by omega, by go_num, B8⟩
            case measure => simp [intOf]; omega
        · have hka : decide ((k : Int) ≤ 8) = false := decide_eq_false (by omega)
          have hnz : (ne != 0) = true := bne_iff_ne.mpr HN0.out
          go_wp2
          go_ret
          exact ⟨rfl, BL.out.bel⟩

theorem walk_ListOne (K : ListOk) (w0 : World) (hT : Tab64 w0) (hg : InG w0 A n c F m d W E) (hs : InNL w0 N nn nc need) : Calls Tryd.prog 8 #[.agg #[.slice A n c, .slice F m d], .slice N nn nc] w0 fun e w' => e = .returned (.bool true) ∧ Below w0.heap.size w0 w' := by
  by_cases h : (n ≤ 70 ∧ m ≤ 300) ∧ nn ≤ 70 ∧ litV 300 need = true
  · by_cases h0 : newE W E need 1 = 0
    · exact lone_good_few w0 K (hg.isG hT h.1.1 h.1.2) hs h.1.1 h.1.2 h.2.1 h.2.2 h0
    · exact lone_bad_few w0 K (hg.isG hT h.1.1 h.1.2) hs h.1.1 h.1.2 h.2.1 h.2.2 h0
  · exact lone_many w0 hT hg hs K h
end
end Go.Proofs.YtmmogdccjiagnaaDoor
