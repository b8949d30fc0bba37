/- The walk of ListRuns in the seat YtmmogdccjiagnaaDoor (printed by list/mk_runs.py). No statement is proved here. -/
import Derived.Test.YtmmogdccjiagnaaDoorZM22
import Derived.Test.YtmmogdccjiagnaaDoorZM20
set_option linter.unusedSimpArgs false
set_option linter.unusedVariables false
set_option linter.unusedSimpArgs false
namespace Go.Proofs.YtmmogdccjiagnaaDoor
open Go Go.RowKit

section
variable {A : Option Addr} {n c : Nat} {F : Option Addr} {m d : Nat} {W : List Int} {E : List (Int × Int)} {N : Option Addr} {nn nc : Nat} {need : List Int}
set_option maxRecDepth 100000 in
set_option maxHeartbeats 16000000 in
theorem runs_many (w0 : World) (cores : Int) (hT : Tab64 w0) (hg : InG w0 A n c F m d W E) (hs : InNL w0 N nn nc need) (K : ListOk) (h : ¬ ((n ≤ 70 ∧ m ≤ 300) ∧ nn ≤ 70 ∧ litV 300 need = true)) : Calls Tryd.prog 4 #[.agg #[.slice A n c, .slice F m d], .slice N nn nc, .int .i64 cores] w0 fun e w' => e = .returned (.bool true) ∧ Below w0.heap.size w0 w' := by
  have HK := Lib.hid K
  have HTW := Lib.hid (fun W (h : Below w0.heap.size w0 W) => Tab64.via hT h)
  have B0 := Lib.hid (BxB.start (Below.refl w0.heap.size w0) A n c F m d)
  by_cases hd : n ≤ 70 ∧ m ≤ 300
  · have F1 := Lib.hid (fun W => few_yes A F n c m d W hd.1 hd.2)
    by_cases h70 : nn ≤ 70
    · have F3 := Lib.hid (fun W' (hb : Below w0.heap.size w0 W') => little_any (nc := nc) W' hs.hn (by omega : nn ≤ 400) ((hs.ints.below hb).more hb.size))
      obtain hl : litV 300 need = false := by
        cases e : litV 300 need with
        | false => rfl
        | true => exact absurd ⟨hd, h70, e⟩ h
      rw [hl] at F3
      have h70a : decide (70 < nn) = false := decide_eq_false (by omega)
      have h70b : decide ((70 : Int) < (nn : Int)) = false := decide_eq_false (by omega)
      clear hg hs h hd hT hl K
      go_enter Tryd.func4, Tryd.ntmps4
      go_wp2_with fail
      refine (awakeC_any HK.out _ (HTW.out _ B0.out.bel)).mono ?_
      rintro e y1 ⟨rfl, b⟩
      have B1 := Lib.hid (B0.out.next b)
      clear b
      obtain ⟨q0, q1⟩ := B1.out.cells
      go_wp2_with fail
      refine (F1.out _).mono ?_
      rintro e y2 ⟨rfl, b⟩
      have B2 := Lib.hid (B1.out.next b)
      clear b q0 q1
      go_wp2_with fail
      refine (F3.out _ B2.out.bel).mono ?_
      rintro e y2' ⟨rfl, rfl⟩
      go_wp2_with fail
      refine (awakeC_any HK.out _ (HTW.out _ B2.out.bel)).mono ?_
      rintro e y3 ⟨rfl, b⟩
      have B3 := Lib.hid (B2.out.next b)
      clear b
      go_wp2_with fail
      go_ret
      exact ⟨rfl, B3.out.bel⟩
    · have h70a : decide (70 < nn) = true := decide_eq_true (by omega)
      have h70b : decide ((70 : Int) < (nn : Int)) = true := decide_eq_true (by omega)
      have hnn := hs.ln
      clear hg hs h hd hT K
      go_enter Tryd.func4, Tryd.ntmps4
      go_wp2_with fail
      refine (awakeC_any HK.out _ (HTW.out _ B0.out.bel)).mono ?_
      rintro e y1 ⟨rfl, b⟩
      have B1 := Lib.hid (B0.out.next b)
      clear b
      obtain ⟨q0, q1⟩ := B1.out.cells
      go_wp2_with fail
      refine (F1.out _).mono ?_
      rintro e y2 ⟨rfl, b⟩
      have B2 := Lib.hid (B1.out.next b)
      clear b q0 q1
      go_wp2_with fail
      refine (awakeC_any HK.out _ (HTW.out _ B2.out.bel)).mono ?_
      rintro e y3 ⟨rfl, b⟩
      have B3 := Lib.hid (B2.out.next b)
      clear b
      go_wp2_with fail
      go_ret
      exact ⟨rfl, B3.out.bel⟩
  · have F1 := Lib.hid (fun W => few_no A F n c m d W hg.ln hg.lm hd)
    clear hg hs h hd hT K
    go_enter Tryd.func4, Tryd.ntmps4
    go_wp2_with fail
    refine (awakeC_any HK.out _ (HTW.out _ B0.out.bel)).mono ?_
    rintro e y1 ⟨rfl, b⟩
    have B1 := Lib.hid (B0.out.next b)
    clear b
    obtain ⟨q0, q1⟩ := B1.out.cells
    go_wp2_with fail
    refine (F1.out _).mono ?_
    rintro e y2 ⟨rfl, b⟩
    have B2 := Lib.hid (B1.out.next b)
    clear b q0 q1
    go_wp2_with fail
    refine (awakeC_any HK.out _ (HTW.out _ B2.out.bel)).mono ?_
    rintro e y3 ⟨rfl, b⟩
    have B3 := Lib.hid (B2.out.next b)
    clear b
    go_wp2_with fail
    go_ret
    exact ⟨rfl, B3.out.bel⟩

set_option maxRecDepth 100000 in
set_option maxHeartbeats 16000000 in
theorem runs_few (w0 : World) (cores : Int) (hc : -9223372036854775808 ≤ cores ∧ cores ≤ 9223372036854775807) (K : ListOk) (hG : IsG w0 A n c F m d W E) (hs : InNL w0 N nn nc need) (l1 : n ≤ 70) (l2 : m ≤ 300) (l3 : nn ≤ 70) (hl : litV 300 need = true) : Calls Tryd.prog 4 #[.agg #[.slice A n c, .slice F m d], .slice N nn nc, .int .i64 cores] w0 fun e w' => e = .returned (.bool true) ∧ Below w0.heap.size w0 w' := by
  have HC := Lib.hid hc
  have HS0 : newE W E need cores = 0 → need.sum ≤ 300 := new_sum hl
  obtain ⟨r, hr⟩ : ∃ r, r = runV W E need cores := ⟨_, rfl⟩
  obtain ⟨ne, hne⟩ : ∃ z, z = newE W E need cores := ⟨_, rfl⟩
  have HR : Hid (r.length ≤ 300 ∧ ∀ x ∈ r, x.length ≤ 400) := Lib.hid (by rw [hr]; exact runV_small HS0)
  have HS := Lib.hid HS0
  have HE : Hid (ne = newE W E need cores ∧ r = runV W E need cores ∧ True) := Lib.hid ⟨hne, hr, trivial⟩
  clear hr hne HS0 hc
  have HK := Lib.hid K
  have HTW := Lib.hid (fun W (h : Below w0.heap.size w0 W) => Tab64.via hG.tab h)
  have HG := Lib.hid (fun W' (h : Below w0.heap.size w0 W') => hG.below h)
  have HI := Lib.hid (fun W' (h : Below w0.heap.size w0 W') => (hs.ints.below h).more h.size)
  have HL := Lib.hid hs.hn
  have HA := Lib.hid hs.hN
  have B0 := Lib.hid (BxB.start (Below.refl w0.heap.size w0) A n c F m d)
  have F1 := Lib.hid (fun W => few_yes A F n c m d W l1 l2)
  have F3 := Lib.hid (fun W' (hb : Below w0.heap.size w0 W') => little_any (nc := nc) W' hs.hn (by omega : nn ≤ 400) ((hs.ints.below hb).more hb.size))
  rw [hl] at F3
  have h70a : decide (70 < nn) = false := decide_eq_false (by omega)
  have h70b : decide ((70 : Int) < (nn : Int)) = false := decide_eq_false (by omega)
  clear hG hs hl K
  go_enter Tryd.func4, Tryd.ntmps4
  go_wp2_with fail
  refine (awakeC_any HK.out _ (HTW.out _ B0.out.bel)).mono ?_
  rintro e y1 ⟨rfl, b⟩
  have B1 := Lib.hid (B0.out.next b)
  clear b
  obtain ⟨q0, q1⟩ := B1.out.cells
  go_wp2_with fail
  refine (F1.out _).mono ?_
  rintro e y2 ⟨rfl, b⟩
  have B2 := Lib.hid (B1.out.next b)
  clear b q0 q1
  go_wp2_with fail
  refine (F3.out _ B2.out.bel).mono ?_
  rintro e y2' ⟨rfl, rfl⟩
  obtain ⟨q0, q1⟩ := B2.out.cells
  go_wp2_with fail
  refine (own_g10 (HG.out _ B2.out.bel)).mono ?_
  rintro e y3 ⟨A1, c1, F1, d1, rfl, hg1, b7b⟩
  have B3 := Lib.hid (B2.out.next b7b)
  have HG1 := Lib.hid hg1
  clear hg1 q0 q1
  go_wp2_with (at_builtin; refine wpList_copiedO rfl _ _ rfl y3 N nc nn need HL.out (by omega) (HI.out _ B3.out.bel) HA.out rfl rfl ?_; intro A2 c2 y4 hi4 hn4 hb4; (have HI2 := Lib.hid (And.intro hi4 hn4)); (have HB4 := Lib.hid hb4); clear hi4 hn4 hb4)
  refine (HK.out.run (W := W) (E := E) (need := need) cores y4 HC.out.1 HC.out.2 (HG1.out.below HB4.out) HL.out (by omega) HI2.out.1 HI2.out.2 HS.out).mono ?_
  rintro e y5 ⟨v, he, hg5, b⟩
  obtain ⟨T5, tc5, rfl, ht5, _⟩ := hg5
  rw [← HE.out.1] at he
  rw [← HE.out.2.1] at he ht5
  subst he
  have B5 := Lib.hid ((B3.out.next HB4.out).next b)
  have HT5 := Lib.hid ht5
  clear b ht5 HG1 HI2 HB4 B3
  obtain ⟨q0, q1⟩ := B5.out.cells
  go_wp2_with fail
  refine (rrunC_any (W := W) (E := E) (need := need) cores y5 (HG.out _ B5.out.bel) HL.out (by omega) (HI.out _ B5.out.bel) HA.out HS.out).mono ?_
  rintro e y6 ⟨T6, tc6, he, ht6, _, b⟩
  rw [← HE.out.1, ← HE.out.2.1] at he
  rw [← HE.out.2.1] at ht6
  subst he
  have B6 := Lib.hid (B5.out.next b)
  have HT6 : Hid (Trc y6 y6.heap.size T5 r ∧ Trc y6 y6.heap.size T6 r) := Lib.hid ⟨(HT5.out.below b).more b.size, ht6⟩
  clear b ht6 q0 q1 HT5 B5
  obtain ⟨q0, q1⟩ := B6.out.cells
  go_wp2_with fail
  refine (own_g10 (HG.out _ B6.out.bel)).mono ?_
  rintro e y7 ⟨A1, c1, F1, d1, rfl, hg1, b7b⟩
  have B7 := Lib.hid (B6.out.next b7b)
  have HG1 := Lib.hid hg1
  clear hg1 q0 q1
  go_wp2_with (at_builtin; refine wpList_copiedO rfl _ _ rfl y7 N nc nn need HL.out (by omega) (HI.out _ B7.out.bel) HA.out rfl rfl ?_; intro A2 c2 y8 hi4 hn4 hb4; (have HI2 := Lib.hid (And.intro hi4 hn4)); (have HB4 := Lib.hid hb4); clear hi4 hn4 hb4)
  refine (HK.out.new (W := W) (E := E) (need := need) cores y8 HC.out.1 HC.out.2 (HG1.out.below HB4.out) HL.out (by omega) HI2.out.1 HI2.out.2).mono ?_
  rintro e y9 ⟨v, he, hg9, b⟩
  obtain ⟨A9, n9, c9, F9, m9, d9, rfl, hc9⟩ := hg9
  rw [← HE.out.1] at he
  subst he
  have B9 := Lib.hid ((B7.out.next HB4.out).next b)
  have hb9 := ((b7b.trans (HB4.out.mono b7b.size)).trans (b.mono (b7b.trans (HB4.out.mono b7b.size)).size))
  have HT9 : Hid (Trc y9 y9.heap.size T5 r ∧ Trc y9 y9.heap.size T6 r) := Lib.hid ⟨(HT6.out.1.below hb9).more hb9.size, (HT6.out.2.below hb9).more hb9.size⟩
  have HC9 := Lib.hid hc9
  clear b hc9 HG1 HI2 HB4 B7 hb9 b7b HT6 B6
  obtain ⟨q0, q1⟩ := B9.out.cells
  obtain ⟨gx, hgx⟩ : ∃ g, g = y9.heap.size := ⟨_, rfl⟩
  obtain ⟨ya, hya⟩ : ∃ w3, w3 = y9.alloc (.cells #[.slice A9 n9 c9, .slice F9 m9 d9] 27) := ⟨_, rfl⟩
  have hba := below_alloc (w := y9) (.cells #[.slice A9 n9 c9, .slice F9 m9 d9] 27)
  have hna := heap_alloc_new y9 (.cells #[.slice A9 n9 c9, .slice F9 m9 d9] 27)
  rw [← hya] at hba hna
  rw [← hgx] at hna
  have BA := Lib.hid (B9.out.next hba)
  have HTA : Hid (Trc ya ya.heap.size T5 r ∧ Trc ya ya.heap.size T6 r) := Lib.hid ⟨(HT9.out.1.below hba).more hba.size, (HT9.out.2.below hba).more hba.size⟩
  have HCA : Hid (IsC ya A9 n9 c9 F9 m9 d9 (newO W E need cores) (newL W E need cores) ∧ ya.heap[gx]? = some (.cells #[.slice A9 n9 c9, .slice F9 m9 d9] 27 (0, 0))) := Lib.hid ⟨HC9.out.below hba, hna⟩
  have HW := Lib.hid hya
  have HX := Lib.hid hgx
  have hq1 : w0.heap.size < y9.heap.size := World.block_lt_of_cell? _ _ q0
  clear hba hna hya hgx HC9 HT9 B9
  go_wp2_with fail
  rw [← HW.out, ← HX.out]
  clear q0 q1 hq1 HW HX
  refine (rnewC_any (W := W) (E := E) (need := need) cores ya (HG.out _ BA.out.bel) HL.out (by omega) (HI.out _ BA.out.bel) HA.out).mono ?_
  rintro e yb ⟨Ab, nb, cb, Fb, mb, db, he, hob, b⟩
  rw [← HE.out.1] at he
  subst he
  have BB := Lib.hid (BA.out.next b)
  have HTB : Hid (Trc yb yb.heap.size T5 r ∧ Trc yb yb.heap.size T6 r) := Lib.hid ⟨(HTA.out.1.below b).more b.size, (HTA.out.2.below b).more b.size⟩
  have HCB : Hid (IsC yb A9 n9 c9 F9 m9 d9 (newO W E need cores) (newL W E need cores) ∧ yb.heap[gx]? = some (.cells #[.slice A9 n9 c9, .slice F9 m9 d9] 27 (0, 0)) ∧ IsC yb Ab nb cb Fb mb db (newO W E need cores) (newL W E need cores)) := Lib.hid ⟨HCA.out.1.below b, by rw [b.block _ (Array.getElem?_eq_some_iff.1 HCA.out.2).1]; exact HCA.out.2, hob.isC⟩
  clear b hob HCA HTA BA
  obtain ⟨gy, hgy⟩ : ∃ g, g = yb.heap.size := ⟨_, rfl⟩
  obtain ⟨yc, hyc⟩ : ∃ w3, w3 = yb.alloc (.cells #[.slice Ab nb cb, .slice Fb mb db] 27) := ⟨_, rfl⟩
  have hba := below_alloc (w := yb) (.cells #[.slice Ab nb cb, .slice Fb mb db] 27)
  have hna := heap_alloc_new yb (.cells #[.slice Ab nb cb, .slice Fb mb db] 27)
  rw [← hyc] at hba hna
  rw [← hgy] at hna
  have BC := Lib.hid (BB.out.next hba)
  have HTC : Hid (Trc yc yc.heap.size T5 r ∧ Trc yc yc.heap.size T6 r) := Lib.hid ⟨(HTB.out.1.below hba).more hba.size, (HTB.out.2.below hba).more hba.size⟩
  have HCC : Hid (IsC yc A9 n9 c9 F9 m9 d9 (newO W E need cores) (newL W E need cores) ∧ yc.heap[gx]? = some (.cells #[.slice A9 n9 c9, .slice F9 m9 d9] 27 (0, 0)) ∧ IsC yc Ab nb cb Fb mb db (newO W E need cores) (newL W E need cores) ∧ yc.heap[gy]? = some (.cells #[.slice Ab nb cb, .slice Fb mb db] 27 (0, 0))) := Lib.hid ⟨HCB.out.1.below hba, by rw [hba.block _ (Array.getElem?_eq_some_iff.1 HCB.out.2.1).1]; exact HCB.out.2.1, HCB.out.2.2.below hba, hna⟩
  have HW := Lib.hid hyc
  have HX := Lib.hid hgy
  clear hba hna hyc hgy HCB HTB BB
  go_wp2_with fail
  rw [← HW.out, ← HX.out]
  clear HW HX
  refine (rtrace_any (t := r) (t' := r) yc HTC.out.1 rfl (by have := HR.out.1; omega) HR.out.2 HTC.out.2 rfl (by have := HR.out.1; omega) HR.out.2).mono ?_
  rintro e yd ⟨he, b⟩
  rw [decide_eq_true (rfl : r = r)] at he
  subst he
  have BD := Lib.hid (BC.out.next b)
  have x0 : yd.cell? ⟨gx, 0, none⟩ = some (.slice A9 n9 c9) := by rw [cell_of_row _ _ _ _ _ _ (by rw [b.block _ (Array.getElem?_eq_some_iff.1 HCC.out.2.1).1]; exact HCC.out.2.1)]; rfl
  have x1 : yd.cell? ⟨gx, 1, none⟩ = some (.slice F9 m9 d9) := by rw [cell_of_row _ _ _ _ _ _ (by rw [b.block _ (Array.getElem?_eq_some_iff.1 HCC.out.2.1).1]; exact HCC.out.2.1)]; rfl
  have z0 : yd.cell? ⟨gy, 0, none⟩ = some (.slice Ab nb cb) := by rw [cell_of_row _ _ _ _ _ _ (by rw [b.block _ (Array.getElem?_eq_some_iff.1 HCC.out.2.2.2).1]; exact HCC.out.2.2.2)]; rfl
  have z1 : yd.cell? ⟨gy, 1, none⟩ = some (.slice Fb mb db) := by rw [cell_of_row _ _ _ _ _ _ (by rw [b.block _ (Array.getElem?_eq_some_iff.1 HCC.out.2.2.2).1]; exact HCC.out.2.2.2)]; rfl
  have HCD : Hid (IsC yd A9 n9 c9 F9 m9 d9 (newO W E need cores) (newL W E need cores) ∧ IsC yd Ab nb cb Fb mb db (newO W E need cores) (newL W E need cores)) := Lib.hid ⟨HCC.out.1.below b, HCC.out.2.2.1.below b⟩
  clear b HCC HTC BC
  go_wp2_with fail
  refine (rsameC_any yd HCD.out.1 HCD.out.2).mono ?_
  rintro e ye ⟨he, b⟩
  rw [decide_eq_true (⟨rfl, rfl⟩ : newO W E need cores = newO W E need cores ∧ newL W E need cores = newL W E need cores)] at he
  subst he
  have BE := Lib.hid (BD.out.next b)
  clear b x0 x1 z0 z1 HCD BD
  go_wp2
  go_ret
  exact ⟨rfl, BE.out.bel⟩

theorem walk_ListRuns (K : ListOk) (w0 : World) (hT : Tab64 w0) (hg : InG w0 A n c F m d W E) (hs : InNL w0 N nn nc need) (cores : Int) (hc : -9223372036854775808 ≤ cores ∧ cores ≤ 9223372036854775807) : Calls Tryd.prog 4 #[.agg #[.slice A n c, .slice F m d], .slice N nn nc, .int .i64 cores] w0 fun e w' => e = .returned (.bool true) ∧ Below w0.heap.size w0 w' := by
  by_cases h : (n ≤ 70 ∧ m ≤ 300) ∧ nn ≤ 70 ∧ litV 300 need = true
  · exact runs_few w0 cores hc K (hg.isG hT h.1.1 h.1.2) hs h.1.1 h.1.2 h.2.1 h.2.2
  · exact runs_many w0 cores hT hg hs K h
end
end Go.Proofs.YtmmogdccjiagnaaDoor
