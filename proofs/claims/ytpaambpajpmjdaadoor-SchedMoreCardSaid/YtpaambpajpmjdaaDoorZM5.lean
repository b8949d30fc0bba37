/- The contract of trefoilref04.Check in the seat YtpaambpajpmjdaaDoor.
   The contract of trefoilref04.Order in the seat YtpaambpajpmjdaaDoor.
   No statement is proved here. -/
import Derived.Test.YtpaambpajpmjdaaDoorZRefPlain
set_option linter.unusedSimpArgs false
set_option linter.unusedVariables false
namespace Go.Proofs.YtpaambpajpmjdaaDoor
open Go.RowKit

open Classical in
/-- What is said of a graph. -/
noncomputable def chkE (W : List Int) (E : List (Int × Int)) : Int := if plainE W E ≠ 0 then plainE W E else if Acyc E then 0 else 43
/-- It may be. -/
structure May (W : List Int) (E : List (Int × Int)) : Prop where
  nodes : W.length ≤ 64
  edges : E.length ≤ 256
  work : WorkOk W
  fits : Fits W.length E
  apart : ∀ e ∈ E, e.1 ≠ e.2
  once : E.Nodup
  acyc : Acyc E
theorem chkE_zero {W : List Int} {E : List (Int × Int)} : chkE W E = 0 ↔ May W E := by
  unfold chkE
  split
  · rename_i h
    exact ⟨fun k => absurd k h, fun k => absurd (plainE_zero.mpr ⟨⟨k.nodes, k.edges⟩, k.work, k.fits, k.apart, k.once⟩) h⟩
  · rename_i h
    have h1 := plainE_zero.mp (Classical.not_not.mp h)
    split
    · rename_i hA
      exact ⟨fun _ => ⟨h1.1.1, h1.1.2, h1.2.1, h1.2.2.1, h1.2.2.2.1, h1.2.2.2.2, hA⟩, fun _ => rfl⟩
    · rename_i hA
      exact ⟨fun k => (by cases k), fun k => absurd k.acyc hA⟩
theorem chkE_plain {W : List Int} {E : List (Int × Int)} (h : plainE W E ≠ 0) : chkE W E = plainE W E := by unfold chkE; rw [if_pos h]
theorem chkE_round {W : List Int} {E : List (Int × Int)} (h : plainE W E = 0) (hA : ¬ Acyc E) : chkE W E = 43 := by unfold chkE; rw [if_neg (fun k => k h), if_neg hA]
theorem chkE_ok {W : List Int} {E : List (Int × Int)} (h : plainE W E = 0) (hA : Acyc E) : chkE W E = 0 := by unfold chkE; rw [if_neg (fun k => k h), if_pos hA]

set_option maxRecDepth 100000 in
set_option maxHeartbeats 2000000 in
theorem rcheck_any (A F : Option Addr) (n c m d : Nat) (W : List Int) (E : List (Int × Int)) (w : World) (hn : W.length = n) (hl : n ≤ 1000) (hm : E.length = m) (hk : m ≤ 1000) (hI : Ints w w.heap.size A W) (hP : Pairs w w.heap.size F E) :
    Calls Tryd.prog 28 #[.agg #[.slice A n c, .slice F m d]] w fun e w' => e = .returned (.int .i64 (chkE W E)) ∧ Below w.heap.size w w' := by
  have HP := Lib.hid hP
  have C := Lib.hid (fun W' hI hP => plain_any A F n c m d W E W' hn hl hm hk hI hP)
  have HNI := Lib.hid hn
  have HMI := Lib.hid hm
  have HI := Lib.hid hI
  obtain ⟨w0, hw0⟩ : ∃ w0, w0 = w.alloc (.cells #[.slice A n c, .slice F m d] 25) := ⟨_, rfl⟩
  have HW0 := Lib.hid hw0
  have C0 : Hid (Calls Tryd.prog 49 #[.agg #[.slice A n c, .slice F m d]] (w.alloc (.cells #[.slice A n c, .slice F m d] 25)) fun e w' => e = .returned (.int .i64 (plainE W E)) ∧ Below (w.heap.size + 1) w0 w') :=
    Lib.hid ((C.out _ ((hI.alloc (Nat.le_refl _) _).more (by simp)) ((hP.alloc (Nat.le_refl _) _).more (by simp))).mono (fun e w' h => ⟨h.1, by rw [hw0]; exact h.2.mono (by simp)⟩))
  clear hn hm hI hP hw0
  by_cases hz : plainE W E = 0
  · obtain ⟨_, _, hF, _⟩ := plainE_zero.mp hz
    rw [HNI.out] at hF
    have D := Lib.hid (fun a ha W' hP => reach_any A F n c m d E a W' hl HMI.out hk ha hF hP)
    have HRE := Lib.hid (fun a => reach_iff (a := a) (b := a) hF)
    have HLEN := Lib.hid (fun a => reachK_length n E a n)
    have HROUND := Lib.hid (chkE_round hz)
    have HOK := Lib.hid (chkE_ok hz)
    have HFIT := Lib.hid hF
    rw [hz] at C0
    obtain ⟨r, hr⟩ : ∃ r, r = chkE W E := ⟨_, rfl⟩
    rw [← hr]
    have HR := Lib.hid hr
    clear hz hF hr
    go_enter Tryd.func28, Tryd.ntmps28
    go_wp2_with fail
    refine C0.out.mono ?_
    rintro e w1 ⟨rfl, b1⟩
    have HB1 := Lib.hid b1
    clear b1
    have hbx0 : w1.cell? ⟨w.heap.size, 0, none⟩ = some (.slice A n c) := (HB1.out.cell (Nat.lt_succ_self _)).trans (by rw [HW0.out, World.cell?_alloc_at _ _ _ _ rfl]; rfl)
    go_wp2
    go_loopw [4] (fun i wr => ∃ j : Nat, j ≤ n ∧ i = .int .i64 j ∧ Hid (∀ a, a < j → ¬ Way E a a) ∧ Hid (Below (w.heap.size + 1) w0 wr)) (fun i _ => n - (intOf i).toNat)
    case atStart => exact ⟨0, Nat.zero_le _, rfl, Lib.hid (fun a h => by omega), HB1⟩
    case round =>
      obtain ⟨j, hj, rfl, HA, HB⟩ := hrel
      have hbox0 : wr.cell? ⟨w.heap.size, 0, none⟩ = some (.slice A n c) := (HB.out.cell (Nat.lt_succ_self _)).trans (by rw [HW0.out, World.cell?_alloc_at _ _ _ _ rfl]; rfl)
      have hbox1 : wr.cell? ⟨w.heap.size, 1, none⟩ = some (.slice F m d) := (HB.out.cell (Nat.lt_succ_self _)).trans (by rw [HW0.out, World.cell?_alloc_at _ _ _ _ rfl]; rfl)
      have hsz : w.heap.size + 1 ≤ wr.heap.size := by have := HB.out.size; rw [HW0.out] at this; simpa using this
      by_cases hlt : j < n
      · have D1 := Lib.hid (D.out j (by omega) wr ((by rw [HW0.out] at HB; exact (((HP.out.alloc (Nat.le_refl _) _).below (HB.out.mono (by omega))).more (by omega)))))
        go_wp2_with fail
        refine D1.out.mono ?_
        rintro e w2 ⟨g, c2, rfl, hg, hV, b2⟩
        have HB2 := Lib.hid (HB.out.trans (b2.mono hsz))
        have hlen : (reach n E j).length = n := HLEN.out j
        have hcell := hV.cell (bools_at (l := reach n E j) (j := j) (by omega))
        rw [hlen]
        have HIFF := Lib.hid (HRE.out j)
        cases hb : (reach n E j).getD j false with
        | true =>
          rw [hb] at hcell
          have HWAY := Lib.hid (HIFF.out.mp hb)
          have HX := Lib.hid (HROUND.out (fun q => q j HWAY.out))
          clear hb hV b2 hlen
          go_wp2
          go_ret
          exact ⟨by rw [HR.out, HX.out]; rfl, (below_alloc _).trans (by rw [← HW0.out]; exact HB2.out.mono (by omega))⟩
        | false =>
          rw [hb] at hcell
          have HNW : Hid (¬ Way E j j) := Lib.hid (fun q => by have h := HIFF.out.mpr q; rw [hb] at h; cases h)
          clear hb hV b2 hlen
          go_wp2
          go_roundw
          case rel => exact ⟨j + 1, by omega, by go_num, Lib.hid (fun a ha => by
            rcases Nat.lt_or_ge a j with h | h
            · exact HA.out a h
            · obtain rfl : a = j := by omega
              exact HNW.out), HB2⟩
          case measure => simp [intOf]; omega
      · obtain rfl : j = n := by omega
        have HX := Lib.hid (HOK.out (fun a ha => HA.out a (ha.lt HFIT.out).1 ha))
        go_wp2
        go_ret
        exact ⟨by rw [HR.out, HX.out]; rfl, (below_alloc _).trans (by rw [← HW0.out]; exact HB.out.mono (by omega))⟩
  · have HX := Lib.hid (chkE_plain hz)
    have hz2 : (plainE W E != 0) = true := by simpa using hz
    obtain ⟨p, hp⟩ : ∃ p, p = plainE W E := ⟨_, rfl⟩
    rw [HX.out]
    rw [← hp] at C0 hz2 ⊢
    clear hz hp HX
    go_enter Tryd.func28, Tryd.ntmps28
    go_wp2_with fail
    refine C0.out.mono ?_
    rintro e w1 ⟨rfl, b1⟩
    have HB1 := Lib.hid b1
    clear b1
    go_wp2
    go_ret
    exact ⟨rfl, (below_alloc _).trans (by rw [← HW0.out]; exact HB1.out.mono (by omega))⟩
end Go.Proofs.YtpaambpajpmjdaaDoor
set_option linter.unusedVariables false
namespace Go.Proofs.YtpaambpajpmjdaaDoor
open Go.RowKit

theorem ready_eq {n : Nat} {E : List (Int × Int)} (out : List Nat) (m : Nat) : ready n E out m = (!decide ((m : Int) ∈ nums out) && (predsL n E m).all fun x => decide (x ∈ nums out)) := by
  unfold ready
  congr 1
  · rw [Bool.not_inj_iff, Bool.eq_iff_iff, List.contains_iff_mem, decide_eq_true_iff, mem_nums]
  · rw [Bool.eq_iff_iff, List.all_eq_true, List.all_eq_true]
    unfold predsL
    constructor
    · intro h x hx
      obtain ⟨h1, h2⟩ := List.mem_filter.mp hx
      obtain ⟨a, ha, rfl⟩ := List.mem_map.mp h1
      have h3 := h a ha
      rw [Bool.or_eq_true, Bool.not_eq_true', decide_eq_false_iff_not, List.contains_iff_mem] at h3
      rw [decide_eq_true_iff]
      rcases h3 with h3 | h3
      · exact absurd (of_decide_eq_true h2) h3
      · exact mem_nums.mpr h3
    · intro h a ha
      rw [Bool.or_eq_true, Bool.not_eq_true', decide_eq_false_iff_not, List.contains_iff_mem]
      by_cases he : ed E a m
      · right
        have := h (a : Int) (List.mem_filter.mpr ⟨List.mem_map.mpr ⟨a, ha, rfl⟩, decide_eq_true he⟩)
        exact mem_nums.mp (of_decide_eq_true this)
      · exact .inl he
theorem pick_at {n : Nat} {E : List (Int × Int)} {out : List Nat} {i : Nat} (hi : i < n) (h : ready n E out i = true) (hb : ∀ m, m < i → ready n E out m = false) : pick n E out = some i := by
  unfold pick
  rw [List.find?_range_eq_some]
  exact ⟨h, List.mem_range.mpr hi, fun j hj => by rw [hb j hj]; rfl⟩
theorem pick_nil {n : Nat} {E : List (Int × Int)} {out : List Nat} (hb : ∀ m, m < n → ready n E out m = false) : pick n E out = none := by
  unfold pick
  rw [List.find?_eq_none]
  intro m hm
  rw [hb m (List.mem_range.mp hm)]
  exact Bool.false_ne_true
theorem ordK_some {n : Nat} {E : List (Int × Int)} {k m : Nat} (h : pick n E (ordK n E k) = some m) : ordK n E (k + 1) = ordK n E k ++ [m] := by
  show (match pick n E (ordK n E k) with | some m => ordK n E k ++ [m] | none => ordK n E k) = _
  rw [h]
theorem ordK_none {n : Nat} {E : List (Int × Int)} {k : Nat} (h : pick n E (ordK n E k) = none) : ordK n E (k + 1) = ordK n E k := by
  show (match pick n E (ordK n E k) with | some m => ordK n E k ++ [m] | none => ordK n E k) = _
  rw [h]
theorem ordK_le {n : Nat} {E : List (Int × Int)} : ∀ k, (ordK n E k).length ≤ k
  | 0 => Nat.le_refl _
  | k + 1 => by
    have ih := ordK_le (n := n) (E := E) k
    cases h : pick n E (ordK n E k) with
    | some m => rw [ordK_some h, List.length_append, List.length_singleton]; omega
    | none => rw [ordK_none h]; omega

end Go.Proofs.YtpaambpajpmjdaaDoor
