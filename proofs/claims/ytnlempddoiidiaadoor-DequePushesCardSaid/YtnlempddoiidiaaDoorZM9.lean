/- trefoilref12.owner in the seat YtnlempddoiidiaaDoor: its contract.
   trefoilref12.Step in the seat YtnlempddoiidiaaDoor: its contract.
   No statement is proved here. -/
import Derived.Test.YtnlempddoiidiaaDoorZM6
import Derived.Deep.Cut
set_option linter.unusedSimpArgs false
set_option linter.unusedVariables false
namespace Go.Proofs.YtnlempddoiidiaaDoor
open Go Go.RowKit

section
variable {A : Option Addr} {n c : Nat} {R : List Int}
set_option maxRecDepth 100000 in
set_option maxHeartbeats 8000000 in
theorem rowner_any (T B : Int) (t : Tkr) (w : World) (h : IsQ w A n c R) (hn : 0 < n) (h0 : 0 ≤ T) (h1 : T ≤ 1099511627775) (hB0 : -1 ≤ B) (hB1 : B ≤ 1099511628775) (hk : t.at_ ≠ 0 → (-1 ≤ t.top ∧ t.top ≤ 1099511627775) ∧ -1 ≤ t.bot ∧ t.bot ≤ 1099511627775) :
    Calls Tryd.prog 29 #[.agg #[.slice A n c, .int .i64 T, .int .i64 B], vT t] w (GotMove A n c (ownerD R T B t) w) := by
  obtain ⟨st, a, tp, bt, gt, en⟩ := t
  simp only at hk
  have HB := Lib.hid (fun o1 o2 o3 o4 N => below4 (w := w) o1 o2 o3 o4 N)
  by_cases a0 : a = 0
  · subst a0
    have hr : ownerD R T B ⟨st, 0, tp, bt, gt, en⟩ = (T, B - 1, ⟨st, 1, tp, B - 1, gt, en⟩) := rfl
    rw [hr]
    unfold vT GotMove
    clear hr h
    go_enter Tryd.func29, Tryd.ntmps29
    go_wp2
    go_region
    all_goals go_wp2
    all_goals refine bodyPost_ret (ret_qt rfl rfl rfl (row3of4 _ _ _ _ _ _ 1) rfl (row4of4 _ _ _ _ _ _ 1) rfl) rfl ⟨rfl, HB.out _ _ _ _ _⟩
  obtain ⟨⟨k1, k2⟩, k3, k4⟩ := hk a0
  have b0 : (a == 0) = false := beq_eq_false_iff_ne.mpr a0
  by_cases a1 : a = 1
  · subst a1
    by_cases hlt : T < bt
    · have hr : ownerD R T B ⟨st, 1, tp, bt, gt, en⟩ = (T, B, ⟨st, 1, T, bt, placeD R bt, 1⟩) := by unfold ownerD; rw [if_neg (by show ¬ (1 : Int) = 0; decide), if_pos rfl, if_pos hlt]
      have hd : decide (T < bt) = true := decide_eq_true hlt
      obtain ⟨p, hp⟩ : ∃ p, p = placeD R bt := ⟨_, rfl⟩
      rw [← hp] at hr
      rw [hr]
      have B0 := Lib.hid (Rws.start w [(24, [.slice A n c, .int .i64 T, .int .i64 B]), (27, [.bool st, .int .i64 1, .int .i64 T, .int .i64 bt, .int .i64 gt, .int .i64 en]), (24, [.slice none 0 0, .int .i64 0, .int .i64 0]), (27, cT (newTk false))])
      have CA := Lib.hid (rat_any T B bt _ (h.below B0.out.bel) hn (by omega))
      rw [← hp] at CA
      obtain ⟨w0, hw0⟩ : ∃ w0, w0 = allocs w [(24, [.slice A n c, .int .i64 T, .int .i64 B]), (27, [.bool st, .int .i64 1, .int .i64 T, .int .i64 bt, .int .i64 gt, .int .i64 en]), (24, [.slice none 0 0, .int .i64 0, .int .i64 0]), (27, cT (newTk false))] := ⟨_, rfl⟩
      rw [← hw0] at CA B0
      have HW : Hid (w0 = ((((w.alloc (.cells #[.slice A n c, .int .i64 T, .int .i64 B] 24)).alloc (.cells #[.bool st, .int .i64 1, .int .i64 T, .int .i64 bt, .int .i64 gt, .int .i64 en] 27)).alloc (.cells #[.slice none 0 0, .int .i64 0, .int .i64 0] 24)).alloc (.cells #[.bool false, .int .i64 0, .int .i64 0, .int .i64 0, .int .i64 0, .int .i64 0] 27))) := Lib.hid hw0
      unfold vT GotMove
      clear hr h hp hw0 HB
      go_enter Tryd.func29, Tryd.ntmps29
      go_wp2_with fail
      rw [← HW.out]
      refine CA.out.mono ?_
      rintro e w1 ⟨rfl, b1⟩
      have B1 := Lib.hid (B0.out.next b1)
      clear b1 B0 CA HW
      have c00 := B1.out.cell 0 0 rfl rfl
      have c01 := B1.out.cell 0 1 rfl rfl
      have c02 := B1.out.cell 0 2 rfl rfl
      have c10 := B1.out.cell 1 0 rfl rfl
      have z10 := B1.out.frozen 1 0 rfl
      have c11 := B1.out.cell 1 1 rfl rfl
      have z11 := B1.out.frozen 1 1 rfl
      have c12 := B1.out.cell 1 2 rfl rfl
      have z12 := B1.out.frozen 1 2 rfl
      have c13 := B1.out.cell 1 3 rfl rfl
      have z13 := B1.out.frozen 1 3 rfl
      have c14 := B1.out.cell 1 4 rfl rfl
      have z14 := B1.out.frozen 1 4 rfl
      have c15 := B1.out.cell 1 5 rfl rfl
      have z15 := B1.out.frozen 1 5 rfl
      have c20 := B1.out.cell 2 0 rfl rfl
      have z20 := B1.out.frozen 2 0 rfl
      have c21 := B1.out.cell 2 1 rfl rfl
      have z21 := B1.out.frozen 2 1 rfl
      have c22 := B1.out.cell 2 2 rfl rfl
      have z22 := B1.out.frozen 2 2 rfl
      have c30 := B1.out.cell 3 0 rfl rfl
      have z30 := B1.out.frozen 3 0 rfl
      have c31 := B1.out.cell 3 1 rfl rfl
      have z31 := B1.out.frozen 3 1 rfl
      have c32 := B1.out.cell 3 2 rfl rfl
      have z32 := B1.out.frozen 3 2 rfl
      have c33 := B1.out.cell 3 3 rfl rfl
      have z33 := B1.out.frozen 3 3 rfl
      have c34 := B1.out.cell 3 4 rfl rfl
      have z34 := B1.out.frozen 3 4 rfl
      have c35 := B1.out.cell 3 5 rfl rfl
      have z35 := B1.out.frozen 3 5 rfl
      simp only [Nat.add_zero] at c00 c01 c02
      have B2 := Lib.hid ((((B1.out.set 1 4 rfl (.int .i64 p)).set 1 5 rfl (.int .i64 1)).setQ 2 rfl (.slice A n c) (.int .i64 T) (.int .i64 B)).setT 3 rfl (.bool st) (.int .i64 1) (.int .i64 T) (.int .i64 bt) (.int .i64 p) (.int .i64 1))
      go_wp2
      go_region
      all_goals go_wp2
      all_goals refine bodyPost_ret (ret_qt rfl rfl rfl ((B2.out.drew 1).row 2 _ _ rfl) rfl ((B2.out.drew 1).row 3 _ _ rfl) rfl) rfl ⟨rfl, (B2.out.drew 1).bel⟩
    have hd : decide (T < bt) = false := decide_eq_false hlt
    by_cases he : T = bt
    · have hr : ownerD R T B ⟨st, 1, tp, bt, gt, en⟩ = (T, B, ⟨st, 2, T, bt, gt, en⟩) := by unfold ownerD; rw [if_neg (by show ¬ (1 : Int) = 0; decide), if_pos rfl, if_neg hlt, if_pos he]
      rw [hr]
      have hb : (T == bt) = true := by rw [beq_iff_eq]; exact he
      clear he
      unfold vT GotMove
      clear hr h
      go_enter Tryd.func29, Tryd.ntmps29
      go_wp2
      go_region
      all_goals go_wp2
      all_goals refine bodyPost_ret (ret_qt rfl rfl rfl (row3of4 _ _ _ _ _ _ 1) rfl (row4of4 _ _ _ _ _ _ 1) rfl) rfl ⟨rfl, HB.out _ _ _ _ _⟩
    · have hr : ownerD R T B ⟨st, 1, tp, bt, gt, en⟩ = (T, B, ⟨st, 3, T, bt, gt, en⟩) := by unfold ownerD; rw [if_neg (by show ¬ (1 : Int) = 0; decide), if_pos rfl, if_neg hlt, if_neg he]
      rw [hr]
      have hb : (T == bt) = false := beq_eq_false_iff_ne.mpr he
      clear he
      unfold vT GotMove
      clear hr h
      go_enter Tryd.func29, Tryd.ntmps29
      go_wp2
      go_region
      all_goals go_wp2
      all_goals refine bodyPost_ret (ret_qt rfl rfl rfl (row3of4 _ _ _ _ _ _ 1) rfl (row4of4 _ _ _ _ _ _ 1) rfl) rfl ⟨rfl, HB.out _ _ _ _ _⟩
  have b1 : (a == 1) = false := beq_eq_false_iff_ne.mpr a1
  by_cases a2 : a = 2
  · subst a2
    by_cases he : T = tp
    · have hr : ownerD R T B ⟨st, 2, tp, bt, gt, en⟩ = (T + 1, B, ⟨st, 4, tp, bt, placeD R bt, en⟩) := by unfold ownerD; rw [if_neg (by show ¬ (2 : Int) = 0; decide), if_neg (by show ¬ (2 : Int) = 1; decide), if_pos rfl, if_pos he]
      have hb : (T == tp) = true := by rw [beq_iff_eq]; exact he
      clear he
      obtain ⟨p, hp⟩ : ∃ p, p = placeD R bt := ⟨_, rfl⟩
      rw [← hp] at hr
      rw [hr]
      have B0 := Lib.hid (Rws.start w [(24, [.slice A n c, .int .i64 (T + 1), .int .i64 B]), (27, [.bool st, .int .i64 2, .int .i64 tp, .int .i64 bt, .int .i64 gt, .int .i64 en]), (24, [.slice none 0 0, .int .i64 0, .int .i64 0]), (27, cT (newTk false))])
      have CA := Lib.hid (rat_any ((T + 1)) B bt _ (h.below B0.out.bel) hn (by omega))
      rw [← hp] at CA
      obtain ⟨w0, hw0⟩ : ∃ w0, w0 = allocs w [(24, [.slice A n c, .int .i64 ((T + 1)), .int .i64 B]), (27, [.bool st, .int .i64 2, .int .i64 tp, .int .i64 bt, .int .i64 gt, .int .i64 en]), (24, [.slice none 0 0, .int .i64 0, .int .i64 0]), (27, cT (newTk false))] := ⟨_, rfl⟩
      rw [← hw0] at CA B0
      have HW : Hid (w0 = ((((w.alloc (.cells #[.slice A n c, .int .i64 ((T + 1)), .int .i64 B] 24)).alloc (.cells #[.bool st, .int .i64 2, .int .i64 tp, .int .i64 bt, .int .i64 gt, .int .i64 en] 27)).alloc (.cells #[.slice none 0 0, .int .i64 0, .int .i64 0] 24)).alloc (.cells #[.bool false, .int .i64 0, .int .i64 0, .int .i64 0, .int .i64 0, .int .i64 0] 27))) := Lib.hid hw0
      unfold vT GotMove
      clear hr h hp hw0 HB
      go_enter Tryd.func29, Tryd.ntmps29
      go_wp2_with fail
      rw [← HW.out]
      refine CA.out.mono ?_
      rintro e w1 ⟨rfl, b1⟩
      have B1 := Lib.hid (B0.out.next b1)
      clear b1 B0 CA HW
      have c00 := B1.out.cell 0 0 rfl rfl
      have c01 := B1.out.cell 0 1 rfl rfl
      have c02 := B1.out.cell 0 2 rfl rfl
      have c10 := B1.out.cell 1 0 rfl rfl
      have z10 := B1.out.frozen 1 0 rfl
      have c11 := B1.out.cell 1 1 rfl rfl
      have z11 := B1.out.frozen 1 1 rfl
      have c12 := B1.out.cell 1 2 rfl rfl
      have z12 := B1.out.frozen 1 2 rfl
      have c13 := B1.out.cell 1 3 rfl rfl
      have z13 := B1.out.frozen 1 3 rfl
      have c14 := B1.out.cell 1 4 rfl rfl
      have z14 := B1.out.frozen 1 4 rfl
      have c15 := B1.out.cell 1 5 rfl rfl
      have z15 := B1.out.frozen 1 5 rfl
      have c20 := B1.out.cell 2 0 rfl rfl
      have z20 := B1.out.frozen 2 0 rfl
      have c21 := B1.out.cell 2 1 rfl rfl
      have z21 := B1.out.frozen 2 1 rfl
      have c22 := B1.out.cell 2 2 rfl rfl
      have z22 := B1.out.frozen 2 2 rfl
      have c30 := B1.out.cell 3 0 rfl rfl
      have z30 := B1.out.frozen 3 0 rfl
      have c31 := B1.out.cell 3 1 rfl rfl
      have z31 := B1.out.frozen 3 1 rfl
      have c32 := B1.out.cell 3 2 rfl rfl
      have z32 := B1.out.frozen 3 2 rfl
      have c33 := B1.out.cell 3 3 rfl rfl
      have z33 := B1.out.frozen 3 3 rfl
      have c34 := B1.out.cell 3 4 rfl rfl
      have z34 := B1.out.frozen 3 4 rfl
      have c35 := B1.out.cell 3 5 rfl rfl
      have z35 := B1.out.frozen 3 5 rfl
      simp only [Nat.add_zero] at c00 c01 c02
      have B2 := Lib.hid ((((B1.out.set 1 4 rfl (.int .i64 p)).set 1 1 rfl (.int .i64 4)).setQ 2 rfl (.slice A n c) (.int .i64 (T + 1)) (.int .i64 B)).setT 3 rfl (.bool st) (.int .i64 4) (.int .i64 tp) (.int .i64 bt) (.int .i64 p) (.int .i64 en))
      go_wp2
      go_region
      all_goals go_wp2
      all_goals refine bodyPost_ret (ret_qt rfl rfl rfl ((B2.out.drew 1).row 2 _ _ rfl) rfl ((B2.out.drew 1).row 3 _ _ rfl) rfl) rfl ⟨rfl, (B2.out.drew 1).bel⟩
    · have hr : ownerD R T B ⟨st, 2, tp, bt, gt, en⟩ = (T, B, ⟨st, 3, tp, bt, gt, en⟩) := by unfold ownerD; rw [if_neg (by show ¬ (2 : Int) = 0; decide), if_neg (by show ¬ (2 : Int) = 1; decide), if_pos rfl, if_neg he]
      rw [hr]
      have hb : (T == tp) = false := beq_eq_false_iff_ne.mpr he
      clear he
      unfold vT GotMove
      clear hr h
      go_enter Tryd.func29, Tryd.ntmps29
      go_wp2
      go_region
      all_goals go_wp2
      all_goals refine bodyPost_ret (ret_qt rfl rfl rfl (row3of4 _ _ _ _ _ _ 1) rfl (row4of4 _ _ _ _ _ _ 1) rfl) rfl ⟨rfl, HB.out _ _ _ _ _⟩
  have b2 : (a == 2) = false := beq_eq_false_iff_ne.mpr a2
  by_cases a3 : a = 3
  · subst a3
    have hr : ownerD R T B ⟨st, 3, tp, bt, gt, en⟩ = (T, bt + 1, ⟨st, 3, tp, bt, gt, 2⟩) := by unfold ownerD; rw [if_neg (by show ¬ (3 : Int) = 0; decide), if_neg (by show ¬ (3 : Int) = 1; decide), if_neg (by show ¬ (3 : Int) = 2; decide), if_pos rfl]
    rw [hr]
    unfold vT GotMove
    clear hr h
    go_enter Tryd.func29, Tryd.ntmps29
    go_wp2
    go_region
    all_goals go_wp2
    all_goals refine bodyPost_ret (ret_qt rfl rfl rfl (row3of4 _ _ _ _ _ _ 1) rfl (row4of4 _ _ _ _ _ _ 1) rfl) rfl ⟨rfl, HB.out _ _ _ _ _⟩
  · have hr : ownerD R T B ⟨st, a, tp, bt, gt, en⟩ = (T, bt + 1, ⟨st, a, tp, bt, gt, 1⟩) := by unfold ownerD; rw [if_neg a0, if_neg a1, if_neg a2, if_neg a3]
    have b3 : (a == 3) = false := beq_eq_false_iff_ne.mpr a3
    rw [hr]
    unfold vT GotMove
    clear hr h
    go_enter Tryd.func29, Tryd.ntmps29
    go_wp2
    go_region
    all_goals go_wp2
    all_goals refine bodyPost_ret (ret_qt rfl rfl rfl (row3of4 _ _ _ _ _ _ 1) rfl (row4of4 _ _ _ _ _ _ 1) rfl) rfl ⟨rfl, HB.out _ _ _ _ _⟩
end
end Go.Proofs.YtnlempddoiidiaaDoor
set_option linter.unusedVariables false
set_option linter.unusedSimpArgs false
namespace Go.Proofs.YtnlempddoiidiaaDoor
open Go Go.RowKit

section
variable {A : Option Addr} {n c : Nat} {R : List Int}
/-- What a step hands out: with no error the ring that it was given. -/
def GotStep (A : Option Addr) (n c : Nat) (s : Int × Int × Int × Tkr) (w : World) (e : Ending) (w' : World) : Prop :=
  e = .returned (.tuple #[.agg #[if s.1 = 0 then .slice A n c else .slice none 0 0, .int .i64 s.2.1, .int .i64 s.2.2.1], vT s.2.2.2, .int .i64 s.1]) ∧ Below w.heap.size w w'
def rowsS (A : Option Addr) (n c : Nat) (T B : Int) (t : Tkr) (v x y : Value) (u : Tkr) : List (TypeId × List Value) :=
  [(24, [.slice A n c, .int .i64 T, .int .i64 B]), (27, cT t), (24, [v, x, y]), (27, cT u)]
/-- What over means, as the reference asks it. -/
theorem over_iff_d {st : Bool} {a tp bt gt en : Int} : OverT ⟨st, a, tp, bt, gt, en⟩ ↔ (en ≠ 0 ∨ a < 0 ∨ 4 < a ∨ (st = true ∧ 3 < a) ∨ (0 < a ∧ WildT ⟨st, a, tp, bt, gt, en⟩)) := by
  unfold OverT
  simp only
  cases st
  · simp only [Bool.false_eq_true, if_false, false_and, false_or]
    constructor
    · rintro (h | h | h | ⟨h1, h2⟩)
      · exact .inl h
      · exact .inr (.inl h)
      · exact .inr (.inr (.inl h))
      · rcases Int.lt_trichotomy a 0 with q | q | q
        · exact .inr (.inl q)
        · exact absurd q h1
        · exact .inr (.inr (.inr ⟨q, h2⟩))
    · rintro (h | h | h | ⟨h1, h2⟩)
      · exact .inl h
      · exact .inr (.inl h)
      · exact .inr (.inr (.inl h))
      · exact .inr (.inr (.inr ⟨by omega, h2⟩))
  · simp only [if_true, true_and]
    constructor
    · rintro (h | h | h | ⟨h1, h2⟩)
      · exact .inl h
      · exact .inr (.inl h)
      · exact .inr (.inr (.inr (.inl h)))
      · rcases Int.lt_trichotomy a 0 with q | q | q
        · exact .inr (.inl q)
        · exact absurd q h1
        · exact .inr (.inr (.inr (.inr ⟨q, h2⟩)))
    · rintro (h | h | h | h | ⟨h1, h2⟩)
      · exact .inl h
      · exact .inr (.inl h)
      · exact .inr (.inr (.inl (by omega)))
      · exact .inr (.inr (.inl h))
      · exact .inr (.inr (.inr ⟨by omega, h2⟩))
/-- In the middle: the numbers that a step goes on with. -/
theorem not_over_d {t : Tkr} (h : ¬ OverT t) : t.at_ ≠ 0 → (-1 ≤ t.top ∧ t.top ≤ 1099511627775) ∧ -1 ≤ t.bot ∧ t.bot ≤ 1099511627775 := fun h0 => by
  unfold OverT WildT at h
  simp only [not_or, not_and] at h
  have := h.2.2.2 h0
  omega
set_option maxRecDepth 100000 in
set_option maxHeartbeats 16000000 in
theorem rstep_any (T B : Int) (t : Tkr) (w : World) (h : IsQ w A n c R) :
    Calls Tryd.prog 11 #[.agg #[.slice A n c, .int .i64 T, .int .i64 B], vT t] w (GotStep A n c (stepQ R T B t) w) := by
  obtain ⟨st, a, tp, bt, gt, en⟩ := t
  have hln := h.hn
  have B0 := Lib.hid (Rws.start w (rowsS A n c T B ⟨st, a, tp, bt, gt, en⟩ (.slice none 0 0) (.int .i64 0) (.int .i64 0) (newTk false)))
  obtain ⟨w0, hw0⟩ : ∃ w0, w0 = allocs w (rowsS A n c T B ⟨st, a, tp, bt, gt, en⟩ (.slice none 0 0) (.int .i64 0) (.int .i64 0) (newTk false)) := ⟨_, rfl⟩
  rw [← hw0] at B0
  have HW : Hid (w0 = ((((w.alloc (.cells #[.slice A n c, .int .i64 T, .int .i64 B] 24)).alloc (.cells #[.bool st, .int .i64 a, .int .i64 tp, .int .i64 bt, .int .i64 gt, .int .i64 en] 27)).alloc (.cells #[.slice none 0 0, .int .i64 0, .int .i64 0] 24)).alloc (.cells #[.bool false, .int .i64 0, .int .i64 0, .int .i64 0, .int .i64 0, .int .i64 0] 27))) := Lib.hid hw0
  have CK := Lib.hid (rcheck_d A n c T B w0 h.ln)
  clear hw0
  by_cases hc : ¬ ChkQ n T B
  · have hr : stepQ R T B ⟨st, a, tp, bt, gt, en⟩ = (120, 0, 0, newTk false) := by unfold stepQ; rw [hln, if_pos hc]
    rw [hr]
    rw [decide_eq_false hc] at CK
    unfold vT GotStep
    clear hr h hc hln
    go_enter Tryd.func11, Tryd.ntmps11
    go_wp2_with fail
    rw [← HW.out]
    refine CK.out.mono ?_
    rintro e w1 ⟨rfl, b1⟩
    have B1 := Lib.hid (B0.out.next b1)
    clear b1 B0 CK HW
    have c00 := B1.out.cell 0 0 rfl rfl
    have z00 := B1.out.frozen 0 0 rfl
    have c01 := B1.out.cell 0 1 rfl rfl
    have z01 := B1.out.frozen 0 1 rfl
    have c02 := B1.out.cell 0 2 rfl rfl
    have z02 := B1.out.frozen 0 2 rfl
    have c10 := B1.out.cell 1 0 rfl rfl
    have z10 := B1.out.frozen 1 0 rfl
    have c11 := B1.out.cell 1 1 rfl rfl
    have z11 := B1.out.frozen 1 1 rfl
    have c12 := B1.out.cell 1 2 rfl rfl
    have z12 := B1.out.frozen 1 2 rfl
    have c13 := B1.out.cell 1 3 rfl rfl
    have z13 := B1.out.frozen 1 3 rfl
    have c14 := B1.out.cell 1 4 rfl rfl
    have z14 := B1.out.frozen 1 4 rfl
    have c15 := B1.out.cell 1 5 rfl rfl
    have z15 := B1.out.frozen 1 5 rfl
    have c20 := B1.out.cell 2 0 rfl rfl
    have z20 := B1.out.frozen 2 0 rfl
    have c21 := B1.out.cell 2 1 rfl rfl
    have z21 := B1.out.frozen 2 1 rfl
    have c22 := B1.out.cell 2 2 rfl rfl
    have z22 := B1.out.frozen 2 2 rfl
    have c30 := B1.out.cell 3 0 rfl rfl
    have z30 := B1.out.frozen 3 0 rfl
    have c31 := B1.out.cell 3 1 rfl rfl
    have z31 := B1.out.frozen 3 1 rfl
    have c32 := B1.out.cell 3 2 rfl rfl
    have z32 := B1.out.frozen 3 2 rfl
    have c33 := B1.out.cell 3 3 rfl rfl
    have z33 := B1.out.frozen 3 3 rfl
    have c34 := B1.out.cell 3 4 rfl rfl
    have z34 := B1.out.frozen 3 4 rfl
    have c35 := B1.out.cell 3 5 rfl rfl
    have z35 := B1.out.frozen 3 5 rfl
    simp only [Nat.add_zero] at c00 c01 c02 z00 z01 z02
    have BZ := Lib.hid ((B1.out.setQ 2 rfl (.slice none 0 0) (.int .i64 0) (.int .i64 0)).setT 3 rfl (.bool false) (.int .i64 0) (.int .i64 0) (.int .i64 0) (.int .i64 0) (.int .i64 0))
    go_wp2
    all_goals refine bodyPost_ret (ret_qte rfl rfl rfl rfl (BZ.out.row 2 _ _ rfl) rfl (BZ.out.row 3 _ _ rfl) rfl) rfl ⟨rfl, BZ.out.bel⟩
  replace hc := Classical.not_not.mp hc
  rw [decide_eq_true hc] at CK
  have hn0 : 0 < n := by have := hc.1.bounds; omega
  obtain ⟨c1, c2, c3, c4, c5⟩ := hc
  have hnb : n ≤ 64 := by have := c1.bounds; omega
  have CI := Lib.hid h
  obtain ⟨s, hs⟩ : ∃ s, s = stepQ R T B ⟨st, a, tp, bt, gt, en⟩ := ⟨_, rfl⟩
  have HS : Hid (s = if OverT ⟨st, a, tp, bt, gt, en⟩ then (122, 0, 0, newTk false) else if ¬ ChkQ n (moveD R T B ⟨st, a, tp, bt, gt, en⟩).1 (moveD R T B ⟨st, a, tp, bt, gt, en⟩).2.1 then (120, 0, 0, newTk false) else (0, moveD R T B ⟨st, a, tp, bt, gt, en⟩)) := Lib.hid (by
    rw [hs]; unfold stepQ
    have e1 : ¬ ¬ ChkQ R.length T B := fun q => q (by rw [hln]; exact ⟨c1, c2, c3, c4, c5⟩)
    rw [if_neg e1, hln])
  rw [← hs]
  unfold vT GotStep
  clear h hs hln c1
  go_enter Tryd.func11, Tryd.ntmps11
  go_wp2_with fail
  rw [← HW.out]
  refine CK.out.mono ?_
  rintro e w1 ⟨rfl, b1⟩
  have B1 := Lib.hid (B0.out.next b1)
  clear b1 B0 CK HW
  have c00 := B1.out.cell 0 0 rfl rfl
  have z00 := B1.out.frozen 0 0 rfl
  have c01 := B1.out.cell 0 1 rfl rfl
  have z01 := B1.out.frozen 0 1 rfl
  have c02 := B1.out.cell 0 2 rfl rfl
  have z02 := B1.out.frozen 0 2 rfl
  have c10 := B1.out.cell 1 0 rfl rfl
  have z10 := B1.out.frozen 1 0 rfl
  have c11 := B1.out.cell 1 1 rfl rfl
  have z11 := B1.out.frozen 1 1 rfl
  have c12 := B1.out.cell 1 2 rfl rfl
  have z12 := B1.out.frozen 1 2 rfl
  have c13 := B1.out.cell 1 3 rfl rfl
  have z13 := B1.out.frozen 1 3 rfl
  have c14 := B1.out.cell 1 4 rfl rfl
  have z14 := B1.out.frozen 1 4 rfl
  have c15 := B1.out.cell 1 5 rfl rfl
  have z15 := B1.out.frozen 1 5 rfl
  have c20 := B1.out.cell 2 0 rfl rfl
  have z20 := B1.out.frozen 2 0 rfl
  have c21 := B1.out.cell 2 1 rfl rfl
  have z21 := B1.out.frozen 2 1 rfl
  have c22 := B1.out.cell 2 2 rfl rfl
  have z22 := B1.out.frozen 2 2 rfl
  have c30 := B1.out.cell 3 0 rfl rfl
  have z30 := B1.out.frozen 3 0 rfl
  have c31 := B1.out.cell 3 1 rfl rfl
  have z31 := B1.out.frozen 3 1 rfl
  have c32 := B1.out.cell 3 2 rfl rfl
  have z32 := B1.out.frozen 3 2 rfl
  have c33 := B1.out.cell 3 3 rfl rfl
  have z33 := B1.out.frozen 3 3 rfl
  have c34 := B1.out.cell 3 4 rfl rfl
  have z34 := B1.out.frozen 3 4 rfl
  have c35 := B1.out.cell 3 5 rfl rfl
  have z35 := B1.out.frozen 3 5 rfl
  simp only [Nat.add_zero] at c00 c01 c02 z00 z01 z02
  go_upto_region 3 with fail
  go_cut [7] from 8 (fun s7 wx => s7 = .bool (decide (WildT ⟨st, a, tp, bt, gt, en⟩)) ∧ w1 = wx)
  case first =>
    by_cases q1 : tp < -1
    · have r1 : decide (tp < -1) = true := decide_eq_true q1
      have HR : Hid (decide (WildT ⟨st, a, tp, bt, gt, en⟩) = true) := Lib.hid (decide_eq_true (.inl q1))
      clear q1
      go_wp2
      go_meet
      case rel => exact ⟨by rw [HR.out], rfl⟩
    have r1 : decide (tp < -1) = false := decide_eq_false q1
    by_cases q2 : 1099511627775 < tp
    · have r2 : decide (1099511627775 < tp) = true := decide_eq_true q2
      have HR : Hid (decide (WildT ⟨st, a, tp, bt, gt, en⟩) = true) := Lib.hid (decide_eq_true (.inr (.inl q2)))
      clear q1 q2
      go_wp2
      go_meet
      case rel => exact ⟨by rw [HR.out], rfl⟩
    have r2 : decide (1099511627775 < tp) = false := decide_eq_false q2
    by_cases q3 : bt < -1
    · have r3 : decide (bt < -1) = true := decide_eq_true q3
      have HR : Hid (decide (WildT ⟨st, a, tp, bt, gt, en⟩) = true) := Lib.hid (decide_eq_true (.inr (.inr (.inl q3))))
      clear q1 q2 q3
      go_wp2
      go_meet
      case rel => exact ⟨by rw [HR.out], rfl⟩
    have r3 : decide (bt < -1) = false := decide_eq_false q3
    by_cases q4 : 1099511627775 < bt
    · have r4 : decide (1099511627775 < bt) = true := decide_eq_true q4
      have HR : Hid (decide (WildT ⟨st, a, tp, bt, gt, en⟩) = true) := Lib.hid (decide_eq_true (.inr (.inr (.inr q4))))
      clear q1 q2 q3 q4
      go_wp2
      go_meet
      case rel => exact ⟨by rw [HR.out], rfl⟩
    · have r4 : decide (1099511627775 < bt) = false := decide_eq_false q4
      have HR : Hid (decide (WildT ⟨st, a, tp, bt, gt, en⟩) = false) := Lib.hid (decide_eq_false (by
        rintro (q | q | q | q)
        · exact q1 q
        · exact q2 q
        · exact q3 q
        · exact q4 q))
      clear q1 q2 q3 q4
      go_wp2
      go_meet
      case rel => exact ⟨by rw [HR.out], rfl⟩
  case rest =>
    obtain ⟨rfl, rfl⟩ := hcut
    obtain ⟨wd, hwd⟩ : ∃ wd, wd = decide (WildT ⟨st, a, tp, bt, gt, en⟩) := ⟨_, rfl⟩
    rw [← hwd]
    have HWD := Lib.hid hwd
    clear hwd
    go_upto_region 4 with fail
    go_cut [60] from 31 (fun s60 wx => s60 = .bool (decide (OverT ⟨st, a, tp, bt, gt, en⟩)) ∧ w1 = wx)
    case first =>
      have HO := Lib.hid (over_iff_d (st := st) (a := a) (tp := tp) (bt := bt) (gt := gt) (en := en))
      by_cases q1 : ¬ en = 0
      · have r1 : (en != 0) = true := bne_iff_ne.mpr q1
        have HR : Hid (decide (OverT ⟨st, a, tp, bt, gt, en⟩) = true) := Lib.hid (decide_eq_true (HO.out.mpr (.inl q1)))
        clear q1
        go_wp2
        go_meet
        case rel => exact ⟨by rw [HR.out], rfl⟩
      replace q1 := Classical.not_not.mp q1
      have r1 : (en != 0) = false := by simp [q1]
      have HQ1 := Lib.hid q1
      clear q1
      by_cases q2 : a < 0
      · have r2 : decide (a < 0) = true := decide_eq_true q2
        have HR : Hid (decide (OverT ⟨st, a, tp, bt, gt, en⟩) = true) := Lib.hid (decide_eq_true (HO.out.mpr (.inr (.inl q2))))
        clear q2
        go_wp2
        go_meet
        case rel => exact ⟨by rw [HR.out], rfl⟩
      have r2 : decide (a < 0) = false := decide_eq_false q2
      by_cases q3 : 4 < a
      · have r3 : decide (4 < a) = true := decide_eq_true q3
        have HR : Hid (decide (OverT ⟨st, a, tp, bt, gt, en⟩) = true) := Lib.hid (decide_eq_true (HO.out.mpr (.inr (.inr (.inl q3)))))
        clear q2 q3
        go_wp2
        go_meet
        case rel => exact ⟨by rw [HR.out], rfl⟩
      have r3 : decide (4 < a) = false := decide_eq_false q3
      cases st with
      | true =>
        by_cases q4 : 3 < a
        · have r4 : decide (3 < a) = true := decide_eq_true q4
          have HR : Hid (decide (OverT ⟨true, a, tp, bt, gt, en⟩) = true) := Lib.hid (decide_eq_true (HO.out.mpr (.inr (.inr (.inr (.inl ⟨rfl, q4⟩))))))
          clear q2 q3 q4
          go_wp2
          go_meet
          case rel => exact ⟨by rw [HR.out], rfl⟩
        have r4 : decide (3 < a) = false := decide_eq_false q4
        by_cases q5 : 0 < a
        · have r5 : decide (0 < a) = true := decide_eq_true q5
          have HR : Hid (decide (OverT ⟨true, a, tp, bt, gt, en⟩) = wd) := Lib.hid (by
            rw [HWD.out]
            exact decide_eq_decide.mpr ⟨fun q => by
              rcases HO.out.mp q with q | q | q | q | q
              · exact absurd HQ1.out q
              · exact absurd q q2
              · exact absurd q q3
              · exact absurd q.2 q4
              · exact q.2, fun q => HO.out.mpr (.inr (.inr (.inr (.inr ⟨q5, q⟩))))⟩)
          clear q2 q3 q4 q5
          go_wp2
          go_meet
          case rel => exact ⟨by rw [HR.out], rfl⟩
        · have r5 : decide (0 < a) = false := decide_eq_false q5
          have HR : Hid (decide (OverT ⟨true, a, tp, bt, gt, en⟩) = false) := Lib.hid (decide_eq_false (fun q => by
              rcases HO.out.mp q with q | q | q | q | q
              · exact absurd HQ1.out q
              · exact absurd q q2
              · exact absurd q q3
              · exact absurd q.2 q4
              · exact absurd q.1 q5))
          clear q2 q3 q4 q5
          go_wp2
          go_meet
          case rel => exact ⟨by rw [HR.out], rfl⟩
      | false =>
        have q4 : ¬ ((false : Bool) = true ∧ 3 < a) := fun q => by cases q.1
        by_cases q5 : 0 < a
        · have r5 : decide (0 < a) = true := decide_eq_true q5
          have HR : Hid (decide (OverT ⟨false, a, tp, bt, gt, en⟩) = wd) := Lib.hid (by
            rw [HWD.out]
            exact decide_eq_decide.mpr ⟨fun q => by
              rcases HO.out.mp q with q | q | q | q | q
              · exact absurd HQ1.out q
              · exact absurd q q2
              · exact absurd q q3
              · exact absurd q q4
              · exact q.2, fun q => HO.out.mpr (.inr (.inr (.inr (.inr ⟨q5, q⟩))))⟩)
          clear q2 q3 q4 q5
          go_wp2
          go_meet
          case rel => exact ⟨by rw [HR.out], rfl⟩
        · have r5 : decide (0 < a) = false := decide_eq_false q5
          have HR : Hid (decide (OverT ⟨false, a, tp, bt, gt, en⟩) = false) := Lib.hid (decide_eq_false (fun q => by
              rcases HO.out.mp q with q | q | q | q | q
              · exact absurd HQ1.out q
              · exact absurd q q2
              · exact absurd q q3
              · exact absurd q q4
              · exact absurd q.1 q5))
          clear q2 q3 q4 q5
          go_wp2
          go_meet
          case rel => exact ⟨by rw [HR.out], rfl⟩
    case rest =>
      obtain ⟨rfl, rfl⟩ := hcut
      by_cases ho : OverT ⟨st, a, tp, bt, gt, en⟩
      · have hs : s = (122, 0, 0, newTk false) := by rw [HS.out, if_pos ho]
        rw [decide_eq_true ho]
        subst hs
        clear ho HS HWD CI
        have BZ := Lib.hid ((B1.out.setQ 2 rfl (.slice none 0 0) (.int .i64 0) (.int .i64 0)).setT 3 rfl (.bool false) (.int .i64 0) (.int .i64 0) (.int .i64 0) (.int .i64 0) (.int .i64 0))
        go_wp2
        all_goals refine bodyPost_ret (ret_qte rfl rfl rfl rfl (BZ.out.row 2 _ _ rfl) rfl (BZ.out.row 3 _ _ rfl) rfl) rfl ⟨rfl, BZ.out.bel⟩
      rw [decide_eq_false ho]
      have HS2 := Lib.hid HS.out
      rw [if_neg ho] at HS2
      have hb := not_over_d ho
      simp only at hb
      clear HS HWD ho
      obtain ⟨m, hm⟩ : ∃ m, m = moveD R T B ⟨st, a, tp, bt, gt, en⟩ := ⟨_, rfl⟩
      rw [← hm] at HS2
      have hw1 := CI.out.below B1.out.bel
      have CM : Hid (Calls Tryd.prog (if st = true then 28 else 29) #[.agg #[.slice A n c, .int .i64 T, .int .i64 B], .agg #[.bool st, .int .i64 a, .int .i64 tp, .int .i64 bt, .int .i64 gt, .int .i64 en]] w1 (GotMove A n c m w1)) := Lib.hid (by
        cases st
        · rw [hm]
          exact rowner_any T B ⟨false, a, tp, bt, gt, en⟩ w1 hw1 hn0 c2 c3 (by omega) (by omega) hb
        · rw [hm]
          exact rthief_any T B ⟨true, a, tp, bt, gt, en⟩ w1 hw1 hn0 c2 c3 (fun q => by have := (hb q).1.2; show tp ≤ _; omega))
      obtain ⟨T', B', st2, a2, tp2, bt2, gt2, en2⟩ := m
      simp only at HS2
      unfold GotMove vT at CM
      simp only at CM
      clear hm hw1 hb
      cases st
      all_goals
        simp only [if_true, Bool.false_eq_true, if_false] at CM
        go_wp2_with fail
        refine CM.out.mono ?_
        rintro e w2 ⟨rfl, b2⟩
        have B2 := Lib.hid (B1.out.next b2)
        clear b2 B1 CM
        clear c00 z00 c01 z01 c02 z02 c10 z10 c11 z11 c12 z12 c13 z13 c14 z14 c15 z15 c20 z20 c21 z21 c22 z22 c30 z30 c31 z31 c32 z32 c33 z33 c34 z34 c35 z35
        have c00 := B2.out.cell 0 0 rfl rfl
        have z00 := B2.out.frozen 0 0 rfl
        have c01 := B2.out.cell 0 1 rfl rfl
        have z01 := B2.out.frozen 0 1 rfl
        have c02 := B2.out.cell 0 2 rfl rfl
        have z02 := B2.out.frozen 0 2 rfl
        have c10 := B2.out.cell 1 0 rfl rfl
        have z10 := B2.out.frozen 1 0 rfl
        have c11 := B2.out.cell 1 1 rfl rfl
        have z11 := B2.out.frozen 1 1 rfl
        have c12 := B2.out.cell 1 2 rfl rfl
        have z12 := B2.out.frozen 1 2 rfl
        have c13 := B2.out.cell 1 3 rfl rfl
        have z13 := B2.out.frozen 1 3 rfl
        have c14 := B2.out.cell 1 4 rfl rfl
        have z14 := B2.out.frozen 1 4 rfl
        have c15 := B2.out.cell 1 5 rfl rfl
        have z15 := B2.out.frozen 1 5 rfl
        have c20 := B2.out.cell 2 0 rfl rfl
        have z20 := B2.out.frozen 2 0 rfl
        have c21 := B2.out.cell 2 1 rfl rfl
        have z21 := B2.out.frozen 2 1 rfl
        have c22 := B2.out.cell 2 2 rfl rfl
        have z22 := B2.out.frozen 2 2 rfl
        have c30 := B2.out.cell 3 0 rfl rfl
        have z30 := B2.out.frozen 3 0 rfl
        have c31 := B2.out.cell 3 1 rfl rfl
        have z31 := B2.out.frozen 3 1 rfl
        have c32 := B2.out.cell 3 2 rfl rfl
        have z32 := B2.out.frozen 3 2 rfl
        have c33 := B2.out.cell 3 3 rfl rfl
        have z33 := B2.out.frozen 3 3 rfl
        have c34 := B2.out.cell 3 4 rfl rfl
        have z34 := B2.out.frozen 3 4 rfl
        have c35 := B2.out.cell 3 5 rfl rfl
        have z35 := B2.out.frozen 3 5 rfl
        simp only [Nat.add_zero] at c00 c01 c02 z00 z01 z02
        obtain ⟨w3, hw3, B3⟩ : ∃ w3, w3 = (((((((((w2.setCell ⟨w.heap.size, 0, none⟩ (.slice A n c)).setCell ⟨w.heap.size, 1, none⟩ (.int .i64 T')).setCell ⟨w.heap.size, 2, none⟩ (.int .i64 B')).setCell ⟨w.heap.size + 1, 0, none⟩ (.bool st2)).setCell ⟨w.heap.size + 1, 1, none⟩ (.int .i64 a2)).setCell ⟨w.heap.size + 1, 2, none⟩ (.int .i64 tp2)).setCell ⟨w.heap.size + 1, 3, none⟩ (.int .i64 bt2)).setCell ⟨w.heap.size + 1, 4, none⟩ (.int .i64 gt2)).setCell ⟨w.heap.size + 1, 5, none⟩ (.int .i64 en2)) ∧ Hid (Rws w (rowsS A n c T' B' ⟨st2, a2, tp2, bt2, gt2, en2⟩ (.slice none 0 0) (.int .i64 0) (.int .i64 0) (newTk false)) w3) := ⟨_, rfl, Lib.hid ((B2.out.setQ 0 rfl (.slice A n c) (.int .i64 T') (.int .i64 B')).setT 1 rfl (.bool st2) (.int .i64 a2) (.int .i64 tp2) (.int .i64 bt2) (.int .i64 gt2) (.int .i64 en2))⟩
        have HW3 := Lib.hid hw3
        have CK := Lib.hid (rcheck_d A n c T' B' w3 CI.out.ln)
        clear hw3
        go_wp2_with fail
        rw [← HW3.out]
        refine CK.out.mono ?_
        rintro e w4 ⟨rfl, b4⟩
        have B4 := Lib.hid (B3.out.next b4)
        clear b4 B3 B2 CK HW3
        clear c00 z00 c01 z01 c02 z02 c10 z10 c11 z11 c12 z12 c13 z13 c14 z14 c15 z15 c20 z20 c21 z21 c22 z22 c30 z30 c31 z31 c32 z32 c33 z33 c34 z34 c35 z35
        have c00 := B4.out.cell 0 0 rfl rfl
        have z00 := B4.out.frozen 0 0 rfl
        have c01 := B4.out.cell 0 1 rfl rfl
        have z01 := B4.out.frozen 0 1 rfl
        have c02 := B4.out.cell 0 2 rfl rfl
        have z02 := B4.out.frozen 0 2 rfl
        have c10 := B4.out.cell 1 0 rfl rfl
        have z10 := B4.out.frozen 1 0 rfl
        have c11 := B4.out.cell 1 1 rfl rfl
        have z11 := B4.out.frozen 1 1 rfl
        have c12 := B4.out.cell 1 2 rfl rfl
        have z12 := B4.out.frozen 1 2 rfl
        have c13 := B4.out.cell 1 3 rfl rfl
        have z13 := B4.out.frozen 1 3 rfl
        have c14 := B4.out.cell 1 4 rfl rfl
        have z14 := B4.out.frozen 1 4 rfl
        have c15 := B4.out.cell 1 5 rfl rfl
        have z15 := B4.out.frozen 1 5 rfl
        have c20 := B4.out.cell 2 0 rfl rfl
        have z20 := B4.out.frozen 2 0 rfl
        have c21 := B4.out.cell 2 1 rfl rfl
        have z21 := B4.out.frozen 2 1 rfl
        have c22 := B4.out.cell 2 2 rfl rfl
        have z22 := B4.out.frozen 2 2 rfl
        have c30 := B4.out.cell 3 0 rfl rfl
        have z30 := B4.out.frozen 3 0 rfl
        have c31 := B4.out.cell 3 1 rfl rfl
        have z31 := B4.out.frozen 3 1 rfl
        have c32 := B4.out.cell 3 2 rfl rfl
        have z32 := B4.out.frozen 3 2 rfl
        have c33 := B4.out.cell 3 3 rfl rfl
        have z33 := B4.out.frozen 3 3 rfl
        have c34 := B4.out.cell 3 4 rfl rfl
        have z34 := B4.out.frozen 3 4 rfl
        have c35 := B4.out.cell 3 5 rfl rfl
        have z35 := B4.out.frozen 3 5 rfl
        simp only [Nat.add_zero] at c00 c01 c02 z00 z01 z02
        by_cases hc : ChkQ n T' B'
        · have hs : s = (0, T', B', ⟨st2, a2, tp2, bt2, gt2, en2⟩) := by rw [HS2.out, if_neg (show ¬ ¬ ChkQ n T' B' from fun q => q hc)]
          rw [decide_eq_true hc]
          subst hs
          clear hc HS2 CI
          have B5 := Lib.hid ((B4.out.setQ 2 rfl (.slice A n c) (.int .i64 T') (.int .i64 B')).setT 3 rfl (.bool st2) (.int .i64 a2) (.int .i64 tp2) (.int .i64 bt2) (.int .i64 gt2) (.int .i64 en2))
          go_wp2
          go_region
          all_goals go_wp2
          all_goals refine bodyPost_ret (ret_qte rfl rfl rfl rfl ((B5.out.drew 1).row 2 _ _ rfl) rfl ((B5.out.drew 1).row 3 _ _ rfl) rfl) rfl ⟨rfl, (B5.out.drew 1).bel⟩
        · have hs : s = (120, 0, 0, newTk false) := by rw [HS2.out, if_pos hc]
          rw [decide_eq_false hc]
          subst hs
          clear hc HS2 CI
          have BZ := Lib.hid ((B4.out.setQ 2 rfl (.slice none 0 0) (.int .i64 0) (.int .i64 0)).setT 3 rfl (.bool false) (.int .i64 0) (.int .i64 0) (.int .i64 0) (.int .i64 0) (.int .i64 0))
          go_wp2
          all_goals refine bodyPost_ret (ret_qte rfl rfl rfl rfl (BZ.out.row 2 _ _ rfl) rfl (BZ.out.row 3 _ _ rfl) rfl) rfl ⟨rfl, BZ.out.bel⟩

end
end Go.Proofs.YtnlempddoiidiaaDoor
