/- trefoilref12.thief and owner in the seat YtnlempddoiidiaaDoor: their contracts.
   deque.isOver and its closure, and run's closure, in the seat YtnlempddoiidiaaDoor: their contracts.
   run's closure in the seat YtnlempddoiidiaaDoor (may it go on?): its contract.
   A scope in which the run jumps to five labels, forth and back, in the seat YtnlempddoiidiaaDoor: what holds at each of them, and a number that every jump lowers.
   A region that draws its order, by an invariant: what holds whichever operations have come up.
   No statement is proved here. -/
import Derived.Test.YtnlempddoiidiaaDoorZM4
import Derived.Test.YtnlempddoiidiaaDoorZM5
import Derived.Deep.Cut
import Derived.Test.YtnlempddoiidiaaDoorChecked
import Derived.ScopeJumps
import Derived.WalkMore
import Derived.Orders
import Derived.WalkKit
import Derived.KernelRfl
set_option linter.unusedSimpArgs false
set_option linter.unusedVariables false
namespace Go.Proofs.YtnlempddoiidiaaDoor
open Go Go.RowKit

theorem below4 {w : World} (o1 o2 o3 o4 : Obj) (N : Nat) : Below w.heap.size w (((((w.alloc o1).alloc o2).alloc o3).alloc o4).drewN N) :=
  below_drewN ((((below_alloc o1).trans ((below_alloc (w := w.alloc o1) o2).mono (by simp))).trans ((below_alloc (w := (w.alloc o1).alloc o2) o3).mono (by simp; omega))).trans ((below_alloc (w := ((w.alloc o1).alloc o2).alloc o3) o4).mono (by simp; omega))) N
section
variable {A : Option Addr} {n c : Nat} {R : List Int}
/-- What a move hands out. -/
def GotMove (A : Option Addr) (n c : Nat) (m : Int × Int × Tkr) (w : World) (e : Ending) (w' : World) : Prop :=
  e = .returned (.tuple #[.agg #[.slice A n c, .int .i64 m.1, .int .i64 m.2.1], vT m.2.2]) ∧ Below w.heap.size w w'
/-- The rows of a function over a deque and a taker. -/
def rowsM (A : Option Addr) (n c : Nat) (T B : Int) (t : Tkr) : List (TypeId × List Value) :=
  [(24, [.slice A n c, .int .i64 T, .int .i64 B]), (27, cT t), (24, [.slice none 0 0, .int .i64 0, .int .i64 0]), (27, cT (newTk false))]
set_option maxRecDepth 100000 in
set_option maxHeartbeats 8000000 in
theorem rthief_any (T B : Int) (t : Tkr) (w : World) (h : IsQ w A n c R) (hn : 0 < n) (h0 : 0 ≤ T) (h1 : T ≤ 1099511627775) (hk : t.at_ ≠ 0 → t.top ≤ 9223372036854775807) :
    Calls Tryd.prog 28 #[.agg #[.slice A n c, .int .i64 T, .int .i64 B], vT t] w (GotMove A n c (thiefD R T B t) w) := by
  obtain ⟨st, a, tp, bt, gt, en⟩ := t
  have HB := Lib.hid (fun o1 o2 o3 o4 N => below4 (w := w) o1 o2 o3 o4 N)
  by_cases a0 : a = 0
  · subst a0
    have hr : thiefD R T B ⟨st, 0, tp, bt, gt, en⟩ = (T, B, ⟨st, 1, T, bt, gt, en⟩) := rfl
    rw [hr]
    unfold vT GotMove
    clear hr h
    go_enter Tryd.func28, Tryd.ntmps28
    go_wp2
    go_region
    all_goals go_wp2
    all_goals refine bodyPost_ret (ret_qt rfl rfl rfl (row3of4 _ _ _ _ _ _ 1) rfl (row4of4 _ _ _ _ _ _ 1) rfl) rfl ⟨rfl, HB.out _ _ _ _ _⟩
  have b0 : (a == 0) = false := beq_eq_false_iff_ne.mpr a0
  by_cases a1 : a = 1
  · subst a1
    by_cases hb : B ≤ tp
    · have hr : thiefD R T B ⟨st, 1, tp, bt, gt, en⟩ = (T, B, ⟨st, 1, tp, B, gt, 2⟩) := by unfold thiefD; rw [if_neg (by show ¬ (1 : Int) = 0; decide), if_pos rfl, if_pos hb]
      rw [hr]
      unfold vT GotMove
      clear hr h
      go_enter Tryd.func28, Tryd.ntmps28
      go_wp2
      go_region
      all_goals go_wp2
      all_goals refine bodyPost_ret (ret_qt rfl rfl rfl (row3of4 _ _ _ _ _ _ 1) rfl (row4of4 _ _ _ _ _ _ 1) rfl) rfl ⟨rfl, HB.out _ _ _ _ _⟩
    · have hr : thiefD R T B ⟨st, 1, tp, bt, gt, en⟩ = (T, B, ⟨st, 2, tp, B, gt, en⟩) := by unfold thiefD; rw [if_neg (by show ¬ (1 : Int) = 0; decide), if_pos rfl, if_neg hb]
      rw [hr]
      unfold vT GotMove
      clear hr h
      go_enter Tryd.func28, Tryd.ntmps28
      go_wp2
      go_region
      all_goals go_wp2
      all_goals refine bodyPost_ret (ret_qt rfl rfl rfl (row3of4 _ _ _ _ _ _ 1) rfl (row4of4 _ _ _ _ _ _ 1) rfl) rfl ⟨rfl, HB.out _ _ _ _ _⟩
  have b1 : (a == 1) = false := beq_eq_false_iff_ne.mpr a1
  by_cases a2 : a = 2
  · subst a2
    obtain ⟨p, hp⟩ : ∃ p, p = placeD R tp := ⟨_, rfl⟩
    have hr : thiefD R T B ⟨st, 2, tp, bt, gt, en⟩ = (T, B, ⟨st, 3, tp, bt, p, en⟩) := by unfold thiefD; rw [if_neg (by show ¬ (2 : Int) = 0; decide), if_neg (by show ¬ (2 : Int) = 1; decide), if_pos rfl, hp]
    rw [hr]
    have B0 := Lib.hid (Rws.start w (rowsM A n c T B ⟨st, 2, tp, bt, gt, en⟩))
    have CA := Lib.hid (rat_any T B tp _ (h.below B0.out.bel) hn (hk (by show (2 : Int) ≠ 0; decide)))
    rw [← hp] at CA
    obtain ⟨w0, hw0⟩ : ∃ w0, w0 = allocs w (rowsM A n c T B ⟨st, 2, tp, bt, gt, en⟩) := ⟨_, rfl⟩
    rw [← hw0] at CA B0
    have HW : Hid (w0 = ((((w.alloc (.cells #[.slice A n c, .int .i64 T, .int .i64 B] 24)).alloc (.cells #[.bool st, .int .i64 2, .int .i64 tp, .int .i64 bt, .int .i64 gt, .int .i64 en] 27)).alloc (.cells #[.slice none 0 0, .int .i64 0, .int .i64 0] 24)).alloc (.cells #[.bool false, .int .i64 0, .int .i64 0, .int .i64 0, .int .i64 0, .int .i64 0] 27))) := Lib.hid hw0
    unfold vT GotMove
    clear hr h hp hw0 HB
    go_enter Tryd.func28, Tryd.ntmps28
    go_wp2_with fail
    rw [← HW.out]
    refine CA.out.mono ?_
    rintro e w1 ⟨rfl, b1⟩
    have B1 := Lib.hid (B0.out.next b1)
    clear b1 B0 CA HW
    have c0 := B1.out.cell 0 0 rfl rfl
    have c1 := B1.out.cell 0 1 rfl rfl
    have c2 := B1.out.cell 0 2 rfl rfl
    have d0 := B1.out.cell 1 0 rfl rfl
    have d1 := B1.out.cell 1 1 rfl rfl
    have d2 := B1.out.cell 1 2 rfl rfl
    have d3 := B1.out.cell 1 3 rfl rfl
    have d4 := B1.out.cell 1 4 rfl rfl
    have d5 := B1.out.cell 1 5 rfl rfl
    have x0 := B1.out.cell 2 0 rfl rfl
    have x1 := B1.out.cell 2 1 rfl rfl
    have x2 := B1.out.cell 2 2 rfl rfl
    have y0 := B1.out.cell 3 0 rfl rfl
    have y1 := B1.out.cell 3 1 rfl rfl
    have y2 := B1.out.cell 3 2 rfl rfl
    have y3 := B1.out.cell 3 3 rfl rfl
    have y4 := B1.out.cell 3 4 rfl rfl
    have y5 := B1.out.cell 3 5 rfl rfl
    simp only [Nat.add_zero] at c0 c1 c2
    have z10 := B1.out.frozen 1 0 rfl
    have z11 := B1.out.frozen 1 1 rfl
    have z12 := B1.out.frozen 1 2 rfl
    have z13 := B1.out.frozen 1 3 rfl
    have z14 := B1.out.frozen 1 4 rfl
    have z15 := B1.out.frozen 1 5 rfl
    have z20 := B1.out.frozen 2 0 rfl
    have z21 := B1.out.frozen 2 1 rfl
    have z22 := B1.out.frozen 2 2 rfl
    have z30 := B1.out.frozen 3 0 rfl
    have z31 := B1.out.frozen 3 1 rfl
    have z32 := B1.out.frozen 3 2 rfl
    have z33 := B1.out.frozen 3 3 rfl
    have z34 := B1.out.frozen 3 4 rfl
    have z35 := B1.out.frozen 3 5 rfl
    have B2 := Lib.hid ((((B1.out.set 1 4 rfl (.int .i64 p)).set 1 1 rfl (.int .i64 3)).setQ 2 rfl (.slice A n c) (.int .i64 T) (.int .i64 B)).setT 3 rfl (.bool st) (.int .i64 3) (.int .i64 tp) (.int .i64 bt) (.int .i64 p) (.int .i64 en))
    go_wp2
    go_region
    all_goals go_wp2
    all_goals refine bodyPost_ret (ret_qt rfl rfl rfl ((B2.out.drew 1).row 2 _ _ rfl) rfl ((B2.out.drew 1).row 3 _ _ rfl) rfl) rfl ⟨rfl, (B2.out.drew 1).bel⟩
  have b2 : (a == 2) = false := beq_eq_false_iff_ne.mpr a2
  by_cases hT : T = tp
  · have hr : thiefD R T B ⟨st, a, tp, bt, gt, en⟩ = (T + 1, B, ⟨st, a, tp, bt, gt, 1⟩) := by unfold thiefD; rw [if_neg a0, if_neg a1, if_neg a2, if_pos hT]
    rw [hr]
    have hb : (T == tp) = true := by rw [beq_iff_eq]; exact hT
    unfold vT GotMove
    clear hr h hT
    go_enter Tryd.func28, Tryd.ntmps28
    go_wp2
    go_region
    all_goals go_wp2
    all_goals refine bodyPost_ret (ret_qt rfl rfl rfl (row3of4 _ _ _ _ _ _ 1) rfl (row4of4 _ _ _ _ _ _ 1) rfl) rfl ⟨rfl, HB.out _ _ _ _ _⟩
  · have hr : thiefD R T B ⟨st, a, tp, bt, gt, en⟩ = (T, B, ⟨st, a, tp, bt, 0, 3⟩) := by unfold thiefD; rw [if_neg a0, if_neg a1, if_neg a2, if_neg hT]
    rw [hr]
    have hb : (T == tp) = false := beq_eq_false_iff_ne.mpr hT
    unfold vT GotMove
    clear hr h hT
    go_enter Tryd.func28, Tryd.ntmps28
    go_wp2
    go_region
    all_goals go_wp2
    all_goals refine bodyPost_ret (ret_qt rfl rfl rfl (row3of4 _ _ _ _ _ _ 1) rfl (row4of4 _ _ _ _ _ _ 1) rfl) rfl ⟨rfl, HB.out _ _ _ _ _⟩
end
end Go.Proofs.YtnlempddoiidiaaDoor
set_option linter.unusedVariables false
namespace Go.Proofs.YtnlempddoiidiaaDoor
open Go Go.RowKit

theorem dwrong_any (n : Int) (w : World) : Calls Tryd.prog 42 #[.int .i64 n] w fun e w' => e = .returned (.bool (decide (n < -1 ∨ 1099511627775 < n))) ∧ w = w' := by
  by_cases h1 : n < -1
  · have e1 : decide (n < -1) = true := decide_eq_true h1
    rw [decide_eq_true (show n < -1 ∨ 1099511627775 < n from .inl h1)]
    clear h1
    go_enter Tryd.func42, Tryd.ntmps42
    go_wp2
    go_ret
    exact ⟨rfl, rfl⟩
  have e1 : decide (n < -1) = false := decide_eq_false h1
  by_cases h2 : 1099511627775 < n
  · have e2 : decide (1099511627775 < n) = true := decide_eq_true h2
    rw [decide_eq_true (show n < -1 ∨ 1099511627775 < n from .inr h2)]
    clear h1 h2
    go_enter Tryd.func42, Tryd.ntmps42
    go_wp2
    go_ret
    exact ⟨rfl, rfl⟩
  · have e2 : decide (1099511627775 < n) = false := decide_eq_false h2
    rw [decide_eq_false (show ¬ (n < -1 ∨ 1099511627775 < n) from fun q => q.elim h1 h2)]
    clear h1 h2
    go_enter Tryd.func42, Tryd.ntmps42
    go_wp2
    go_ret
    exact ⟨rfl, rfl⟩
set_option maxRecDepth 100000 in
set_option maxHeartbeats 8000000 in
theorem dover_any (t : Tkr) (w : World) : Calls Tryd.prog 38 #[vT t] w fun e w' => e = .returned (.bool (decide (OverT t))) ∧ Below w.heap.size w w' := by
  obtain ⟨st, a, tp, bt, gt, en⟩ := t
  have HB := Lib.hid (below_alloc (w := w) (.cells #[.bool st, .int .i64 a, .int .i64 tp, .int .i64 bt, .int .i64 gt, .int .i64 en] 27))
  have CW := Lib.hid (fun n W => dwrong_any n W)
  obtain ⟨r, hr⟩ : ∃ r, r = decide (OverT ⟨st, a, tp, bt, gt, en⟩) := ⟨_, rfl⟩
  rw [← hr]
  have HY : Hid (OverT ⟨st, a, tp, bt, gt, en⟩ → r = true) := Lib.hid fun q => by rw [hr]; exact decide_eq_true q
  have HN : Hid (¬ OverT ⟨st, a, tp, bt, gt, en⟩ → r = false) := Lib.hid fun q => by rw [hr]; exact decide_eq_false q
  unfold vT
  clear hr
  obtain ⟨L, hL⟩ : ∃ L : Int, L = if st = true then 3 else 4 := ⟨_, rfl⟩
  have HO : Hid (OverT ⟨st, a, tp, bt, gt, en⟩ ↔ en ≠ 0 ∨ a < 0 ∨ L < a ∨ (a ≠ 0 ∧ WildT ⟨st, a, tp, bt, gt, en⟩)) := Lib.hid (by rw [hL]; exact Iff.rfl)
  have HLL := Lib.hid hL
  clear hL
  by_cases q1 : ¬ en = 0
  · obtain rfl : r = true := HY.out (HO.out.mpr (.inl q1))
    have r1 : (en != 0) = true := bne_iff_ne.mpr q1
    clear q1 HY HN HO
    cases st
    all_goals
      go_enter Tryd.func38, Tryd.ntmps38
      go_wp2
      go_ret
      exact ⟨rfl, HB.out⟩
  have r1 : (en != 0) = false := by simp [Classical.not_not.mp q1]
  have HQ1 := Lib.hid q1
  clear q1
  by_cases q2 : a < 0
  · obtain rfl : r = true := HY.out (HO.out.mpr (.inr (.inl q2)))
    have r2 : decide (a < 0) = true := decide_eq_true q2
    clear q2 HY HN HO
    cases st
    all_goals
      go_enter Tryd.func38, Tryd.ntmps38
      go_wp2
      go_ret
      exact ⟨rfl, HB.out⟩
  have r2 : decide (a < 0) = false := decide_eq_false q2
  by_cases q3 : L < a
  · obtain rfl : r = true := HY.out (HO.out.mpr (.inr (.inr (.inl q3))))
    clear HY HN HO
    cases st
    · obtain rfl : L = 4 := HLL.out
      have r3 : decide (4 < a) = true := decide_eq_true q3
      clear q2 q3
      go_enter Tryd.func38, Tryd.ntmps38
      go_wp2
      go_ret
      exact ⟨rfl, HB.out⟩
    · obtain rfl : L = 3 := HLL.out
      have r3 : decide (3 < a) = true := decide_eq_true q3
      clear q2 q3
      go_enter Tryd.func38, Tryd.ntmps38
      go_wp2
      go_ret
      exact ⟨rfl, HB.out⟩
  have key : ∀ (z : Bool) (g : (a != 0) = z) (u v : Bool), (decide (tp < -1 ∨ 1099511627775 < tp)) = u → (decide (bt < -1 ∨ 1099511627775 < bt)) = v → r = (z && (u || v)) := fun z g u v hu hv => by
    cases z
    · have ha : a = 0 := by simpa using g
      exact HN.out fun q => by
        rcases HO.out.mp q with q | q | q | q
        · exact HQ1.out q
        · exact q2 q
        · exact q3 q
        · exact q.1 ha
    · have ha : a ≠ 0 := bne_iff_ne.mp g
      by_cases hw : WildT ⟨st, a, tp, bt, gt, en⟩
      · rw [HY.out (HO.out.mpr (.inr (.inr (.inr ⟨ha, hw⟩)))), ← hu, ← hv]
        rcases hw with q | q | q | q
        · rw [decide_eq_true (show tp < -1 ∨ 1099511627775 < tp from .inl q)]; rfl
        · rw [decide_eq_true (show tp < -1 ∨ 1099511627775 < tp from .inr q)]; rfl
        · rw [decide_eq_true (show bt < -1 ∨ 1099511627775 < bt from .inl q)]; simp
        · rw [decide_eq_true (show bt < -1 ∨ 1099511627775 < bt from .inr q)]; simp
      · rw [HN.out fun q => by
          rcases HO.out.mp q with q | q | q | q
          · exact HQ1.out q
          · exact q2 q
          · exact q3 q
          · exact hw q.2, ← hu, ← hv]
        rw [decide_eq_false (fun q : tp < -1 ∨ 1099511627775 < tp => hw (q.elim .inl fun q => .inr (.inl q))), decide_eq_false (fun q : bt < -1 ∨ 1099511627775 < bt => hw (q.elim (fun q => .inr (.inr (.inl q))) fun q => .inr (.inr (.inr q))))]
        rfl
  have r34 : Hid (decide (L < a) = false) := Lib.hid (decide_eq_false q3)
  obtain ⟨z, hz⟩ : ∃ z, (a != 0) = z := ⟨_, rfl⟩
  obtain ⟨u, hu⟩ : ∃ u, decide (tp < -1 ∨ 1099511627775 < tp) = u := ⟨_, rfl⟩
  obtain ⟨v, hv⟩ : ∃ v, decide (bt < -1 ∨ 1099511627775 < bt) = v := ⟨_, rfl⟩
  have hrr := key z hz u v hu hv
  have CU : Hid (∀ W : World, Calls Tryd.prog 42 #[.int .i64 tp] W fun e w' => e = .returned (.bool u) ∧ W = w') := Lib.hid (fun W => by rw [← hu]; exact CW.out tp W)
  have CV : Hid (∀ W : World, Calls Tryd.prog 42 #[.int .i64 bt] W fun e w' => e = .returned (.bool v) ∧ W = w') := Lib.hid (fun W => by rw [← hv]; exact CW.out bt W)
  clear key hu hv q2 q3 HY HN HO CW
  cases st
  · obtain rfl : L = 4 := HLL.out
    have r3 : decide (4 < a) = false := r34.out
    clear r34 HLL
    cases z <;> cases u <;> cases v <;> (
      subst hrr
      go_enter Tryd.func38, Tryd.ntmps38
      go_wp2_with (first
        | (refine (CU.out _).mono ?_; rintro e w' ⟨rfl, rfl⟩)
        | (refine (CV.out _).mono ?_; rintro e w' ⟨rfl, rfl⟩))
      go_ret
      exact ⟨rfl, HB.out⟩)
  · obtain rfl : L = 3 := HLL.out
    have r3 : decide (3 < a) = false := r34.out
    clear r34 HLL
    cases z <;> cases u <;> cases v <;> (
      subst hrr
      go_enter Tryd.func38, Tryd.ntmps38
      go_wp2_with (first
        | (refine (CU.out _).mono ?_; rintro e w' ⟨rfl, rfl⟩)
        | (refine (CV.out _).mono ?_; rintro e w' ⟨rfl, rfl⟩))
      go_ret
      exact ⟨rfl, HB.out⟩)
end Go.Proofs.YtnlempddoiidiaaDoor
set_option linter.unusedVariables false
set_option linter.unusedSimpArgs false
namespace Go.Proofs.YtnlempddoiidiaaDoor
open Go Go.RowKit

section
variable {A : Option Addr} {n c : Nat} {R : List Int}
/-- run's boxes: the deque, the taker, is it one step?, what is handed out (twice), the error, has it begun? -/
def rowsR (A : Option Addr) (n c : Nat) (T B : Int) (t : Tkr) (one : Bool) (e : Int) (b : Bool) : List (TypeId × List Value) :=
  [(24, [.slice A n c, .int .i64 T, .int .i64 B]), (27, cT t), (4, [.bool one]), (24, [.slice none 0 0, .int .i64 0, .int .i64 0]), (27, cT (newTk false)), (29, [.int .i64 e]), (4, [.bool b])]
def mayG (n : Nat) (T B : Int) (t : Tkr) (one b : Bool) : Bool := decide (ChkQ n T B ∧ ¬ StopT one b t ∧ ¬ OverT t)
def mayE (n : Nat) (T B : Int) (t : Tkr) (one b : Bool) : Int := if ¬ ChkQ n T B then 120 else if StopT one b t then 0 else if OverT t then 122 else 0
set_option maxRecDepth 100000 in
set_option maxHeartbeats 8000000 in
theorem dmay_any (T B : Int) (t : Tkr) (one b : Bool) (z : Int) (wf wr : World) (hn : n ≤ 1000) (hT : DTab wf) (B0 : Rws wf (rowsR A n c T B t one z b) wr) :
    Calls Tryd.prog 37 #[.pointer (some ⟨wf.heap.size, 0, none⟩), .pointer (some ⟨wf.heap.size + 1 + 1 + 1 + 1 + 1, 0, none⟩), .pointer (some ⟨wf.heap.size + 1 + 1 + 1 + 1 + 1 + 1, 0, none⟩), .pointer (some ⟨wf.heap.size + 1 + 1, 0, none⟩), .pointer (some ⟨wf.heap.size + 1, 0, none⟩)] wr
      fun e w' => e = .returned (.bool (mayG n T B t one b)) ∧ Rws wf (rowsR A n c T B t one (mayE n T B t one b) (b || mayG n T B t one b)) w' := by
  obtain ⟨st, a, tp, bt, gt, en⟩ := t
  have CK := Lib.hid (dcheck_any A n c T B wr hn (hT.via B0.bel))
  have B0h := Lib.hid B0
  obtain ⟨x, hx⟩ : ∃ x, x = chkQE n T B := ⟨_, rfl⟩
  rw [← hx] at CK
  have HX := Lib.hid hx
  clear B0 hT hx
  have c00 := B0h.out.cell 0 0 rfl rfl
  have c01 := B0h.out.cell 0 1 rfl rfl
  have c02 := B0h.out.cell 0 2 rfl rfl
  have c10 := B0h.out.cell 1 0 rfl rfl
  have c11 := B0h.out.cell 1 1 rfl rfl
  have c12 := B0h.out.cell 1 2 rfl rfl
  have c13 := B0h.out.cell 1 3 rfl rfl
  have c14 := B0h.out.cell 1 4 rfl rfl
  have c15 := B0h.out.cell 1 5 rfl rfl
  have c20 := B0h.out.cell 2 0 rfl rfl
  have c50 := B0h.out.cell 5 0 rfl rfl
  have zc50 := B0h.out.frozen 5 0 rfl
  have c60 := B0h.out.cell 6 0 rfl rfl
  have zc60 := B0h.out.frozen 6 0 rfl
  simp only [Nat.add_zero] at c00 c01 c02
  by_cases hc : ¬ ChkQ n T B
  · have hg : mayG n T B ⟨st, a, tp, bt, gt, en⟩ one b = false := decide_eq_false fun q => hc q.1
    have he : mayE n T B ⟨st, a, tp, bt, gt, en⟩ one b = 120 := by unfold mayE; rw [if_pos hc]
    obtain rfl : x = 120 := by rw [HX.out]; unfold chkQE; rw [if_neg hc]
    rw [hg, he, Bool.or_false]
    clear hg he HX hc
    go_enter Tryd.func37, Tryd.ntmps37
    go_wp2_with fail
    refine CK.out.mono ?_
    rintro e w1 ⟨rfl, b1⟩
    have B1 := Lib.hid (B0h.out.next b1)
    clear b1 CK B0h
    clear c00 c01 c02 c10 c11 c12 c13 c14 c15 c20 c50 zc50 c60 zc60
    have c00 := B1.out.cell 0 0 rfl rfl
    have c01 := B1.out.cell 0 1 rfl rfl
    have c02 := B1.out.cell 0 2 rfl rfl
    have c10 := B1.out.cell 1 0 rfl rfl
    have c11 := B1.out.cell 1 1 rfl rfl
    have c12 := B1.out.cell 1 2 rfl rfl
    have c13 := B1.out.cell 1 3 rfl rfl
    have c14 := B1.out.cell 1 4 rfl rfl
    have c15 := B1.out.cell 1 5 rfl rfl
    have c20 := B1.out.cell 2 0 rfl rfl
    have c50 := B1.out.cell 5 0 rfl rfl
    have zc50 := B1.out.frozen 5 0 rfl
    have c60 := B1.out.cell 6 0 rfl rfl
    have zc60 := B1.out.frozen 6 0 rfl
    simp only [Nat.add_zero] at c00 c01 c02
    have B2 := Lib.hid (B1.out.set 5 0 rfl (.int .i64 120))
    go_wp2
    go_ret
    exact ⟨rfl, B2.out⟩
  replace hc := Classical.not_not.mp hc
  obtain rfl : x = 0 := by rw [HX.out]; unfold chkQE; rw [if_pos hc]
  have e1 : ¬ ¬ ChkQ n T B := fun q => q hc
  by_cases hs : StopT one b ⟨st, a, tp, bt, gt, en⟩
  · have hg : mayG n T B ⟨st, a, tp, bt, gt, en⟩ one b = false := decide_eq_false fun q => q.2.1 hs
    have he : mayE n T B ⟨st, a, tp, bt, gt, en⟩ one b = 0 := by unfold mayE; rw [if_neg e1, if_pos hs]
    rw [hg, he, Bool.or_false]
    obtain ⟨hb, hs⟩ := hs
    subst hb
    clear hg he HX e1 hc
    cases one
    · have hen : (en != 0) = true := bne_iff_ne.mpr (hs.resolve_left (by decide))
      clear hs
      go_enter Tryd.func37, Tryd.ntmps37
      go_wp2_with fail
      refine CK.out.mono ?_
      rintro e w1 ⟨rfl, b1⟩
      have B1 := Lib.hid (B0h.out.next b1)
      clear b1 CK B0h
      clear c00 c01 c02 c10 c11 c12 c13 c14 c15 c20 c50 zc50 c60 zc60
      have c00 := B1.out.cell 0 0 rfl rfl
      have c01 := B1.out.cell 0 1 rfl rfl
      have c02 := B1.out.cell 0 2 rfl rfl
      have c10 := B1.out.cell 1 0 rfl rfl
      have c11 := B1.out.cell 1 1 rfl rfl
      have c12 := B1.out.cell 1 2 rfl rfl
      have c13 := B1.out.cell 1 3 rfl rfl
      have c14 := B1.out.cell 1 4 rfl rfl
      have c15 := B1.out.cell 1 5 rfl rfl
      have c20 := B1.out.cell 2 0 rfl rfl
      have c50 := B1.out.cell 5 0 rfl rfl
      have zc50 := B1.out.frozen 5 0 rfl
      have c60 := B1.out.cell 6 0 rfl rfl
      have zc60 := B1.out.frozen 6 0 rfl
      simp only [Nat.add_zero] at c00 c01 c02
      have B2 := Lib.hid (B1.out.set 5 0 rfl (.int .i64 0))
      go_wp2
      go_ret
      exact ⟨rfl, B2.out⟩
    · clear hs
      go_enter Tryd.func37, Tryd.ntmps37
      go_wp2_with fail
      refine CK.out.mono ?_
      rintro e w1 ⟨rfl, b1⟩
      have B1 := Lib.hid (B0h.out.next b1)
      clear b1 CK B0h
      clear c00 c01 c02 c10 c11 c12 c13 c14 c15 c20 c50 zc50 c60 zc60
      have c00 := B1.out.cell 0 0 rfl rfl
      have c01 := B1.out.cell 0 1 rfl rfl
      have c02 := B1.out.cell 0 2 rfl rfl
      have c10 := B1.out.cell 1 0 rfl rfl
      have c11 := B1.out.cell 1 1 rfl rfl
      have c12 := B1.out.cell 1 2 rfl rfl
      have c13 := B1.out.cell 1 3 rfl rfl
      have c14 := B1.out.cell 1 4 rfl rfl
      have c15 := B1.out.cell 1 5 rfl rfl
      have c20 := B1.out.cell 2 0 rfl rfl
      have c50 := B1.out.cell 5 0 rfl rfl
      have zc50 := B1.out.frozen 5 0 rfl
      have c60 := B1.out.cell 6 0 rfl rfl
      have zc60 := B1.out.frozen 6 0 rfl
      simp only [Nat.add_zero] at c00 c01 c02
      have B2 := Lib.hid (B1.out.set 5 0 rfl (.int .i64 0))
      go_wp2
      go_ret
      exact ⟨rfl, B2.out⟩
  have DO := Lib.hid (fun W => dover_any ⟨st, a, tp, bt, gt, en⟩ W)
  unfold vT at DO
  simp only at DO
  obtain ⟨v, hv⟩ : ∃ v, v = decide (OverT ⟨st, a, tp, bt, gt, en⟩) := ⟨_, rfl⟩
  rw [← hv] at DO
  have hg : mayG n T B ⟨st, a, tp, bt, gt, en⟩ one b = !v := by
    rw [hv]
    unfold mayG
    by_cases ho : OverT ⟨st, a, tp, bt, gt, en⟩
    · rw [decide_eq_true ho, decide_eq_false (fun q => q.2.2 ho)]; rfl
    · rw [decide_eq_false ho, decide_eq_true ⟨hc, hs, ho⟩]; rfl
  have he : mayE n T B ⟨st, a, tp, bt, gt, en⟩ one b = if v = true then 122 else 0 := by
    rw [hv]
    unfold mayE
    rw [if_neg e1, if_neg hs]
    by_cases ho : OverT ⟨st, a, tp, bt, gt, en⟩
    · rw [if_pos ho, if_pos (decide_eq_true ho)]
    · rw [if_neg ho, if_neg (fun q => ho (of_decide_eq_true q))]
  rw [hg, he]
  have HS : Hid (b = false ∨ (b = true ∧ one = false ∧ (en != 0) = false)) := Lib.hid (by
    cases b
    · exact .inl rfl
    · refine .inr ⟨rfl, ?_, ?_⟩
      · cases one
        · rfl
        · exact absurd ⟨rfl, .inl rfl⟩ hs
      · cases h : (en != 0) with
        | false => rfl
        | true => exact absurd ⟨rfl, .inr (bne_iff_ne.mp h)⟩ hs)
  clear hg he HX e1 hc hs hv
  rcases HS.out with rfl | ⟨rfl, rfl, hen⟩
  · clear HS
    go_enter Tryd.func37, Tryd.ntmps37
    go_wp2_with fail
    refine CK.out.mono ?_
    rintro e w1 ⟨rfl, b1⟩
    have B1 := Lib.hid (B0h.out.next b1)
    clear b1 CK B0h
    clear c00 c01 c02 c10 c11 c12 c13 c14 c15 c20 c50 zc50 c60 zc60
    have c00 := B1.out.cell 0 0 rfl rfl
    have c01 := B1.out.cell 0 1 rfl rfl
    have c02 := B1.out.cell 0 2 rfl rfl
    have c10 := B1.out.cell 1 0 rfl rfl
    have c11 := B1.out.cell 1 1 rfl rfl
    have c12 := B1.out.cell 1 2 rfl rfl
    have c13 := B1.out.cell 1 3 rfl rfl
    have c14 := B1.out.cell 1 4 rfl rfl
    have c15 := B1.out.cell 1 5 rfl rfl
    have c20 := B1.out.cell 2 0 rfl rfl
    have c50 := B1.out.cell 5 0 rfl rfl
    have zc50 := B1.out.frozen 5 0 rfl
    have c60 := B1.out.cell 6 0 rfl rfl
    have zc60 := B1.out.frozen 6 0 rfl
    simp only [Nat.add_zero] at c00 c01 c02
    obtain ⟨w2, hw2, B2⟩ : ∃ w2, w2 = w1.setCell ⟨wf.heap.size + 1 + 1 + 1 + 1 + 1, 0, none⟩ (.int .i64 0) ∧ Hid (Rws wf (rowsR A n c T B ⟨st, a, tp, bt, gt, en⟩ one 0 false) w2) := ⟨_, rfl, Lib.hid (B1.out.set 5 0 rfl (.int .i64 0))⟩
    have HW2 := Lib.hid hw2
    clear hw2
    go_wp2_with fail
    rw [← HW2.out]
    refine (DO.out w2).mono ?_
    rintro e w3 ⟨rfl, b3⟩
    have B3 := Lib.hid (B2.out.next b3)
    clear b3 B2 B1 DO HW2
    clear c00 c01 c02 c10 c11 c12 c13 c14 c15 c20 c50 zc50 c60 zc60
    have c00 := B3.out.cell 0 0 rfl rfl
    have c01 := B3.out.cell 0 1 rfl rfl
    have c02 := B3.out.cell 0 2 rfl rfl
    have c10 := B3.out.cell 1 0 rfl rfl
    have c11 := B3.out.cell 1 1 rfl rfl
    have c12 := B3.out.cell 1 2 rfl rfl
    have c13 := B3.out.cell 1 3 rfl rfl
    have c14 := B3.out.cell 1 4 rfl rfl
    have c15 := B3.out.cell 1 5 rfl rfl
    have c20 := B3.out.cell 2 0 rfl rfl
    have c50 := B3.out.cell 5 0 rfl rfl
    have zc50 := B3.out.frozen 5 0 rfl
    have c60 := B3.out.cell 6 0 rfl rfl
    have zc60 := B3.out.frozen 6 0 rfl
    simp only [Nat.add_zero] at c00 c01 c02
    cases v
    · have B4 := Lib.hid (B3.out.set 6 0 rfl (.bool true))
      go_wp2
      go_ret
      exact ⟨rfl, B4.out⟩
    · have B4 := Lib.hid (B3.out.set 5 0 rfl (.int .i64 122))
      go_wp2
      go_ret
      exact ⟨rfl, B4.out⟩
  · clear HS
    go_enter Tryd.func37, Tryd.ntmps37
    go_wp2_with fail
    refine CK.out.mono ?_
    rintro e w1 ⟨rfl, b1⟩
    have B1 := Lib.hid (B0h.out.next b1)
    clear b1 CK B0h
    clear c00 c01 c02 c10 c11 c12 c13 c14 c15 c20 c50 zc50 c60 zc60
    have c00 := B1.out.cell 0 0 rfl rfl
    have c01 := B1.out.cell 0 1 rfl rfl
    have c02 := B1.out.cell 0 2 rfl rfl
    have c10 := B1.out.cell 1 0 rfl rfl
    have c11 := B1.out.cell 1 1 rfl rfl
    have c12 := B1.out.cell 1 2 rfl rfl
    have c13 := B1.out.cell 1 3 rfl rfl
    have c14 := B1.out.cell 1 4 rfl rfl
    have c15 := B1.out.cell 1 5 rfl rfl
    have c20 := B1.out.cell 2 0 rfl rfl
    have c50 := B1.out.cell 5 0 rfl rfl
    have zc50 := B1.out.frozen 5 0 rfl
    have c60 := B1.out.cell 6 0 rfl rfl
    have zc60 := B1.out.frozen 6 0 rfl
    simp only [Nat.add_zero] at c00 c01 c02
    obtain ⟨w2, hw2, B2⟩ : ∃ w2, w2 = w1.setCell ⟨wf.heap.size + 1 + 1 + 1 + 1 + 1, 0, none⟩ (.int .i64 0) ∧ Hid (Rws wf (rowsR A n c T B ⟨st, a, tp, bt, gt, en⟩ false 0 true) w2) := ⟨_, rfl, Lib.hid (B1.out.set 5 0 rfl (.int .i64 0))⟩
    have HW2 := Lib.hid hw2
    clear hw2
    go_wp2_with fail
    rw [← HW2.out]
    refine (DO.out w2).mono ?_
    rintro e w3 ⟨rfl, b3⟩
    have B3 := Lib.hid (B2.out.next b3)
    clear b3 B2 B1 DO HW2
    clear c00 c01 c02 c10 c11 c12 c13 c14 c15 c20 c50 zc50 c60 zc60
    have c00 := B3.out.cell 0 0 rfl rfl
    have c01 := B3.out.cell 0 1 rfl rfl
    have c02 := B3.out.cell 0 2 rfl rfl
    have c10 := B3.out.cell 1 0 rfl rfl
    have c11 := B3.out.cell 1 1 rfl rfl
    have c12 := B3.out.cell 1 2 rfl rfl
    have c13 := B3.out.cell 1 3 rfl rfl
    have c14 := B3.out.cell 1 4 rfl rfl
    have c15 := B3.out.cell 1 5 rfl rfl
    have c20 := B3.out.cell 2 0 rfl rfl
    have c50 := B3.out.cell 5 0 rfl rfl
    have zc50 := B3.out.frozen 5 0 rfl
    have c60 := B3.out.cell 6 0 rfl rfl
    have zc60 := B3.out.frozen 6 0 rfl
    simp only [Nat.add_zero] at c00 c01 c02
    cases v
    · have B4 := Lib.hid (B3.out.set 6 0 rfl (.bool true))
      go_wp2
      go_ret
      exact ⟨rfl, B4.out⟩
    · have B4 := Lib.hid (B3.out.set 5 0 rfl (.int .i64 122))
      go_wp2
      go_ret
      exact ⟨rfl, B4.out⟩
end
end Go.Proofs.YtnlempddoiidiaaDoor
set_option linter.unusedVariables false
namespace Go.Proofs.YtnlempddoiidiaaDoor
open Go

/-- By a goto to one of five labels: K; else as Q. -/
def toLabels (K : Nat → Act → World → Prop) (Q : Exit → Act → World → Prop) : Exit → Act → World → Prop
  | .goto l, a, w => l < 5 ∧ K l a w
  | .normal, a, w => Q .normal a w
  | .exit b, a, w => Q (.exit b) a w
  | .ret, a, w => Q .ret a w
  | .panic ch, a, w => Q (.panic ch) a w
  | .outgrown, a, w => Q .outgrown a w
/-- .. with a smaller number. -/
def lowers (J : Nat → Nat → Act → World → Prop) (m : Nat) : Nat → Act → World → Prop := fun l a w => ∃ m', m' < m ∧ J m' l a w
theorem wp_scope_five {P : Program} {a : Act} {w : World} {Q : Exit → Act → World → Prop} {X r1 r2 r3 r4 : Code} (J : Nat → Nat → Act → World → Prop)
    (f1 : findLabel ((Code.label 0).seq X) 1 = some r1) (f2 : findLabel ((Code.label 0).seq X) 2 = some r2) (f3 : findLabel ((Code.label 0).seq X) 3 = some r3) (f4 : findLabel ((Code.label 0).seq X) 4 = some r4)
    (start : ∃ m, J m 0 a w)
    (p0 : ∀ m a w, J m 0 a w → X.wp P (toLabels (lowers J m) Q) a w) (p1 : ∀ m a w, J m 1 a w → r1.wp P (toLabels (lowers J m) Q) a w) (p2 : ∀ m a w, J m 2 a w → r2.wp P (toLabels (lowers J m) Q) a w)
    (p3 : ∀ m a w, J m 3 a w → r3.wp P (toLabels (lowers J m) Q) a w) (p4 : ∀ m a w, J m 4 a w → r4.wp P (toLabels (lowers J m) Q) a w) : (Code.scope ((Code.label 0).seq X)).wp P Q a w := by
  have first : ((Code.label 0).seq X).wp P (toLabels (fun l a w => ∃ m, J m l a w) Q) a w := by
    obtain ⟨m, hm⟩ := start
    refine wp_seq (wp_label ?_)
    refine Code.wp_mono (fun e a w h => ?_) (p0 m a w hm)
    cases e with
    | goto l =>
      obtain ⟨h1, m', _, h2⟩ := h
      exact ⟨h1, m', h2⟩
    | normal => exact h
    | exit b => exact h
    | ret => exact h
    | panic ch => exact h
    | outgrown => exact h
  obtain ⟨c, hc⟩ : ∃ c, c = (Code.label 0).seq X := ⟨_, rfl⟩
  have f0 : findLabel c 0 = some (Code.skip.seq X) := by rw [hc]; rfl
  have q0 : ∀ m a w, J m 0 a w → (Code.skip.seq X).wp P (toLabels (lowers J m) Q) a w := fun m a w h => wp_seq (wp_skip (p0 m a w h))
  obtain ⟨r0, hr0⟩ : ∃ r0, r0 = Code.skip.seq X := ⟨_, rfl⟩
  rw [← hc] at f1 f2 f3 f4 first ⊢
  rw [← hr0] at f0 q0
  obtain ⟨r, hr, hp⟩ : ∃ r : Nat → Code, (∀ l, l < 5 → findLabel c l = some (r l)) ∧ ∀ m l a w, l < 5 → J m l a w → (r l).wp P (toLabels (lowers J m) Q) a w := by
    refine ⟨fun l => match l with | 0 => r0 | 1 => r1 | 2 => r2 | 3 => r3 | _ => r4, fun l hl => ?_, fun m l a w hl h => ?_⟩
    · obtain rfl | rfl | rfl | rfl | rfl : l = 0 ∨ l = 1 ∨ l = 2 ∨ l = 3 ∨ l = 4 := by omega
      · exact f0
      · exact f1
      · exact f2
      · exact f3
      · exact f4
    · obtain rfl | rfl | rfl | rfl | rfl : l = 0 ∨ l = 1 ∨ l = 2 ∨ l = 3 ∨ l = 4 := by omega
      · exact q0 m a w h
      · exact p1 m a w h
      · exact p2 m a w h
      · exact p3 m a w h
      · exact p4 m a w h
  intro b k cs
  have hgo : ∀ l, l < 5 → gotoIn l (.inScope c :: k) = some (.code (r l) :: .inScope c :: k) := fun l hl => by
    unfold gotoIn
    simp [hr l hl]
  -- from any label on, by the number
  have on : ∀ (m l : Nat) (a : Act) (w : World), l < 5 → J m l a w → ∃ e a' w', Q e a' w' ∧ Arrives P (lone (b.at a (.code (r l) :: .inScope c :: k)) cs w) b k cs e a' w' := by
    intro m
    induction m using Nat.strongRecOn with
    | _ m ih =>
      intro l a w hl hJ
      obtain ⟨e, a1, w1, h1, h2⟩ := hp m l a w hl hJ b (.inScope c :: k) cs
      match e, h1, h2 with
      | .goto l', ⟨hl', m', hm, hJ'⟩, h2 =>
        obtain ⟨e2, a2, w2, h3, h4⟩ := ih m' hm l' a1 w1 hl' hJ'
        exact ⟨e2, a2, w2, h3, .of_steps (h2 _ (hgo l' hl')) h4⟩
      | .normal, h1, h2 => exact ⟨_, a1, w1, h1, Steps.trans h2 (.one step_inScope)⟩
      | .exit id, h1, h2 => exact ⟨_, a1, w1, h1, fun k' hk => h2 k' (by simp [exitTo, hk])⟩
      | .ret, h1, h2 => exact ⟨_, a1, w1, h1, h2⟩
      | .panic ch, h1, h2 => exact ⟨_, a1, w1, h1, h2⟩
      | .outgrown, h1, h2 => exact ⟨_, a1, w1, h1, h2⟩
  obtain ⟨e, a1, w1, h1, h2⟩ := first b (.inScope c :: k) cs
  match e, h1, h2 with
  | .goto l', ⟨hl', m', hJ'⟩, h2 =>
    obtain ⟨e2, a2, w2, h3, h4⟩ := on m' l' a1 w1 hl' hJ'
    exact ⟨e2, a2, w2, h3, .of_steps (.head step_scope (h2 _ (hgo l' hl'))) h4⟩
  | .normal, h1, h2 => exact ⟨_, a1, w1, h1, .head step_scope (Steps.trans h2 (.one step_inScope))⟩
  | .exit id, h1, h2 => exact ⟨_, a1, w1, h1, fun k' hk => .head step_scope (h2 k' (by simp [exitTo, hk]))⟩
  | .ret, h1, h2 => exact ⟨_, a1, w1, h1, .of_steps (.one step_scope) h2⟩
  | .panic ch, h1, h2 => exact ⟨_, a1, w1, h1, .of_steps (.one step_scope) h2⟩
  | .outgrown, h1, h2 => exact ⟨_, a1, w1, h1, .of_steps (.one step_scope) h2⟩
end Go.Proofs.YtnlempddoiidiaaDoor
namespace Go.Proofs.YtnlempddoiidiaaDoor
open Go

section
variable {P : Program} {ops : Array Oper} {Q : Exit → Act → World → Prop}
def unlisted (l : Array Bool) : Nat := l.toList.countP (fun b => !b)
theorem countP_set : ∀ (xs : List Bool) (i : Nat), xs[i]? = some false → (xs.set i true).countP (fun b => !b) + 1 = xs.countP (fun b => !b)
  | [], i, h => by simp at h
  | x :: xs, 0, h => by
    obtain rfl : x = false := by simpa using h
    simp
  | x :: xs, i + 1, h => by
    have ih := countP_set xs i (by simpa using h)
    simp only [List.set_cons_succ, List.countP_cons]
    omega
theorem unlisted_set {l : Array Bool} {i : Nat} (h : l.getD i true = false) : unlisted (l.setIfInBounds i true) + 1 = unlisted l := by
  have hi : i < l.size := by
    rcases Nat.lt_or_ge i l.size with h1 | h1
    · exact h1
    · simp [Array.getElem?_eq_none h1] at h
  have h0 : l[i] = false := by simpa [hi] using h
  unfold unlisted
  rw [Array.toList_setIfInBounds]
  refine countP_set l.toList i ?_
  rw [Array.getElem?_toList, Array.getElem?_eq_getElem hi, h0]
theorem wpAny_inv (Inv : Array Bool → Act → World → Prop)
    (hstep : ∀ (listed : Array Bool) (a : Act) (w : World) (i : Nat), Inv listed a w → i ∈ Region.ready .any ops listed → wpOp P ops Q i (Inv (listed.setIfInBounds i true)) a w)
    (hend : ∀ (listed : Array Bool) (a : Act) (w : World), Inv listed a w → Region.ready .any ops listed = [] → Q .normal a w) :
    ∀ (fuel : Nat) (listed : Array Bool) (a : Act) (w : World), unlisted listed ≤ fuel → Inv listed a w → wpAny P .any ops Q fuel listed a w
  | 0, listed, a, w, hf, hI => by
    have hr : Region.ready .any ops listed = [] := by
      rw [List.eq_nil_iff_forall_not_mem]
      intro i hi
      have := unlisted_set (mem_ready.1 hi).1
      omega
    exact ⟨hr, hend _ _ _ hI hr⟩
  | fuel + 1, listed, a, w, hf, hI =>
    ⟨fun hr => hend _ _ _ hI hr, fun i hi => wpOp_mono (fun a' w' hI' => wpAny_inv Inv hstep hend fuel _ a' w' (by have := unlisted_set (mem_ready.1 hi).1; omega) hI') (hstep _ _ _ _ hI hi)⟩
theorem wp_region_inv {id : Nat} {a : Act} {w : World} (Inv : Array Bool → Act → World → Prop) (hm : P.follows .mixedOrders = true)
    (h0 : Inv (Array.replicate ops.size false) a { w with drawn := w.drawn + 1 })
    (hstep : ∀ (listed : Array Bool) (a : Act) (w : World) (i : Nat), Inv listed a w → i ∈ Region.ready .any ops listed → wpOp P ops Q i (Inv (listed.setIfInBounds i true)) a w)
    (hend : ∀ (listed : Array Bool) (a : Act) (w : World), Inv listed a w → Region.ready .any ops listed = [] → Q .normal a w) : (Code.region id ops true).wp P Q a w :=
  wp_region_any hm (wpAny_inv Inv hstep hend _ _ _ _ (by
    unfold unlisted
    refine Nat.le_trans List.countP_le_length ?_
    simp) h0)
/-- When none is left, all have come up (the edges lead back, from later operations to earlier ones). -/
theorem all_listed {listed : Array Bool} (hs : listed.size = ops.size) (hb : ∀ (i : Nat) (o : Oper), ops[i]? = some o → ∀ e ∈ o.after, e.on < i) (hr : Region.ready .any ops listed = []) : ∀ i, i < ops.size → listed.getD i false = true := by
  intro i
  induction i using Nat.strongRecOn with
  | _ i ih =>
    intro hi
    cases hl : listed.getD i false with
    | true => rfl
    | false =>
      have hi2 : i < listed.size := by omega
      have h1 : listed.getD i true = false := by
        simp [hi2] at hl ⊢
        exact hl
      have h2 : i ∈ Region.ready .any ops listed := mem_ready.2 ⟨h1, ops[i], Array.getElem?_eq_getElem hi, fun e he _ => by
        have h3 := hb i _ (Array.getElem?_eq_getElem hi) e he
        exact ih e.on h3 (by omega)⟩
      rw [hr] at h2
      simp at h2
def backB (ops : Array Oper) : Bool := (List.range ops.size).all fun i => match ops[i]? with
  | some o => o.after.all fun e => decide (e.on < i)
  | none => true
theorem back_of (h : backB ops = true) : ∀ (i : Nat) (o : Oper), ops[i]? = some o → ∀ e ∈ o.after, e.on < i := by
  intro i o ho e he
  have hi : i < ops.size := by
    rcases Nat.lt_or_ge i ops.size with h1 | h1
    · exact h1
    · rw [Array.getElem?_eq_none h1] at ho; cases ho
  have h1 := List.all_eq_true.1 h i (List.mem_range.2 hi)
  rw [ho] at h1
  exact of_decide_eq_true (Array.all_eq_true'.1 h1 e he)
theorem listed_set {listed : Array Bool} {i k : Nat} (h : (listed.setIfInBounds i true).getD k false = true) : k = i ∨ listed.getD k false = true := by
  by_cases hik : i = k
  · exact .inl hik.symm
  · right
    simp [Array.getElem?_setIfInBounds_ne hik] at h
    simpa using h
theorem wpOp_at {i : Nat} {o : Oper} {a : Act} {w : World} {K : Act → World → Prop} (ho : ops[i]? = some o) (hg : o.guard = none) (h : o.wp P a w K Q) : wpOp P ops Q i K a w := by
  unfold wpOp
  rw [ho]
  simp only [Region.wanted, hg, if_true]
  exact .inl h
theorem wp_append_run {o : Oper} {a : Act} {w w' : World} {K : Act → World → Prop} {s x : Operand} {t : TypeId} {vs vx v : Value} (hop : o.op = .call { callee := .builtin .append, args := #[s, x], argTypes := #[t, t] })
    (hs : a.eval s = vs) (hx : a.eval x = vx) (hr : (Builtin.append_ #[t, t] o.type #[vs, vx]).run P w = .ok v w') (hK : K (a.put o.dst v) w') : o.wp P a w K Q := by
  unfold Oper.wp
  simp [execOp, hop, resolve, invoke, builtin, hs, hx, hr, Result.andThen]
  exact hK
end
end Go.Proofs.YtnlempddoiidiaaDoor
