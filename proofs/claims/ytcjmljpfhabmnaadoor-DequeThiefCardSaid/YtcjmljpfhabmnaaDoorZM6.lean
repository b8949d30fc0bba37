/- run's closure in the seat YtcjmljpfhabmnaaDoor (may it go on?): its contract.
   A scope in which the run jumps to five labels, forth and back, in the seat YtcjmljpfhabmnaaDoor: what holds at each of them, and a number that every jump lowers.
   A region that draws its order, by an invariant: what holds whichever operations have come up.
   A region that draws its order, whose operations read or make new blocks (one of them may let one row grow), and whose last operation waits for all: by facts on what each has yielded.
   No statement is proved here. -/
import Derived.Test.YtcjmljpfhabmnaaDoorZM5
import Derived.Test.YtcjmljpfhabmnaaDoorChecked
import Derived.ScopeJumps
import Derived.WalkMore
import Derived.Orders
import Derived.WalkKit
import Derived.KernelRfl
import Derived.Below
import Derived.Laws.AppendOwn
set_option linter.unusedSimpArgs false
set_option linter.unusedVariables false
set_option linter.unusedSimpArgs false
namespace Go.Proofs.YtcjmljpfhabmnaaDoor
open Go Go.RowKit

section
variable {A : Option Addr} {n c : Nat} {R : List Int}
/-- run's boxes: the deque, the taker, is it one step?, what is handed out (twice), the error, has it begun? -/
def rowsR (A : Option Addr) (n c : Nat) (T B : Int) (t : Tkr) (one : Bool) (e : Int) (b : Bool) : List (TypeId × List Value) :=
  [(27, [.slice A n c, .int .i64 T, .int .i64 B]), (42, cT t), (4, [.bool one]), (27, [.slice none 0 0, .int .i64 0, .int .i64 0]), (42, cT (newTk false)), (32, [.int .i64 e]), (4, [.bool b])]
def mayG (n : Nat) (T B : Int) (t : Tkr) (one b : Bool) : Bool := decide (ChkQ n T B ∧ ¬ StopT one b t ∧ ¬ OverT t)
def mayE (n : Nat) (T B : Int) (t : Tkr) (one b : Bool) : Int := if ¬ ChkQ n T B then 120 else if StopT one b t then 0 else if OverT t then 122 else 0
set_option maxRecDepth 100000 in
set_option maxHeartbeats 8000000 in
theorem dmay_any (T B : Int) (t : Tkr) (one b : Bool) (z : Int) (wf wr : World) (hn : n ≤ 1000) (hT : DTab wf) (B0 : Rws wf (rowsR A n c T B t one z b) wr) :
    Calls Tryd.prog 25 #[.pointer (some ⟨wf.heap.size, 0, none⟩), .pointer (some ⟨wf.heap.size + 1 + 1 + 1 + 1 + 1, 0, none⟩), .pointer (some ⟨wf.heap.size + 1 + 1 + 1 + 1 + 1 + 1, 0, none⟩), .pointer (some ⟨wf.heap.size + 1 + 1, 0, none⟩), .pointer (some ⟨wf.heap.size + 1, 0, none⟩)] wr
      fun e w' => e = .returned (.bool (mayG n T B t one b)) ∧ Rws wf (rowsR A n c T B t one (mayE n T B t one b) (b || mayG n T B t one b)) w' := by
  obtain ⟨st, a, tp, bt, gt, en⟩ := t
  have CK := Lib.hid (dcheck_any A n c T B wr hn (hT.via B0.bel))
  have B0h := Lib.hid B0
  obtain ⟨x, hx⟩ : ∃ x, x = chkQE n T B := ⟨_, rfl⟩
  rw [← hx] at CK
  have HX := Lib.hid hx
  clear B0 hT hx
  have c00 := B0h.out.cell 0 0 rfl rfl
  have c01 := B0h.out.cell 0 1 rfl rfl
  have c02 := B0h.out.cell 0 2 rfl rfl
  have c10 := B0h.out.cell 1 0 rfl rfl
  have c11 := B0h.out.cell 1 1 rfl rfl
  have c12 := B0h.out.cell 1 2 rfl rfl
  have c13 := B0h.out.cell 1 3 rfl rfl
  have c14 := B0h.out.cell 1 4 rfl rfl
  have c15 := B0h.out.cell 1 5 rfl rfl
  have c20 := B0h.out.cell 2 0 rfl rfl
  have c50 := B0h.out.cell 5 0 rfl rfl
  have zc50 := B0h.out.frozen 5 0 rfl
  have c60 := B0h.out.cell 6 0 rfl rfl
  have zc60 := B0h.out.frozen 6 0 rfl
  simp only [Nat.add_zero] at c00 c01 c02
  by_cases hc : ¬ ChkQ n T B
  · have hg : mayG n T B ⟨st, a, tp, bt, gt, en⟩ one b = false := decide_eq_false fun q => hc q.1
    have he : mayE n T B ⟨st, a, tp, bt, gt, en⟩ one b = 120 := by unfold mayE; rw [if_pos hc]
    obtain rfl : x = 120 := by rw [HX.out]; unfold chkQE; rw [if_neg hc]
    rw [hg, he, Bool.or_false]
    clear hg he HX hc
    go_enter Tryd.func25, Tryd.ntmps25
    go_wp2_with fail
    refine CK.out.mono ?_
    rintro e w1 ⟨rfl, b1⟩
    have B1 := Lib.hid (B0h.out.next b1)
    clear b1 CK B0h
    clear c00 c01 c02 c10 c11 c12 c13 c14 c15 c20 c50 zc50 c60 zc60
    have c00 := B1.out.cell 0 0 rfl rfl
    have c01 := B1.out.cell 0 1 rfl rfl
    have c02 := B1.out.cell 0 2 rfl rfl
    have c10 := B1.out.cell 1 0 rfl rfl
    have c11 := B1.out.cell 1 1 rfl rfl
    have c12 := B1.out.cell 1 2 rfl rfl
    have c13 := B1.out.cell 1 3 rfl rfl
    have c14 := B1.out.cell 1 4 rfl rfl
    have c15 := B1.out.cell 1 5 rfl rfl
    have c20 := B1.out.cell 2 0 rfl rfl
    have c50 := B1.out.cell 5 0 rfl rfl
    have zc50 := B1.out.frozen 5 0 rfl
    have c60 := B1.out.cell 6 0 rfl rfl
    have zc60 := B1.out.frozen 6 0 rfl
    simp only [Nat.add_zero] at c00 c01 c02
    have B2 := Lib.hid (B1.out.set 5 0 rfl (.int .i64 120))
    go_wp2
    go_ret
    exact ⟨rfl, B2.out⟩
  replace hc := Classical.not_not.mp hc
  obtain rfl : x = 0 := by rw [HX.out]; unfold chkQE; rw [if_pos hc]
  have e1 : ¬ ¬ ChkQ n T B := fun q => q hc
  by_cases hs : StopT one b ⟨st, a, tp, bt, gt, en⟩
  · have hg : mayG n T B ⟨st, a, tp, bt, gt, en⟩ one b = false := decide_eq_false fun q => q.2.1 hs
    have he : mayE n T B ⟨st, a, tp, bt, gt, en⟩ one b = 0 := by unfold mayE; rw [if_neg e1, if_pos hs]
    rw [hg, he, Bool.or_false]
    obtain ⟨hb, hs⟩ := hs
    subst hb
    clear hg he HX e1 hc
    cases one
    · have hen : (en != 0) = true := bne_iff_ne.mpr (hs.resolve_left (by decide))
      clear hs
      go_enter Tryd.func25, Tryd.ntmps25
      go_wp2_with fail
      refine CK.out.mono ?_
      rintro e w1 ⟨rfl, b1⟩
      have B1 := Lib.hid (B0h.out.next b1)
      clear b1 CK B0h
      clear c00 c01 c02 c10 c11 c12 c13 c14 c15 c20 c50 zc50 c60 zc60
      have c00 := B1.out.cell 0 0 rfl rfl
      have c01 := B1.out.cell 0 1 rfl rfl
      have c02 := B1.out.cell 0 2 rfl rfl
      have c10 := B1.out.cell 1 0 rfl rfl
      have c11 := B1.out.cell 1 1 rfl rfl
      have c12 := B1.out.cell 1 2 rfl rfl
      have c13 := B1.out.cell 1 3 rfl rfl
      have c14 := B1.out.cell 1 4 rfl rfl
      have c15 := B1.out.cell 1 5 rfl rfl
      have c20 := B1.out.cell 2 0 rfl rfl
      have c50 := B1.out.cell 5 0 rfl rfl
      have zc50 := B1.out.frozen 5 0 rfl
      have c60 := B1.out.cell 6 0 rfl rfl
      have zc60 := B1.out.frozen 6 0 rfl
      simp only [Nat.add_zero] at c00 c01 c02
      have B2 := Lib.hid (B1.out.set 5 0 rfl (.int .i64 0))
      go_wp2
      go_ret
      exact ⟨rfl, B2.out⟩
    · clear hs
      go_enter Tryd.func25, Tryd.ntmps25
      go_wp2_with fail
      refine CK.out.mono ?_
      rintro e w1 ⟨rfl, b1⟩
      have B1 := Lib.hid (B0h.out.next b1)
      clear b1 CK B0h
      clear c00 c01 c02 c10 c11 c12 c13 c14 c15 c20 c50 zc50 c60 zc60
      have c00 := B1.out.cell 0 0 rfl rfl
      have c01 := B1.out.cell 0 1 rfl rfl
      have c02 := B1.out.cell 0 2 rfl rfl
      have c10 := B1.out.cell 1 0 rfl rfl
      have c11 := B1.out.cell 1 1 rfl rfl
      have c12 := B1.out.cell 1 2 rfl rfl
      have c13 := B1.out.cell 1 3 rfl rfl
      have c14 := B1.out.cell 1 4 rfl rfl
      have c15 := B1.out.cell 1 5 rfl rfl
      have c20 := B1.out.cell 2 0 rfl rfl
      have c50 := B1.out.cell 5 0 rfl rfl
      have zc50 := B1.out.frozen 5 0 rfl
      have c60 := B1.out.cell 6 0 rfl rfl
      have zc60 := B1.out.frozen 6 0 rfl
      simp only [Nat.add_zero] at c00 c01 c02
      have B2 := Lib.hid (B1.out.set 5 0 rfl (.int .i64 0))
      go_wp2
      go_ret
      exact ⟨rfl, B2.out⟩
  have DO := Lib.hid (fun W => dover_any ⟨st, a, tp, bt, gt, en⟩ W)
  unfold vT at DO
  simp only at DO
  obtain ⟨v, hv⟩ : ∃ v, v = decide (OverT ⟨st, a, tp, bt, gt, en⟩) := ⟨_, rfl⟩
  rw [← hv] at DO
  have hg : mayG n T B ⟨st, a, tp, bt, gt, en⟩ one b = !v := by
    rw [hv]
    unfold mayG
    by_cases ho : OverT ⟨st, a, tp, bt, gt, en⟩
    · rw [decide_eq_true ho, decide_eq_false (fun q => q.2.2 ho)]; rfl
    · rw [decide_eq_false ho, decide_eq_true ⟨hc, hs, ho⟩]; rfl
  have he : mayE n T B ⟨st, a, tp, bt, gt, en⟩ one b = if v = true then 122 else 0 := by
    rw [hv]
    unfold mayE
    rw [if_neg e1, if_neg hs]
    by_cases ho : OverT ⟨st, a, tp, bt, gt, en⟩
    · rw [if_pos ho, if_pos (decide_eq_true ho)]
    · rw [if_neg ho, if_neg (fun q => ho (of_decide_eq_true q))]
  rw [hg, he]
  have HS : Hid (b = false ∨ (b = true ∧ one = false ∧ (en != 0) = false)) := Lib.hid (by
    cases b
    · exact .inl rfl
    · refine .inr ⟨rfl, ?_, ?_⟩
      · cases one
        · rfl
        · exact absurd ⟨rfl, .inl rfl⟩ hs
      · cases h : (en != 0) with
        | false => rfl
        | true => exact absurd ⟨rfl, .inr (bne_iff_ne.mp h)⟩ hs)
  clear hg he HX e1 hc hs hv
  rcases HS.out with rfl | ⟨rfl, rfl, hen⟩
  · clear HS
    go_enter Tryd.func25, Tryd.ntmps25
    go_wp2_with fail
    refine CK.out.mono ?_
    rintro e w1 ⟨rfl, b1⟩
    have B1 := Lib.hid (B0h.out.next b1)
    clear b1 CK B0h
    clear c00 c01 c02 c10 c11 c12 c13 c14 c15 c20 c50 zc50 c60 zc60
    have c00 := B1.out.cell 0 0 rfl rfl
    have c01 := B1.out.cell 0 1 rfl rfl
    have c02 := B1.out.cell 0 2 rfl rfl
    have c10 := B1.out.cell 1 0 rfl rfl
    have c11 := B1.out.cell 1 1 rfl rfl
    have c12 := B1.out.cell 1 2 rfl rfl
    have c13 := B1.out.cell 1 3 rfl rfl
    have c14 := B1.out.cell 1 4 rfl rfl
    have c15 := B1.out.cell 1 5 rfl rfl
    have c20 := B1.out.cell 2 0 rfl rfl
    have c50 := B1.out.cell 5 0 rfl rfl
    have zc50 := B1.out.frozen 5 0 rfl
    have c60 := B1.out.cell 6 0 rfl rfl
    have zc60 := B1.out.frozen 6 0 rfl
    simp only [Nat.add_zero] at c00 c01 c02
    obtain ⟨w2, hw2, B2⟩ : ∃ w2, w2 = w1.setCell ⟨wf.heap.size + 1 + 1 + 1 + 1 + 1, 0, none⟩ (.int .i64 0) ∧ Hid (Rws wf (rowsR A n c T B ⟨st, a, tp, bt, gt, en⟩ one 0 false) w2) := ⟨_, rfl, Lib.hid (B1.out.set 5 0 rfl (.int .i64 0))⟩
    have HW2 := Lib.hid hw2
    clear hw2
    go_wp2_with fail
    rw [← HW2.out]
    refine (DO.out w2).mono ?_
    rintro e w3 ⟨rfl, b3⟩
    have B3 := Lib.hid (B2.out.next b3)
    clear b3 B2 B1 DO HW2
    clear c00 c01 c02 c10 c11 c12 c13 c14 c15 c20 c50 zc50 c60 zc60
    have c00 := B3.out.cell 0 0 rfl rfl
    have c01 := B3.out.cell 0 1 rfl rfl
    have c02 := B3.out.cell 0 2 rfl rfl
    have c10 := B3.out.cell 1 0 rfl rfl
    have c11 := B3.out.cell 1 1 rfl rfl
    have c12 := B3.out.cell 1 2 rfl rfl
    have c13 := B3.out.cell 1 3 rfl rfl
    have c14 := B3.out.cell 1 4 rfl rfl
    have c15 := B3.out.cell 1 5 rfl rfl
    have c20 := B3.out.cell 2 0 rfl rfl
    have c50 := B3.out.cell 5 0 rfl rfl
    have zc50 := B3.out.frozen 5 0 rfl
    have c60 := B3.out.cell 6 0 rfl rfl
    have zc60 := B3.out.frozen 6 0 rfl
    simp only [Nat.add_zero] at c00 c01 c02
    cases v
    · have B4 := Lib.hid (B3.out.set 6 0 rfl (.bool true))
      go_wp2
      go_ret
      exact ⟨rfl, B4.out⟩
    · have B4 := Lib.hid (B3.out.set 5 0 rfl (.int .i64 122))
      go_wp2
      go_ret
      exact ⟨rfl, B4.out⟩
  · clear HS
    go_enter Tryd.func25, Tryd.ntmps25
    go_wp2_with fail
    refine CK.out.mono ?_
    rintro e w1 ⟨rfl, b1⟩
    have B1 := Lib.hid (B0h.out.next b1)
    clear b1 CK B0h
    clear c00 c01 c02 c10 c11 c12 c13 c14 c15 c20 c50 zc50 c60 zc60
    have c00 := B1.out.cell 0 0 rfl rfl
    have c01 := B1.out.cell 0 1 rfl rfl
    have c02 := B1.out.cell 0 2 rfl rfl
    have c10 := B1.out.cell 1 0 rfl rfl
    have c11 := B1.out.cell 1 1 rfl rfl
    have c12 := B1.out.cell 1 2 rfl rfl
    have c13 := B1.out.cell 1 3 rfl rfl
    have c14 := B1.out.cell 1 4 rfl rfl
    have c15 := B1.out.cell 1 5 rfl rfl
    have c20 := B1.out.cell 2 0 rfl rfl
    have c50 := B1.out.cell 5 0 rfl rfl
    have zc50 := B1.out.frozen 5 0 rfl
    have c60 := B1.out.cell 6 0 rfl rfl
    have zc60 := B1.out.frozen 6 0 rfl
    simp only [Nat.add_zero] at c00 c01 c02
    obtain ⟨w2, hw2, B2⟩ : ∃ w2, w2 = w1.setCell ⟨wf.heap.size + 1 + 1 + 1 + 1 + 1, 0, none⟩ (.int .i64 0) ∧ Hid (Rws wf (rowsR A n c T B ⟨st, a, tp, bt, gt, en⟩ false 0 true) w2) := ⟨_, rfl, Lib.hid (B1.out.set 5 0 rfl (.int .i64 0))⟩
    have HW2 := Lib.hid hw2
    clear hw2
    go_wp2_with fail
    rw [← HW2.out]
    refine (DO.out w2).mono ?_
    rintro e w3 ⟨rfl, b3⟩
    have B3 := Lib.hid (B2.out.next b3)
    clear b3 B2 B1 DO HW2
    clear c00 c01 c02 c10 c11 c12 c13 c14 c15 c20 c50 zc50 c60 zc60
    have c00 := B3.out.cell 0 0 rfl rfl
    have c01 := B3.out.cell 0 1 rfl rfl
    have c02 := B3.out.cell 0 2 rfl rfl
    have c10 := B3.out.cell 1 0 rfl rfl
    have c11 := B3.out.cell 1 1 rfl rfl
    have c12 := B3.out.cell 1 2 rfl rfl
    have c13 := B3.out.cell 1 3 rfl rfl
    have c14 := B3.out.cell 1 4 rfl rfl
    have c15 := B3.out.cell 1 5 rfl rfl
    have c20 := B3.out.cell 2 0 rfl rfl
    have c50 := B3.out.cell 5 0 rfl rfl
    have zc50 := B3.out.frozen 5 0 rfl
    have c60 := B3.out.cell 6 0 rfl rfl
    have zc60 := B3.out.frozen 6 0 rfl
    simp only [Nat.add_zero] at c00 c01 c02
    cases v
    · have B4 := Lib.hid (B3.out.set 6 0 rfl (.bool true))
      go_wp2
      go_ret
      exact ⟨rfl, B4.out⟩
    · have B4 := Lib.hid (B3.out.set 5 0 rfl (.int .i64 122))
      go_wp2
      go_ret
      exact ⟨rfl, B4.out⟩
end
end Go.Proofs.YtcjmljpfhabmnaaDoor
set_option linter.unusedVariables false
namespace Go.Proofs.YtcjmljpfhabmnaaDoor
open Go

/-- By a goto to one of five labels: K; else as Q. -/
def toLabels (K : Nat → Act → World → Prop) (Q : Exit → Act → World → Prop) : Exit → Act → World → Prop
  | .goto l, a, w => l < 5 ∧ K l a w
  | .normal, a, w => Q .normal a w
  | .exit b, a, w => Q (.exit b) a w
  | .ret, a, w => Q .ret a w
  | .panic ch, a, w => Q (.panic ch) a w
  | .outgrown, a, w => Q .outgrown a w
/-- .. with a smaller number. -/
def lowers (J : Nat → Nat → Act → World → Prop) (m : Nat) : Nat → Act → World → Prop := fun l a w => ∃ m', m' < m ∧ J m' l a w
theorem wp_scope_five {P : Program} {a : Act} {w : World} {Q : Exit → Act → World → Prop} {X r1 r2 r3 r4 : Code} (J : Nat → Nat → Act → World → Prop)
    (f1 : findLabel ((Code.label 0).seq X) 1 = some r1) (f2 : findLabel ((Code.label 0).seq X) 2 = some r2) (f3 : findLabel ((Code.label 0).seq X) 3 = some r3) (f4 : findLabel ((Code.label 0).seq X) 4 = some r4)
    (start : ∃ m, J m 0 a w)
    (p0 : ∀ m a w, J m 0 a w → X.wp P (toLabels (lowers J m) Q) a w) (p1 : ∀ m a w, J m 1 a w → r1.wp P (toLabels (lowers J m) Q) a w) (p2 : ∀ m a w, J m 2 a w → r2.wp P (toLabels (lowers J m) Q) a w)
    (p3 : ∀ m a w, J m 3 a w → r3.wp P (toLabels (lowers J m) Q) a w) (p4 : ∀ m a w, J m 4 a w → r4.wp P (toLabels (lowers J m) Q) a w) : (Code.scope ((Code.label 0).seq X)).wp P Q a w := by
  have first : ((Code.label 0).seq X).wp P (toLabels (fun l a w => ∃ m, J m l a w) Q) a w := by
    obtain ⟨m, hm⟩ := start
    refine wp_seq (wp_label ?_)
    refine Code.wp_mono (fun e a w h => ?_) (p0 m a w hm)
    cases e with
    | goto l =>
      obtain ⟨h1, m', _, h2⟩ := h
      exact ⟨h1, m', h2⟩
    | normal => exact h
    | exit b => exact h
    | ret => exact h
    | panic ch => exact h
    | outgrown => exact h
  obtain ⟨c, hc⟩ : ∃ c, c = (Code.label 0).seq X := ⟨_, rfl⟩
  have f0 : findLabel c 0 = some (Code.skip.seq X) := by rw [hc]; rfl
  have q0 : ∀ m a w, J m 0 a w → (Code.skip.seq X).wp P (toLabels (lowers J m) Q) a w := fun m a w h => wp_seq (wp_skip (p0 m a w h))
  obtain ⟨r0, hr0⟩ : ∃ r0, r0 = Code.skip.seq X := ⟨_, rfl⟩
  rw [← hc] at f1 f2 f3 f4 first ⊢
  rw [← hr0] at f0 q0
  obtain ⟨r, hr, hp⟩ : ∃ r : Nat → Code, (∀ l, l < 5 → findLabel c l = some (r l)) ∧ ∀ m l a w, l < 5 → J m l a w → (r l).wp P (toLabels (lowers J m) Q) a w := by
    refine ⟨fun l => match l with | 0 => r0 | 1 => r1 | 2 => r2 | 3 => r3 | _ => r4, fun l hl => ?_, fun m l a w hl h => ?_⟩
    · obtain rfl | rfl | rfl | rfl | rfl : l = 0 ∨ l = 1 ∨ l = 2 ∨ l = 3 ∨ l = 4 := by omega
      · exact f0
      · exact f1
      · exact f2
      · exact f3
      · exact f4
    · obtain rfl | rfl | rfl | rfl | rfl : l = 0 ∨ l = 1 ∨ l = 2 ∨ l = 3 ∨ l = 4 := by omega
      · exact q0 m a w h
      · exact p1 m a w h
      · exact p2 m a w h
      · exact p3 m a w h
      · exact p4 m a w h
  intro b k cs
  have hgo : ∀ l, l < 5 → gotoIn l (.inScope c :: k) = some (.code (r l) :: .inScope c :: k) := fun l hl => by
    unfold gotoIn
    simp [hr l hl]
  -- from any label on, by the number
  have on : ∀ (m l : Nat) (a : Act) (w : World), l < 5 → J m l a w → ∃ e a' w', Q e a' w' ∧ Arrives P (lone (b.at a (.code (r l) :: .inScope c :: k)) cs w) b k cs e a' w' := by
    intro m
    induction m using Nat.strongRecOn with
    | _ m ih =>
      intro l a w hl hJ
      obtain ⟨e, a1, w1, h1, h2⟩ := hp m l a w hl hJ b (.inScope c :: k) cs
      match e, h1, h2 with
      | .goto l', ⟨hl', m', hm, hJ'⟩, h2 =>
        obtain ⟨e2, a2, w2, h3, h4⟩ := ih m' hm l' a1 w1 hl' hJ'
        exact ⟨e2, a2, w2, h3, .of_steps (h2 _ (hgo l' hl')) h4⟩
      | .normal, h1, h2 => exact ⟨_, a1, w1, h1, Steps.trans h2 (.one step_inScope)⟩
      | .exit id, h1, h2 => exact ⟨_, a1, w1, h1, fun k' hk => h2 k' (by simp [exitTo, hk])⟩
      | .ret, h1, h2 => exact ⟨_, a1, w1, h1, h2⟩
      | .panic ch, h1, h2 => exact ⟨_, a1, w1, h1, h2⟩
      | .outgrown, h1, h2 => exact ⟨_, a1, w1, h1, h2⟩
  obtain ⟨e, a1, w1, h1, h2⟩ := first b (.inScope c :: k) cs
  match e, h1, h2 with
  | .goto l', ⟨hl', m', hJ'⟩, h2 =>
    obtain ⟨e2, a2, w2, h3, h4⟩ := on m' l' a1 w1 hl' hJ'
    exact ⟨e2, a2, w2, h3, .of_steps (.head step_scope (h2 _ (hgo l' hl'))) h4⟩
  | .normal, h1, h2 => exact ⟨_, a1, w1, h1, .head step_scope (Steps.trans h2 (.one step_inScope))⟩
  | .exit id, h1, h2 => exact ⟨_, a1, w1, h1, fun k' hk => .head step_scope (h2 k' (by simp [exitTo, hk]))⟩
  | .ret, h1, h2 => exact ⟨_, a1, w1, h1, .of_steps (.one step_scope) h2⟩
  | .panic ch, h1, h2 => exact ⟨_, a1, w1, h1, .of_steps (.one step_scope) h2⟩
  | .outgrown, h1, h2 => exact ⟨_, a1, w1, h1, .of_steps (.one step_scope) h2⟩
end Go.Proofs.YtcjmljpfhabmnaaDoor
namespace Go.Proofs.YtcjmljpfhabmnaaDoor
open Go

section
variable {P : Program} {ops : Array Oper} {Q : Exit → Act → World → Prop}
def unlisted (l : Array Bool) : Nat := l.toList.countP (fun b => !b)
theorem countP_set : ∀ (xs : List Bool) (i : Nat), xs[i]? = some false → (xs.set i true).countP (fun b => !b) + 1 = xs.countP (fun b => !b)
  | [], i, h => by simp at h
  | x :: xs, 0, h => by
    obtain rfl : x = false := by simpa using h
    simp
  | x :: xs, i + 1, h => by
    have ih := countP_set xs i (by simpa using h)
    simp only [List.set_cons_succ, List.countP_cons]
    omega
theorem unlisted_set {l : Array Bool} {i : Nat} (h : l.getD i true = false) : unlisted (l.setIfInBounds i true) + 1 = unlisted l := by
  have hi : i < l.size := by
    rcases Nat.lt_or_ge i l.size with h1 | h1
    · exact h1
    · simp [Array.getElem?_eq_none h1] at h
  have h0 : l[i] = false := by simpa [hi] using h
  unfold unlisted
  rw [Array.toList_setIfInBounds]
  refine countP_set l.toList i ?_
  rw [Array.getElem?_toList, Array.getElem?_eq_getElem hi, h0]
theorem wpAny_inv (Inv : Array Bool → Act → World → Prop)
    (hstep : ∀ (listed : Array Bool) (a : Act) (w : World) (i : Nat), Inv listed a w → i ∈ Region.ready .any ops listed → wpOp P ops Q i (Inv (listed.setIfInBounds i true)) a w)
    (hend : ∀ (listed : Array Bool) (a : Act) (w : World), Inv listed a w → Region.ready .any ops listed = [] → Q .normal a w) :
    ∀ (fuel : Nat) (listed : Array Bool) (a : Act) (w : World), unlisted listed ≤ fuel → Inv listed a w → wpAny P .any ops Q fuel listed a w
  | 0, listed, a, w, hf, hI => by
    have hr : Region.ready .any ops listed = [] := by
      rw [List.eq_nil_iff_forall_not_mem]
      intro i hi
      have := unlisted_set (mem_ready.1 hi).1
      omega
    exact ⟨hr, hend _ _ _ hI hr⟩
  | fuel + 1, listed, a, w, hf, hI =>
    ⟨fun hr => hend _ _ _ hI hr, fun i hi => wpOp_mono (fun a' w' hI' => wpAny_inv Inv hstep hend fuel _ a' w' (by have := unlisted_set (mem_ready.1 hi).1; omega) hI') (hstep _ _ _ _ hI hi)⟩
theorem wp_region_inv {id : Nat} {a : Act} {w : World} (Inv : Array Bool → Act → World → Prop) (hm : P.follows .mixedOrders = true)
    (h0 : Inv (Array.replicate ops.size false) a { w with drawn := w.drawn + 1 })
    (hstep : ∀ (listed : Array Bool) (a : Act) (w : World) (i : Nat), Inv listed a w → i ∈ Region.ready .any ops listed → wpOp P ops Q i (Inv (listed.setIfInBounds i true)) a w)
    (hend : ∀ (listed : Array Bool) (a : Act) (w : World), Inv listed a w → Region.ready .any ops listed = [] → Q .normal a w) : (Code.region id ops true).wp P Q a w :=
  wp_region_any hm (wpAny_inv Inv hstep hend _ _ _ _ (by
    unfold unlisted
    refine Nat.le_trans List.countP_le_length ?_
    simp) h0)
/-- When none is left, all have come up (the edges lead back, from later operations to earlier ones). -/
theorem all_listed {listed : Array Bool} (hs : listed.size = ops.size) (hb : ∀ (i : Nat) (o : Oper), ops[i]? = some o → ∀ e ∈ o.after, e.on < i) (hr : Region.ready .any ops listed = []) : ∀ i, i < ops.size → listed.getD i false = true := by
  intro i
  induction i using Nat.strongRecOn with
  | _ i ih =>
    intro hi
    cases hl : listed.getD i false with
    | true => rfl
    | false =>
      have hi2 : i < listed.size := by omega
      have h1 : listed.getD i true = false := by
        simp [hi2] at hl ⊢
        exact hl
      have h2 : i ∈ Region.ready .any ops listed := mem_ready.2 ⟨h1, ops[i], Array.getElem?_eq_getElem hi, fun e he _ => by
        have h3 := hb i _ (Array.getElem?_eq_getElem hi) e he
        exact ih e.on h3 (by omega)⟩
      rw [hr] at h2
      simp at h2
def backB (ops : Array Oper) : Bool := (List.range ops.size).all fun i => match ops[i]? with
  | some o => o.after.all fun e => decide (e.on < i)
  | none => true
theorem back_of (h : backB ops = true) : ∀ (i : Nat) (o : Oper), ops[i]? = some o → ∀ e ∈ o.after, e.on < i := by
  intro i o ho e he
  have hi : i < ops.size := by
    rcases Nat.lt_or_ge i ops.size with h1 | h1
    · exact h1
    · rw [Array.getElem?_eq_none h1] at ho; cases ho
  have h1 := List.all_eq_true.1 h i (List.mem_range.2 hi)
  rw [ho] at h1
  exact of_decide_eq_true (Array.all_eq_true'.1 h1 e he)
theorem listed_set {listed : Array Bool} {i k : Nat} (h : (listed.setIfInBounds i true).getD k false = true) : k = i ∨ listed.getD k false = true := by
  by_cases hik : i = k
  · exact .inl hik.symm
  · right
    simp [Array.getElem?_setIfInBounds_ne hik] at h
    simpa using h
theorem wpOp_at {i : Nat} {o : Oper} {a : Act} {w : World} {K : Act → World → Prop} (ho : ops[i]? = some o) (hg : o.guard = none) (h : o.wp P a w K Q) : wpOp P ops Q i K a w := by
  unfold wpOp
  rw [ho]
  simp only [Region.wanted, hg, if_true]
  exact .inl h
theorem wp_append_run {o : Oper} {a : Act} {w w' : World} {K : Act → World → Prop} {s x : Operand} {t : TypeId} {vs vx v : Value} (hop : o.op = .call { callee := .builtin .append, args := #[s, x], argTypes := #[t, t] })
    (hs : a.eval s = vs) (hx : a.eval x = vx) (hr : (Builtin.append_ #[t, t] o.type #[vs, vx]).run P w = .ok v w') (hK : K (a.put o.dst v) w') : o.wp P a w K Q := by
  unfold Oper.wp
  simp [execOp, hop, resolve, invoke, builtin, hs, hx, hr, Result.andThen]
  exact hK
end
end Go.Proofs.YtcjmljpfhabmnaaDoor
set_option linter.unusedVariables false
namespace Go.Proofs.YtcjmljpfhabmnaaDoor
open Go Go.RowKit

section
variable {P : Program} {ops : Array Oper} {Q : Exit → Act → World → Prop}
/-- What operands read as, but for the slots ds: as at the region's door. -/
structure AtDoor (a0 : Act) (ds : List Nat) (ρ : Operand → Value) : Prop where
  const : ∀ v, ρ (.const v) = v
  tmp : ∀ t, t ∉ ds → ρ (.tmp t) = a0.eval (.tmp t)
theorem atDoor_start (a0 : Act) (ds : List Nat) : AtDoor a0 ds a0.eval := ⟨fun _ => rfl, fun _ _ => rfl⟩
theorem eval_put_same (a : Act) (d : Nat) (v : Value) (h : d < a.tmps.size) : (a.put (some d) v).eval (.tmp d) = v := by
  show (a.tmps.setIfInBounds d v).getD d undef = v
  simp [h]
theorem eval_put_other (a : Act) (d t : Nat) (v : Value) (h : t ≠ d) : (a.put (some d) v).eval (.tmp t) = a.eval (.tmp t) := by
  show (a.tmps.setIfInBounds d v).getD t undef = a.tmps.getD t undef
  simp [Array.getElem?_setIfInBounds_ne (Ne.symm h)]
theorem AtDoor.put {a0 a : Act} {ds : List Nat} (h : AtDoor a0 ds a.eval) {d : Nat} (hd : d ∈ ds) (v : Value) : AtDoor a0 ds (a.put (some d) v).eval :=
  ⟨fun _ => rfl, fun t ht => (eval_put_other a d t v (fun e => ht (e ▸ hd))).trans (h.tmp t ht)⟩
/-- What the region's text must be (all by the kernel). -/
def gatherB (ops : Array Oper) (n : Nat) (ds : List Nat) : Bool :=
  ops.size == n + 1 && ds.length == n && (ops.toList.all fun o : Oper => o.guard.isNone) && backB ops && decide ds.Nodup &&
  ((List.range n).all fun k => (match ops[k]? with | some o => o.dst == some (ds.getD k 0) | none => false)) &&
  (match ops[n]? with | some o => (List.range n).all fun k => o.after.any fun e => e.on == k && Region.binds .any e | none => false)
structure Gather (ops : Array Oper) (n : Nat) (ds : List Nat) : Prop where
  size : ops.size = n + 1
  len : ds.length = n
  guard : ∀ (k : Nat) (o : Oper), ops[k]? = some o → o.guard = none
  back : ∀ (i : Nat) (o : Oper), ops[i]? = some o → ∀ e ∈ o.after, e.on < i
  nodup : ds.Nodup
  dst : ∀ (k : Nat) (o : Oper), k < n → ops[k]? = some o → o.dst = some (ds.getD k 0)
  last : ∀ (o : Oper), ops[n]? = some o → ∀ k, k < n → ∃ e ∈ o.after, e.on = k ∧ Region.binds .any e = true
theorem gather_of {n : Nat} {ds : List Nat} (h : gatherB ops n ds = true) : Gather ops n ds := by
  unfold gatherB at h
  simp only [Bool.and_eq_true, beq_iff_eq, decide_eq_true_iff] at h
  obtain ⟨⟨⟨⟨⟨⟨h1, h2⟩, h3⟩, h4⟩, h5⟩, h6⟩, h7⟩ := h
  refine ⟨h1, h2, fun k o ho => ?_, back_of h4, h5, fun k o hk ho => ?_, fun o ho k hk => ?_⟩
  · have := List.all_eq_true.1 h3 o (by rw [Array.mem_toList_iff]; exact Array.mem_of_getElem? ho)
    exact Option.isNone_iff_eq_none.1 this
  · have := List.all_eq_true.1 h6 k (List.mem_range.2 hk)
    rw [ho] at this
    simpa using this
  · rw [ho] at h7
    have := List.all_eq_true.1 h7 k (List.mem_range.2 hk)
    obtain ⟨e, he, h8⟩ := Array.any_eq_true'.1 this
    rw [Bool.and_eq_true, beq_iff_eq] at h8
    exact ⟨e, he, h8.1, h8.2⟩
theorem ds_mem {n : Nat} {ds : List Nat} (h : Gather ops n ds) {k : Nat} (hk : k < n) : ds.getD k 0 ∈ ds := by
  have hl : k < ds.length := by rw [h.len]; exact hk
  rw [List.getD_eq_getElem?_getD, List.getElem?_eq_getElem hl]
  exact List.getElem_mem hl
theorem ds_inj {n : Nat} {ds : List Nat} (h : Gather ops n ds) {k j : Nat} (hk : k < n) (hj : j < n) (e : ds.getD k 0 = ds.getD j 0) : k = j := by
  have hl : k < ds.length := by rw [h.len]; exact hk
  have hl2 : j < ds.length := by rw [h.len]; exact hj
  rw [List.getD_eq_getElem?_getD, List.getElem?_eq_getElem hl, List.getD_eq_getElem?_getD, List.getElem?_eq_getElem hl2] at e
  exact (List.getElem_inj h.nodup).mp e
theorem getD_set_iff {l : Array Bool} {i k : Nat} (hi : i < l.size) : (l.setIfInBounds i true).getD k false = true ↔ k = i ∨ l.getD k false = true := by
  constructor
  · exact listed_set
  · rintro (rfl | h)
    · simp [hi]
    · by_cases hik : i = k
      · subst hik; simp [hi]
      · simpa [Array.getElem?_setIfInBounds_ne hik] using h
set_option maxHeartbeats 1000000 in
theorem wp_region_gather (n m : Nat) (ds : List Nat) {id : Nat} {a0 : Act} {w0 : World} (hm : P.follows .mixedOrders = true) (hG : gatherB ops n ds = true) (hsz : ∀ d ∈ ds, d < a0.tmps.size)
    (I J : World → Prop) (R : World → World → Prop) (Φ : Nat → Value → World → Prop)
    (hBR : ∀ w w', Below w.heap.size w w' → R w w') (hI : ∀ w w', I w → R w w' → I w') (hJ : ∀ w w', J w → Below w.heap.size w w' → J w')
    (hΦ : ∀ k v w w', k ≠ m → Φ k v w → R w w' → Φ k v w') (hΦm : ∀ v w w', Φ m v w → Below w.heap.size w w' → Φ m v w')
    (h0 : I { w0 with drawn := w0.drawn + 1 }) (h1 : J { w0 with drawn := w0.drawn + 1 })
    (hstep : ∀ (k : Nat) (o : Oper), k < n → ops[k]? = some o → ∀ (ρ : Operand → Value) (w : World), I w → AtDoor a0 ds ρ → (∀ e ∈ o.after, Region.binds .any e = true → Φ e.on (ρ (.tmp (ds.getD e.on 0))) w) → (k = m → J w) →
      ∃ v w', (execOp ρ o).run P w = .ok (.value v) w' ∧ Φ k v w' ∧ (if k = m then R w w' else Below w.heap.size w w'))
    (hlast : ∀ (o : Oper), ops[n]? = some o → ∀ (a : Act) (w : World), I w → AtDoor a0 ds a.eval → a.tmps.size = a0.tmps.size → a.defers = a0.defers → (∀ k, k < n → Φ k (a.eval (.tmp (ds.getD k 0))) w) →
      o.wp P a w (fun a' w' => Q .normal a' w') Q) :
    (Code.region id ops true).wp P Q a0 w0 := by
  have G := gather_of hG
  refine wp_region_inv (fun l a w => l.size = n + 1 ∧ ((l.getD n false = false ∧ I w ∧ AtDoor a0 ds a.eval ∧ a.tmps.size = a0.tmps.size ∧ a.defers = a0.defers ∧ (∀ k, k < n → l.getD k false = true → Φ k (a.eval (.tmp (ds.getD k 0))) w) ∧ (l.getD m false = false → J w)) ∨ ((∀ k, k ≤ n → l.getD k false = true) ∧ Q .normal a w))) hm ?_ ?_ ?_
  · refine ⟨by rw [Array.size_replicate]; exact G.size, .inl ⟨?_, h0, atDoor_start a0 ds, rfl, rfl, fun k hk h => ?_, fun _ => h1⟩⟩
    · by_cases h : n < ops.size <;> simp [h]
    · exfalso
      by_cases h2 : k < ops.size <;> simp [h2] at h
  · rintro l a w i ⟨hls, hV⟩ hi
    obtain ⟨hun, o, ho, hpre⟩ := mem_ready.1 hi
    have hilt : i < ops.size := (Array.getElem?_eq_some_iff.1 ho).1
    have hil : i < l.size := by rw [hls, ← G.size]; exact hilt
    rcases hV with ⟨hnl, hIw, hAD, hasz, hadf, hF, hJw⟩ | ⟨hall, _⟩
    · rcases Nat.lt_or_ge i n with hin | hin
      · obtain ⟨v, w', hrun, hphi, hrel⟩ := hstep i o hin ho a.eval w hIw hAD (fun e he hb => hF e.on (Nat.lt_trans (G.back i o ho e he) hin) (hpre e he hb)) (fun e => hJw (by
          rw [← e]
          cases h : l.getD i false with
          | false => rfl
          | true => simp [hil] at h hun; rw [h] at hun; cases hun))
        have hR : R w w' := by
          split at hrel
          · exact hrel
          · exact hBR w w' hrel
        refine wpOp_at ho (G.guard i o ho) ?_
        unfold Oper.wp
        rw [hrun, Oper.upon_value, G.dst i o hin ho]
        refine ⟨by rw [Array.size_setIfInBounds]; exact hls, .inl ⟨?_, hI w w' hIw hR, hAD.put (ds_mem G hin) v, ?_, hadf, fun k hk hkl => ?_, fun hml => ?_⟩⟩
        · cases h : (l.setIfInBounds i true).getD n false with
          | false => rfl
          | true =>
            rcases listed_set h with h2 | h2
            · omega
            · rw [hnl] at h2; cases h2
        · show (a.tmps.setIfInBounds _ _).size = _
          rw [Array.size_setIfInBounds]; exact hasz
        · by_cases hki : k = i
          · subst hki
            rw [eval_put_same _ _ _ (by rw [hasz]; exact hsz _ (ds_mem G hin))]
            exact hphi
          · rw [eval_put_other _ _ _ _ (fun e => hki (ds_inj G hk hin e))]
            have hf := hF k hk ((listed_set hkl).resolve_left hki)
            by_cases hkm : k = m
            · subst hkm
              rw [if_neg (fun e => hki e.symm)] at hrel
              exact hΦm _ _ _ hf hrel
            · exact hΦ k _ _ _ hkm hf hR
        · have hmi : i ≠ m := fun e => by
            subst e
            have h2 := (getD_set_iff (k := i) hil).mpr (.inl rfl)
            rw [hml] at h2; cases h2
          rw [if_neg hmi] at hrel
          refine hJ w w' (hJw ?_) hrel
          cases h : l.getD m false with
          | false => rfl
          | true =>
            have h2 := (getD_set_iff (k := m) hil).mpr (.inr h)
            rw [hml] at h2; cases h2
      · obtain rfl : i = n := by have := G.size; omega
        have hall : ∀ k, k < i → l.getD k false = true := fun k hk => by
          obtain ⟨e, he, h1, h2⟩ := G.last o ho k hk
          rw [← h1]
          exact hpre e he h2
        refine wpOp_at ho (G.guard i o ho) (Oper.wp_mono (fun a' w' hq => ?_) (hlast o ho a w hIw hAD hasz hadf (fun k hk => hF k hk (hall k hk))))
        refine ⟨by rw [Array.size_setIfInBounds]; exact hls, .inr ⟨fun k hk => (getD_set_iff hil).mpr ?_, hq⟩⟩
        rcases Nat.lt_or_ge k i with h | h
        · exact .inr (hall k h)
        · exact .inl (by omega)
    · exfalso
      have := hall i (by have := G.size; omega)
      simp [hil] at this hun
      rw [this] at hun
      cases hun
  · rintro l a w ⟨hls, hV⟩ hr
    have hall := all_listed (by rw [hls, G.size]) G.back hr
    rcases hV with ⟨hnl, _⟩ | ⟨_, hq⟩
    · have := hall n (by rw [G.size]; omega)
      rw [hnl] at this
      cases this
    · exact hq
/-- The frame behind: the slots ds hold what was yielded, the others what they held at the door. -/
def fillL (ds : List Nat) (vals : Nat → Value) : Nat → List Value → List Value
  | _, [] => []
  | t, x :: l => (bif ds.contains t then vals t else x) :: fillL ds vals (t + 1) l
theorem fillL_at (ds : List Nat) (vals : Nat → Value) : ∀ (l : List Value) (t i : Nat), (fillL ds vals t l)[i]? = l[i]?.map fun x => bif ds.contains (t + i) then vals (t + i) else x
  | [], t, i => by simp [fillL]
  | x :: l, t, 0 => by simp [fillL]
  | x :: l, t, i + 1 => by
    have := fillL_at ds vals l (t + 1) i
    rw [show t + 1 + i = t + (i + 1) by omega] at this
    simpa [fillL] using this
def fillA (a0 : Act) (ds : List Nat) (vals : Nat → Value) : List Value := fillL ds vals 0 a0.tmps.toList
theorem act_fill {a0 a : Act} {ds : List Nat} (h : AtDoor a0 ds a.eval) (hs : a.tmps.size = a0.tmps.size) (hd : a.defers = a0.defers) : a = ⟨(fillA a0 ds fun t => a.eval (.tmp t)).toArray, a0.defers⟩ := by
  obtain ⟨tmps, defers⟩ := a
  obtain rfl : defers = a0.defers := hd
  congr 1
  apply Array.toList_inj.mp
  apply List.ext_getElem?
  intro t
  unfold fillA
  rw [fillL_at, Nat.zero_add]
  rcases Nat.lt_or_ge t tmps.size with ht | ht
  · have ht0 : t < a0.tmps.toList.length := by simpa [← hs] using ht
    have e1 : (Act.mk tmps a0.defers).eval (.tmp t) = tmps[t] := by
      show tmps.getD t undef = _
      simp [ht]
    rw [List.getElem?_eq_getElem ht0, List.getElem?_eq_getElem (by simpa using ht)]
    simp only [Option.map_some, Array.getElem_toList, Option.some.injEq]
    cases hc : ds.contains t with
    | true => exact e1.symm
    | false =>
      have := h.tmp t (fun q => by rw [List.contains_iff_mem.mpr q] at hc; cases hc)
      rw [e1] at this
      rw [this]
      show a0.tmps.getD t undef = _
      have ht1 : t < a0.tmps.size := by simpa using ht0
      simp [ht1]
  · rw [List.getElem?_eq_none (by simpa using ht), List.getElem?_eq_none (by simpa [← hs] using ht)]
    rfl
theorem wp_region_gather' (n m : Nat) (ds : List Nat) {id : Nat} {a0 : Act} {w0 : World} (hm : P.follows .mixedOrders = true) (hG : gatherB ops n ds = true) (hsz : ∀ d ∈ ds, d < a0.tmps.size)
    (I J : World → Prop) (R : World → World → Prop) (Φ : Nat → Value → World → Prop)
    (hBR : ∀ w w', Below w.heap.size w w' → R w w') (hI : ∀ w w', I w → R w w' → I w') (hJ : ∀ w w', J w → Below w.heap.size w w' → J w')
    (hΦ : ∀ k v w w', k ≠ m → Φ k v w → R w w' → Φ k v w') (hΦm : ∀ v w w', Φ m v w → Below w.heap.size w w' → Φ m v w')
    (h0 : I { w0 with drawn := w0.drawn + 1 }) (h1 : J { w0 with drawn := w0.drawn + 1 })
    (hstep : ∀ (k : Nat) (o : Oper), k < n → ops[k]? = some o → ∀ (ρ : Operand → Value) (w : World), I w → AtDoor a0 ds ρ → (∀ e ∈ o.after, Region.binds .any e = true → Φ e.on (ρ (.tmp (ds.getD e.on 0))) w) → (k = m → J w) →
      ∃ v w', (execOp ρ o).run P w = .ok (.value v) w' ∧ Φ k v w' ∧ (if k = m then R w w' else Below w.heap.size w w'))
    (hlast : ∀ (o : Oper), ops[n]? = some o → ∀ (vals : Nat → Value) (w : World), I w → (∀ k, k < n → Φ k (vals (ds.getD k 0)) w) →
      o.wp P ⟨(fillA a0 ds vals).toArray, a0.defers⟩ w (fun a' w' => Q .normal a' w') Q) :
    (Code.region id ops true).wp P Q a0 w0 :=
  wp_region_gather n m ds hm hG hsz I J R Φ hBR hI hJ hΦ hΦm h0 h1 hstep (fun o ho a w hIw hA hs hd hF => by
    have := hlast o ho (fun t => a.eval (.tmp t)) w hIw hF
    rwa [← act_fill hA hs hd] at this)
end
end Go.Proofs.YtcjmljpfhabmnaaDoor
