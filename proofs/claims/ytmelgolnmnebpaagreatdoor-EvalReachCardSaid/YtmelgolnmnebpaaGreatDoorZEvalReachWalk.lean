/- The walk of EvalReach in the seat YtmelgolnmnebpaaGreatDoor (printed by eval/mk_reach.py). No statement is proved here. -/
import Derived.Test.YtmelgolnmnebpaaGreatDoorZM33
import Derived.Test.YtmelgolnmnebpaaGreatDoorZM34
import Derived.Test.YtmelgolnmnebpaaGreatDoorZM13
set_option linter.unusedSimpArgs false
set_option linter.unusedVariables false
set_option linter.unusedSimpArgs false
namespace Go.Proofs.YtmelgolnmnebpaaGreatDoor
open Go.RowKit

def PhiRa (hb g gP np c1 x bP oP pc : Nat) (arg wk : Int) : Nat → Value → World → Prop
  | 0, v, w => v = .pointer (some ⟨g, 2, none⟩)
  | 1, v, w => v = .slice (some ⟨gP, 0, none⟩) np c1
  | 2, v, w => v = .int .i64 (x : Int)
  | 3, v, w => v = .int .i64 arg
  | 4, v, w => v = .pointer (some ⟨hb, 2, none⟩)
  | 5, v, w => v = .slice (some ⟨bP, oP, none⟩) np pc
  | 6, v, w => v = .int .i64 (x : Int)
  | 7, v, w => v = .pointer (some ⟨bP, oP + x * 3, none⟩)
  | 8, v, w => v = .pointer (some ⟨bP, oP + x * 3 + 2, none⟩)
  | 9, v, w => v = .int .i64 wk
  | 10, v, w => v = .agg #[.int .i64 1, .int .i64 arg, .int .i64 wk]
  | 11, v, w => v = .pointer (some ⟨gP, x * 3, none⟩)
  | 12, v, w => True
  | _, _, _ => True
theorem phiRa_below (hb g gP np c1 x bP oP pc : Nat) (arg wk : Int) : ∀ kq v w w', PhiRa hb g gP np c1 x bP oP pc arg wk kq v w → Below w.heap.size w w' → PhiRa hb g gP np c1 x bP oP pc arg wk kq v w' := by
  intro kq v w w' h hb
  match kq, h with
  | 0, h => exact h
  | 1, h => exact h
  | 2, h => exact h
  | 3, h => exact h
  | 4, h => exact h
  | 5, h => exact h
  | 6, h => exact h
  | 7, h => exact h
  | 8, h => exact h
  | 9, h => exact h
  | 10, h => exact h
  | 11, h => exact h
  | 12, h => exact h
  | kq + 13, h => exact trivial
def PhiRb0 (gl : Nat) (A : Option Addr) (n c : Nat) (F : Option Addr) (m d : Nat) (R' : Option Addr) (k e : Nat) (b5 o5 b9 o9 np c5 c9 x i : Nat) (lx li av bv : Int) : Nat → Value → World → Prop
  | 0, v, w => v = .int .i64 (i : Int)
  | 1, v, w => v = .int .i64 (x : Int)
  | 2, v, w => v = .bool false
  | 3, v, w => v = .bool false
  | 4, v, w => True
  | 5, v, w => True
  | 6, v, w => True
  | 7, v, w => True
  | 8, v, w => True
  | 9, v, w => True
  | 10, v, w => True
  | 11, v, w => True
  | 12, v, w => True
  | 13, v, w => True
  | 14, v, w => v = .bool false
  | 15, v, w => v = .bool false
  | 16, v, w => True
  | 17, v, w => True
  | 18, v, w => True
  | 19, v, w => True
  | 20, v, w => True
  | 21, v, w => True
  | 22, v, w => True
  | 23, v, w => True
  | 24, v, w => True
  | 25, v, w => v = .bool false
  | _, _, _ => True
theorem phiRb0_below (gl : Nat) (A : Option Addr) (n c : Nat) (F : Option Addr) (m d : Nat) (R' : Option Addr) (k e : Nat) (b5 o5 b9 o9 np c5 c9 x i : Nat) (lx li av bv : Int) : ∀ kq v w w', PhiRb0 gl A n c F m d R' k e b5 o5 b9 o9 np c5 c9 x i lx li av bv kq v w → Below w.heap.size w w' → PhiRb0 gl A n c F m d R' k e b5 o5 b9 o9 np c5 c9 x i lx li av bv kq v w' := by
  intro kq v w w' h hb
  match kq, h with
  | 0, h => exact h
  | 1, h => exact h
  | 2, h => exact h
  | 3, h => exact h
  | 4, h => exact h
  | 5, h => exact h
  | 6, h => exact h
  | 7, h => exact h
  | 8, h => exact h
  | 9, h => exact h
  | 10, h => exact h
  | 11, h => exact h
  | 12, h => exact h
  | 13, h => exact h
  | 14, h => exact h
  | 15, h => exact h
  | 16, h => exact h
  | 17, h => exact h
  | 18, h => exact h
  | 19, h => exact h
  | 20, h => exact h
  | 21, h => exact h
  | 22, h => exact h
  | 23, h => exact h
  | 24, h => exact h
  | 25, h => exact h
  | kq + 26, h => exact trivial
def PhiRb1 (gl : Nat) (A : Option Addr) (n c : Nat) (F : Option Addr) (m d : Nat) (R' : Option Addr) (k e : Nat) (b5 o5 b9 o9 np c5 c9 x i : Nat) (lx li av bv : Int) : Nat → Value → World → Prop
  | 0, v, w => v = .int .i64 (i : Int)
  | 1, v, w => v = .int .i64 (x : Int)
  | 2, v, w => v = .bool true
  | 3, v, w => v = .bool true
  | 4, v, w => v = .pointer (some ⟨gl, 0, none⟩)
  | 5, v, w => v = .agg #[.slice A n c, .slice F m d]
  | 6, v, w => v = .agg #[.slice A n c, .slice F m d, .slice R' k e]
  | 7, v, w => v = .int .i64 (x : Int)
  | 8, v, w => v = .int .i64 lx
  | 9, v, w => v = .agg #[.slice A n c, .slice F m d, .slice R' k e]
  | 10, v, w => v = .int .i64 (i : Int)
  | 11, v, w => v = .int .i64 li
  | 12, v, w => v = .bool true
  | 13, v, w => v = .bool false
  | 14, v, w => v = .bool false
  | 15, v, w => v = .bool false
  | 16, v, w => True
  | 17, v, w => True
  | 18, v, w => True
  | 19, v, w => True
  | 20, v, w => True
  | 21, v, w => True
  | 22, v, w => True
  | 23, v, w => True
  | 24, v, w => True
  | 25, v, w => v = .bool false
  | _, _, _ => True
theorem phiRb1_below (gl : Nat) (A : Option Addr) (n c : Nat) (F : Option Addr) (m d : Nat) (R' : Option Addr) (k e : Nat) (b5 o5 b9 o9 np c5 c9 x i : Nat) (lx li av bv : Int) : ∀ kq v w w', PhiRb1 gl A n c F m d R' k e b5 o5 b9 o9 np c5 c9 x i lx li av bv kq v w → Below w.heap.size w w' → PhiRb1 gl A n c F m d R' k e b5 o5 b9 o9 np c5 c9 x i lx li av bv kq v w' := by
  intro kq v w w' h hb
  match kq, h with
  | 0, h => exact h
  | 1, h => exact h
  | 2, h => exact h
  | 3, h => exact h
  | 4, h => exact h
  | 5, h => exact h
  | 6, h => exact h
  | 7, h => exact h
  | 8, h => exact h
  | 9, h => exact h
  | 10, h => exact h
  | 11, h => exact h
  | 12, h => exact h
  | 13, h => exact h
  | 14, h => exact h
  | 15, h => exact h
  | 16, h => exact h
  | 17, h => exact h
  | 18, h => exact h
  | 19, h => exact h
  | 20, h => exact h
  | 21, h => exact h
  | 22, h => exact h
  | 23, h => exact h
  | 24, h => exact h
  | 25, h => exact h
  | kq + 26, h => exact trivial
def PhiRb2 (gl : Nat) (A : Option Addr) (n c : Nat) (F : Option Addr) (m d : Nat) (R' : Option Addr) (k e : Nat) (b5 o5 b9 o9 np c5 c9 x i : Nat) (lx li av bv : Int) : Nat → Value → World → Prop
  | 0, v, w => v = .int .i64 (i : Int)
  | 1, v, w => v = .int .i64 (x : Int)
  | 2, v, w => v = .bool true
  | 3, v, w => v = .bool true
  | 4, v, w => v = .pointer (some ⟨gl, 0, none⟩)
  | 5, v, w => v = .agg #[.slice A n c, .slice F m d]
  | 6, v, w => v = .agg #[.slice A n c, .slice F m d, .slice R' k e]
  | 7, v, w => v = .int .i64 (x : Int)
  | 8, v, w => v = .int .i64 lx
  | 9, v, w => v = .agg #[.slice A n c, .slice F m d, .slice R' k e]
  | 10, v, w => v = .int .i64 (i : Int)
  | 11, v, w => v = .int .i64 li
  | 12, v, w => v = .bool false
  | 13, v, w => v = .bool true
  | 14, v, w => v = .bool true
  | 15, v, w => v = .bool true
  | 16, v, w => v = .slice (some ⟨b5, o5, none⟩) np c5
  | 17, v, w => v = .int .i64 (i : Int)
  | 18, v, w => v = .pointer (some ⟨b5, o5 + i, none⟩)
  | 19, v, w => v = .int .i64 av
  | 20, v, w => v = .slice (some ⟨b9, o9, none⟩) np c9
  | 21, v, w => v = .int .i64 (i : Int)
  | 22, v, w => v = .pointer (some ⟨b9, o9 + i, none⟩)
  | 23, v, w => v = .int .i64 bv
  | 24, v, w => v = .bool false
  | 25, v, w => v = .bool false
  | _, _, _ => True
theorem phiRb2_below (gl : Nat) (A : Option Addr) (n c : Nat) (F : Option Addr) (m d : Nat) (R' : Option Addr) (k e : Nat) (b5 o5 b9 o9 np c5 c9 x i : Nat) (lx li av bv : Int) : ∀ kq v w w', PhiRb2 gl A n c F m d R' k e b5 o5 b9 o9 np c5 c9 x i lx li av bv kq v w → Below w.heap.size w w' → PhiRb2 gl A n c F m d R' k e b5 o5 b9 o9 np c5 c9 x i lx li av bv kq v w' := by
  intro kq v w w' h hb
  match kq, h with
  | 0, h => exact h
  | 1, h => exact h
  | 2, h => exact h
  | 3, h => exact h
  | 4, h => exact h
  | 5, h => exact h
  | 6, h => exact h
  | 7, h => exact h
  | 8, h => exact h
  | 9, h => exact h
  | 10, h => exact h
  | 11, h => exact h
  | 12, h => exact h
  | 13, h => exact h
  | 14, h => exact h
  | 15, h => exact h
  | 16, h => exact h
  | 17, h => exact h
  | 18, h => exact h
  | 19, h => exact h
  | 20, h => exact h
  | 21, h => exact h
  | 22, h => exact h
  | 23, h => exact h
  | 24, h => exact h
  | 25, h => exact h
  | kq + 26, h => exact trivial
section
variable {s : Sh} {T : Task} {inp : List Int} {Ai : Option Addr} {ni ci : Nat}
set_option maxRecDepth 100000 in
set_option maxHeartbeats 16000000 in
theorem reach_many (w0 : World) (part arg : Int) (hd : InD w0 s T) (hT : DTab w0) (h : ¬ (FewD T ∧ ni ≤ 60)) : Calls Tryz.prog 8 #[s.arg T.period T.deadline, .slice Ai ni ci, .int .i64 part, .int .i64 arg] w0 fun z w' => z = .returned (.bool true) ∧ Below w0.heap.size w0 w' := by
  have HTW := Lib.hid (fun W (h : Below w0.heap.size w0 W) => DTab.via hT h)
  have B0 := Lib.hid (Bx1T.start hd.t)
  have CF := Lib.hid (fun W (k : IsT W W.heap.size s T) => few8_any (s := s) (T := T) (A := none) (n := 0) (c := 0) (F := none) (m := 0) (d := 0) (Ai := Ai) (ni := ni) (ci := ci) W k false ⟨fun e => (by cases e), fun e => absurd ⟨e.1, e.2.1⟩ h⟩)
  obtain ⟨P, np, pc, E, ne, ec, Fu, nf, fc, R, nr, rc⟩ := s
  clear hd hT h
  go_enter Tryz.func8, Tryz.ntmps8
  go_wp2_with fail
  refine (awakeE_any _ (HTW.out _ B0.out.bel)).mono ?_
  rintro e w1 ⟨rfl, b1⟩
  have B1 := Lib.hid (B0.out.next b1)
  clear b1
  obtain ⟨t0, t1, t2, t3, t4, t5⟩ := B1.out.c
  simp only at t2 t3 t4 t5
  go_wp2_with fail
  refine (CF.out _ B1.out.t).mono ?_
  rintro e w2 ⟨rfl, b2⟩
  have B2 := Lib.hid (B1.out.next b2)
  clear b2 t0 t1 t2 t3 t4 t5
  go_wp2_with fail
  refine (awakeE_any _ (HTW.out _ B2.out.bel)).mono ?_
  rintro e w3 ⟨rfl, b3⟩
  have B3 := Lib.hid (B2.out.next b3)
  clear b3
  go_wp2_with fail
  go_ret
  exact ⟨rfl, B3.out.bel⟩
set_option maxRecDepth 100000 in
set_option maxHeartbeats 16000000 in
theorem reach_off0 (w0 : World) (part arg : Int) (hd : InD w0 s T) (hT : DTab w0) (h1 : FewD T) (h2 : ni ≤ 60) (hoff : part < 0) : Calls Tryz.prog 8 #[s.arg T.period T.deadline, .slice Ai ni ci, .int .i64 part, .int .i64 arg] w0 fun z w' => z = .returned (.bool true) ∧ Below w0.heap.size w0 w' := by
  have HTW := Lib.hid (fun W (h : Below w0.heap.size w0 W) => DTab.via hT h)
  have B0 := Lib.hid (Bx1T.start hd.t)
  have CF := Lib.hid (fun W (k : IsT W W.heap.size s T) => few8_any (s := s) (T := T) (A := none) (n := 0) (c := 0) (F := none) (m := 0) (d := 0) (Ai := Ai) (ni := ni) (ci := ci) W k true ⟨fun _ => ⟨h1, h2, by decide, by decide⟩, fun _ => rfl⟩)
  obtain ⟨P, np, pc, E, ne, ec, Fu, nf, fc, R, nr, rc⟩ := s
  have g1 : decide (part < 0) = true := decide_eq_true hoff
  clear hd hT h1 hoff
  go_enter Tryz.func8, Tryz.ntmps8
  go_wp2_with fail
  refine (awakeE_any _ (HTW.out _ B0.out.bel)).mono ?_
  rintro e w1 ⟨rfl, b1⟩
  have B1 := Lib.hid (B0.out.next b1)
  clear b1
  obtain ⟨t0, t1, t2, t3, t4, t5⟩ := B1.out.c
  simp only at t2 t3 t4 t5
  go_wp2_with fail
  refine (CF.out _ B1.out.t).mono ?_
  rintro e w2 ⟨rfl, b2⟩
  have B2 := Lib.hid (B1.out.next b2)
  clear b2 t0 t1 t2 t3 t4 t5
  obtain ⟨t0, t1, t2, t3, t4, t5⟩ := B2.out.c
  simp only at t2 t3 t4 t5
  go_wp2_with fail
  refine (awakeE_any _ (HTW.out _ B2.out.bel)).mono ?_
  rintro e w3 ⟨rfl, b3⟩
  have B3 := Lib.hid (B2.out.next b3)
  clear b3
  go_wp2_with fail
  go_ret
  exact ⟨rfl, B3.out.bel⟩
set_option maxRecDepth 100000 in
set_option maxHeartbeats 16000000 in
theorem reach_off1 (w0 : World) (part arg : Int) (hd : InD w0 s T) (hT : DTab w0) (h1 : FewD T) (h2 : ni ≤ 60) (hoff : 0 ≤ part ∧ (s.np : Int) ≤ part) : Calls Tryz.prog 8 #[s.arg T.period T.deadline, .slice Ai ni ci, .int .i64 part, .int .i64 arg] w0 fun z w' => z = .returned (.bool true) ∧ Below w0.heap.size w0 w' := by
  have HTW := Lib.hid (fun W (h : Below w0.heap.size w0 W) => DTab.via hT h)
  have B0 := Lib.hid (Bx1T.start hd.t)
  have CF := Lib.hid (fun W (k : IsT W W.heap.size s T) => few8_any (s := s) (T := T) (A := none) (n := 0) (c := 0) (F := none) (m := 0) (d := 0) (Ai := Ai) (ni := ni) (ci := ci) W k true ⟨fun _ => ⟨h1, h2, by decide, by decide⟩, fun _ => rfl⟩)
  obtain ⟨P, np, pc, E, ne, ec, Fu, nf, fc, R, nr, rc⟩ := s
  have g1 : decide (part < 0) = false := decide_eq_false (by omega)
  have g2 : decide ((np : Int) ≤ part) = true := decide_eq_true hoff.2
  clear hd hT h1 hoff
  go_enter Tryz.func8, Tryz.ntmps8
  go_wp2_with fail
  refine (awakeE_any _ (HTW.out _ B0.out.bel)).mono ?_
  rintro e w1 ⟨rfl, b1⟩
  have B1 := Lib.hid (B0.out.next b1)
  clear b1
  obtain ⟨t0, t1, t2, t3, t4, t5⟩ := B1.out.c
  simp only at t2 t3 t4 t5
  go_wp2_with fail
  refine (CF.out _ B1.out.t).mono ?_
  rintro e w2 ⟨rfl, b2⟩
  have B2 := Lib.hid (B1.out.next b2)
  clear b2 t0 t1 t2 t3 t4 t5
  obtain ⟨t0, t1, t2, t3, t4, t5⟩ := B2.out.c
  simp only at t2 t3 t4 t5
  go_wp2_with fail
  refine (awakeE_any _ (HTW.out _ B2.out.bel)).mono ?_
  rintro e w3 ⟨rfl, b3⟩
  have B3 := Lib.hid (B2.out.next b3)
  clear b3
  go_wp2_with fail
  go_ret
  exact ⟨rfl, B3.out.bel⟩
set_option maxRecDepth 100000 in
set_option maxHeartbeats 16000000 in
theorem reach_off2 (w0 : World) (part arg : Int) (hd : InD w0 s T) (hT : DTab w0) (h1 : FewD T) (h2 : ni ≤ 60) (hoff : (0 ≤ part ∧ part < (s.np : Int)) ∧ arg < 0) : Calls Tryz.prog 8 #[s.arg T.period T.deadline, .slice Ai ni ci, .int .i64 part, .int .i64 arg] w0 fun z w' => z = .returned (.bool true) ∧ Below w0.heap.size w0 w' := by
  have HTW := Lib.hid (fun W (h : Below w0.heap.size w0 W) => DTab.via hT h)
  have B0 := Lib.hid (Bx1T.start hd.t)
  have CF := Lib.hid (fun W (k : IsT W W.heap.size s T) => few8_any (s := s) (T := T) (A := none) (n := 0) (c := 0) (F := none) (m := 0) (d := 0) (Ai := Ai) (ni := ni) (ci := ci) W k true ⟨fun _ => ⟨h1, h2, by decide, by decide⟩, fun _ => rfl⟩)
  obtain ⟨P, np, pc, E, ne, ec, Fu, nf, fc, R, nr, rc⟩ := s
  have g1 : decide (part < 0) = false := decide_eq_false (by omega)
  have g2 : decide ((np : Int) ≤ part) = false := decide_eq_false (by simp only at hoff; omega)
  have g3 : decide (arg < 0) = true := decide_eq_true hoff.2
  clear hd hT h1 hoff
  go_enter Tryz.func8, Tryz.ntmps8
  go_wp2_with fail
  refine (awakeE_any _ (HTW.out _ B0.out.bel)).mono ?_
  rintro e w1 ⟨rfl, b1⟩
  have B1 := Lib.hid (B0.out.next b1)
  clear b1
  obtain ⟨t0, t1, t2, t3, t4, t5⟩ := B1.out.c
  simp only at t2 t3 t4 t5
  go_wp2_with fail
  refine (CF.out _ B1.out.t).mono ?_
  rintro e w2 ⟨rfl, b2⟩
  have B2 := Lib.hid (B1.out.next b2)
  clear b2 t0 t1 t2 t3 t4 t5
  obtain ⟨t0, t1, t2, t3, t4, t5⟩ := B2.out.c
  simp only at t2 t3 t4 t5
  go_wp2_with fail
  refine (awakeE_any _ (HTW.out _ B2.out.bel)).mono ?_
  rintro e w3 ⟨rfl, b3⟩
  have B3 := Lib.hid (B2.out.next b3)
  clear b3
  go_wp2_with fail
  go_ret
  exact ⟨rfl, B3.out.bel⟩
set_option maxRecDepth 100000 in
set_option maxHeartbeats 16000000 in
theorem reach_off3 (w0 : World) (part arg : Int) (hd : InD w0 s T) (hT : DTab w0) (h1 : FewD T) (h2 : ni ≤ 60) (hoff : (0 ≤ part ∧ part < (s.np : Int)) ∧ 2147483647 < arg) : Calls Tryz.prog 8 #[s.arg T.period T.deadline, .slice Ai ni ci, .int .i64 part, .int .i64 arg] w0 fun z w' => z = .returned (.bool true) ∧ Below w0.heap.size w0 w' := by
  have HTW := Lib.hid (fun W (h : Below w0.heap.size w0 W) => DTab.via hT h)
  have B0 := Lib.hid (Bx1T.start hd.t)
  have CF := Lib.hid (fun W (k : IsT W W.heap.size s T) => few8_any (s := s) (T := T) (A := none) (n := 0) (c := 0) (F := none) (m := 0) (d := 0) (Ai := Ai) (ni := ni) (ci := ci) W k true ⟨fun _ => ⟨h1, h2, by decide, by decide⟩, fun _ => rfl⟩)
  obtain ⟨P, np, pc, E, ne, ec, Fu, nf, fc, R, nr, rc⟩ := s
  have g1 : decide (part < 0) = false := decide_eq_false (by omega)
  have g2 : decide ((np : Int) ≤ part) = false := decide_eq_false (by simp only at hoff; omega)
  have g3 : decide (arg < 0) = false := decide_eq_false (by omega)
  have g4 : decide (2147483647 < arg) = true := decide_eq_true hoff.2
  clear hd hT h1 hoff
  go_enter Tryz.func8, Tryz.ntmps8
  go_wp2_with fail
  refine (awakeE_any _ (HTW.out _ B0.out.bel)).mono ?_
  rintro e w1 ⟨rfl, b1⟩
  have B1 := Lib.hid (B0.out.next b1)
  clear b1
  obtain ⟨t0, t1, t2, t3, t4, t5⟩ := B1.out.c
  simp only at t2 t3 t4 t5
  go_wp2_with fail
  refine (CF.out _ B1.out.t).mono ?_
  rintro e w2 ⟨rfl, b2⟩
  have B2 := Lib.hid (B1.out.next b2)
  clear b2 t0 t1 t2 t3 t4 t5
  obtain ⟨t0, t1, t2, t3, t4, t5⟩ := B2.out.c
  simp only at t2 t3 t4 t5
  go_wp2_with fail
  refine (awakeE_any _ (HTW.out _ B2.out.bel)).mono ?_
  rintro e w3 ⟨rfl, b3⟩
  have B3 := Lib.hid (B2.out.next b3)
  clear b3
  go_wp2_with fail
  go_ret
  exact ⟨rfl, B3.out.bel⟩
set_option maxRecDepth 100000 in
set_option maxHeartbeats 64000000 in
theorem reach_in (w0 : World) (x : Nat) (arg : Int) (hd : InD w0 s T) (hi : InI w0 Ai ni ci inp) (hT : DTab w0) (h1 : FewD T) (h2 : ni ≤ 60) (hx : x < s.np) (ha : 0 ≤ arg ∧ arg ≤ 2147483647) : Calls Tryz.prog 8 #[s.arg T.period T.deadline, .slice Ai ni ci, .int .i64 (x : Int), .int .i64 arg] w0 fun z w' => z = .returned (.bool true) ∧ Below w0.heap.size w0 w' := by
  have HTW := Lib.hid (fun W (h : Below w0.heap.size w0 W) => DTab.via hT h)
  have HISD := Lib.hid (fun W (h : Below w0.heap.size w0 W) => (hd.isD hT h1).below h)
  have HINP := Lib.hid (fun W (h : Below w0.heap.size w0 W) => hi.below h)
  have HNI := Lib.hid (⟨hi.hn, by omega⟩ : inp.length = ni ∧ ni ≤ 1000)
  have B0 := Lib.hid (Bx1T.start hd.t)
  have HXL : Hid (x < T.parts.length) := Lib.hid (by rw [hd.t.hp]; exact hx)
  have HPL := Lib.hid hd.t.hp
  have HAR := Lib.hid ha
  have HFEW := Lib.hid h1.few
  have CF := Lib.hid (fun W (k : IsT W W.heap.size s T) => few8_any (s := s) (T := T) (A := none) (n := 0) (c := 0) (F := none) (m := 0) (d := 0) (Ai := Ai) (ni := ni) (ci := ci) W k true ⟨fun _ => ⟨h1, h2, by decide, by decide⟩, fun _ => rfl⟩)
  have HLI := Lib.hid (fun W (h1 : InI W Ai ni ci inp) => (by
    obtain rfl := h1.hn
    exact new_list9 W Ai ci inp (by omega) h1.ints h1.hA : ∃ A' c' w', (Builtin.append_ #[30, 30] 30 #[.slice (some ⟨W.heap.size, 0, none⟩) 0 0, .slice Ai ni ci]).run Tryz.prog (W.alloc (.cells #[] 3)) = .ok (.slice A' ni c') w' ∧ OwnI w' W.heap.size (.slice A' ni c') inp ∧ Below W.heap.size W w'))
  have hk0 : (runV T inp).length ≤ T.parts.length := by
    unfold runV
    split
    · rw [runK_len]; exact Nat.le_refl _
    · exact Nat.zero_le _
  have hnp4 : s.np ≤ 400 := by have h3 := h1.few.np; have h4 := hd.t.hp; omega
  obtain ⟨P, np, pc, E, ne, ec, Fu, nf, fc, R, nr, rc⟩ := s
  simp only at hx HPL hnp4
  have hxn : x < np := hx
  have g1 : decide ((x : Int) < 0) = false := decide_eq_false (by omega)
  have g2 : decide ((np : Int) ≤ (x : Int)) = false := decide_eq_false (by omega)
  have g2' : decide (np ≤ x) = false := decide_eq_false (by omega)
  have g3 : decide (arg < 0) = false := decide_eq_false (by omega)
  have g4 : decide (2147483647 < arg) = false := decide_eq_false (by omega)
  rw [HPL.out] at hk0
  clear hd hi hT h1 hx ha
  go_enter Tryz.func8, Tryz.ntmps8
  go_wp2_with fail
  refine (awakeE_any _ (HTW.out _ B0.out.bel)).mono ?_
  rintro e w1 ⟨rfl, b1⟩
  have B1 := Lib.hid (B0.out.next b1)
  clear b1
  obtain ⟨t0, t1, t2, t3, t4, t5⟩ := B1.out.c
  simp only at t2 t3 t4 t5
  go_wp2_with fail
  refine (CF.out _ B1.out.t).mono ?_
  rintro e w2 ⟨rfl, b2⟩
  have B2 := Lib.hid (B1.out.next b2)
  clear b2 t0 t1 t2 t3 t4 t5
  obtain ⟨t0, t1, t2, t3, t4, t5⟩ := B2.out.c
  simp only at t2 t3 t4 t5
  go_wp2_with fail
  refine (own_d (HISD.out _ B2.out.bel)).mono ?_
  rintro e w3 ⟨s3, rfl, hs3, b3⟩
  have B3 := Lib.hid (B2.out.next b3)
  obtain ⟨A4', c4', w4, hr4, ho4, hb4⟩ := HLI.out w3 (HINP.out _ B3.out.bel)
  have HS4 := Lib.hid (hs3.below hb4)
  have B4 := Lib.hid (B3.out.next hb4)
  have HR4 := Lib.hid hr4
  have HO4 := Lib.hid ho4
  clear hs3 b3 hr4 ho4 hb4 t0 t1 t2 t3 t4 t5 g1 g2 g2' g3 g4
  go_wp2_with (at_builtin; refine wpList_append_run rfl _ _ 30 _ _ rfl rfl rfl HR4.out ?_)
  refine (run_any w4 HS4.out (OwnI.ints HO4.out) HNI.out.1 HNI.out.2).mono ?_
  rintro e w5 ⟨⟨A5, k5, c5, rfl, hk5, hi5⟩, b5⟩
  have B5 := Lib.hid (B4.out.next b5)
  have L5 := Lib.hid hi5
  have HK5 := Lib.hid hk5
  rw [hk5] at hk0
  obtain ⟨lx, hlx⟩ : ∃ lx, lx = lowX T := ⟨_, rfl⟩
  rw [← hlx]
  have HLX := Lib.hid hlx
  clear hk5 hi5 b5 hlx B0 B1 B2 B3 B4 HS4 HO4 HR4
  obtain ⟨t0, t1, t2, t3, t4, t5⟩ := B5.out.c
  simp only at t2 t3 t4 t5
  go_wp2_with fail
  refine (own_re (HISD.out _ B5.out.bel)).mono ?_
  rintro e w6 ⟨A1, c1, A2, c2, A3, c3, A4, c4, rfl, o1, o2, o3, o4, b6⟩
  simp only at o1 o2 o3 o4
  obtain ⟨gP, rfl⟩ : ∃ gP, A1 = some ⟨gP, 0, none⟩ := by
    rcases o1.2 with ⟨e1, _⟩ | ⟨g', cap, cur, e1, _⟩
    · injection e1 with _ e2 _
      omega
    · injection e1 with e2 _ _
      exact ⟨g', e2⟩
  have B6 := Lib.hid (B5.out.next b6)
  have HO6 := Lib.hid (And.intro o1 (And.intro o2 (And.intro o3 o4)))
  have HB6 := Lib.hid b6
  clear o1 o2 o3 o4 b6 t0 t1 t2 t3 t4 t5
  go_wp2_with fail
  obtain ⟨w7, hw7⟩ : ∃ w7, w7 = w6.alloc (.cells #[.int .i64 T.period, .int .i64 T.deadline, .slice (some ⟨gP, 0, none⟩) np c1, .slice A2 ne c2, .slice A3 nf c3, .slice A4 nr c4] 27) := ⟨_, rfl⟩
  rw [← hw7]
  obtain ⟨g, hg⟩ : ∃ g, g = w6.heap.size := ⟨_, rfl⟩
  rw [← hg]
  obtain ⟨bs, hbs⟩ : ∃ bs, bs = w5.heap.size := ⟨_, rfl⟩
  have hb7 := below_alloc (w := w6) (.cells #[.int .i64 T.period, .int .i64 T.deadline, .slice (some ⟨gP, 0, none⟩) np c1, .slice A2 ne c2, .slice A3 nf c3, .slice A4 nr c4] 27)
  have hn7 := heap_alloc_new w6 (.cells #[.int .i64 T.period, .int .i64 T.deadline, .slice (some ⟨gP, 0, none⟩) np c1, .slice A2 ne c2, .slice A3 nf c3, .slice A4 nr c4] 27)
  rw [← hw7] at hb7 hn7
  rw [← hg] at hn7
  have hsz := HB6.out.size
  have hb0 := World.block_lt_of_cell? _ _ B5.out.c.1
  simp only at hb0
  have B7 : Hid (Bx1D w0 (⟨P, np, pc, E, ne, ec, Fu, nf, fc, R, nr, rc⟩ : Sh) T w7 ∧ BoxRe bs T g (.slice (some ⟨gP, 0, none⟩) np c1) (.slice A2 ne c2) (.slice A3 nf c3) (.slice A4 nr c4) w7) := Lib.hid ⟨⟨(B6.out.next hb7).bel, (B6.out.next hb7).c, HISD.out _ (B6.out.next hb7).bel⟩, ⟨hn7, by omega, by rw [hbs]; exact HO6.out.1.below hb7, by rw [hbs]; exact own_below HO6.out.2.1 hb7, by rw [hbs]; exact HO6.out.2.2.1.below hb7, by rw [hbs]; exact HO6.out.2.2.2.below hb7⟩⟩
  have HBS := Lib.hid (⟨by omega, by have := hb7.size; omega⟩ : w0.heap.size < bs ∧ bs ≤ w7.heap.size)
  have L7 : Hid (Ints w7 bs A5 (runV T inp)) := Lib.hid (by
    have h1 := L5.out.below (HB6.out.trans (hb7.mono hsz))
    rw [hbs]
    exact h1)
  have H7 := Lib.hid (B6.out.bel.trans (hb7.mono B6.out.bel.size))
  obtain ⟨bP, oP, y1, y2, y3, eP, _, hxp, _, _, _⟩ := B7.out.1.d.t.parts.at_ (k := x) HXL.out
  simp only at eP
  subst eP
  obtain ⟨wk, hwk⟩ : ∃ wk, wk = (partAt T x).2.2 := ⟨_, rfl⟩
  have HWK := Lib.hid hwk
  have HXP : Hid (T.parts[x]? = some (y1, y2, wk)) := Lib.hid (by
    rw [hxp, hwk]
    unfold partAt
    rw [List.getD_eq_getElem?_getD, hxp]
    rfl)
  clear hw7 hg hbs hb7 hn7 hsz hb0 hxp hwk B5 L5 B6 HO6 HB6
  refine wp_region_stored 12 [57, 58, 59, 60, 61, 62, 63, 64, 65, 66, 67, 68, 1000] [] (by kernel_rfl) (by kernel_rfl) (by intro d hd; simp at hd ⊢; omega) (fun y => (Bx1D w0 (⟨some ⟨bP, oP, none⟩, np, pc, E, ne, ec, Fu, nf, fc, R, nr, rc⟩ : Sh) T y ∧ BoxRe bs T g (.slice (some ⟨gP, 0, none⟩) np c1) (.slice A2 ne c2) (.slice A3 nf c3) (.slice A4 nr c4) y) ∧ Below w7.heap.size w7 y) (PhiRa w0.heap.size g gP np c1 x bP oP pc arg wk) (fun _ y => Below bs w7 y ∧ BoxRe bs (conT T x arg) g (.slice (some ⟨gP, 0, none⟩) np c1) (.slice A2 ne c2) (.slice A3 nf c3) (.slice A4 nr c4) y)
    (fun x y h hb => ⟨⟨h.1.1.next hb, h.1.2.below hb⟩, h.2.trans (hb.mono h.2.size)⟩) (phiRa_below w0.heap.size g gP np c1 x bP oP pc arg wk) (⟨⟨B7.out.1.next (Below.refl _ _).drew, B7.out.2.below (Below.refl _ _).drew⟩, (Below.refl _ _).drew⟩) ?hstep ?hpure ?hstore ?htheta ?hend
  case hstep =>
    intro kq o hkp hkS ho a w hI hA hd K hK
    obtain ⟨ρ, hρ⟩ : ∃ ρ, a.eval = ρ := ⟨_, rfl⟩
    rw [hρ] at hA hd
    match kq, hkp, hkS, ho with
    | 0, _, _, ho =>
      have hoo := Option.some.inj ho
      subst hoo
      exact fx_val hK hρ _ (by have h := hA.tmp 11 (by decide); simp [execOp, h, go_sem]) rfl
    | 1, _, _, ho =>
      have hoo := Option.some.inj ho
      subst hoo
      have f0 : (ρ (.tmp 57)) = .pointer (some ⟨g, 2, none⟩) := hd ⟨0, .data⟩ (by simp) (by rfl)
      exact fx_val hK hρ _ (by have h0 := (show w.cell? ⟨g, 2, none⟩ = some (.slice (some ⟨gP, 0, none⟩) np c1) by rw [cell_of_row _ _ _ _ _ _ hI.1.2.row]; rfl); simp [execOp, f0, h0, go_sem]) rfl
    | 2, _, _, ho =>
      have hoo := Option.some.inj ho
      subst hoo
      exact fx_val hK hρ (.int .i64 (x : Int)) (by have h := hA.tmp 2 (by decide); simp [execOp, h, go_sem]) rfl
    | 3, _, _, ho =>
      have hoo := Option.some.inj ho
      subst hoo
      exact fx_val hK hρ (.int .i64 arg) (by have h := hA.tmp 3 (by decide); simp [execOp, h, go_sem]) rfl
    | 4, _, _, ho =>
      have hoo := Option.some.inj ho
      subst hoo
      exact fx_val hK hρ _ (by have h := hA.tmp 4 (by decide); simp [execOp, h, go_sem]) rfl
    | 5, _, _, ho =>
      have hoo := Option.some.inj ho
      subst hoo
      have f4 : (ρ (.tmp 61)) = .pointer (some ⟨w0.heap.size, 2, none⟩) := hd ⟨4, .data⟩ (by simp) (by rfl)
      exact fx_val hK hρ _ (by have h0 := hI.1.1.c.2.2.1; simp [execOp, f4, h0, go_sem]) rfl
    | 6, _, _, ho =>
      have hoo := Option.some.inj ho
      subst hoo
      exact fx_val hK hρ (.int .i64 (x : Int)) (by have h := hA.tmp 2 (by decide); simp [execOp, h, go_sem]) rfl
    | 7, _, _, ho =>
      have hoo := Option.some.inj ho
      subst hoo
      have f5 : (ρ (.tmp 62)) = .slice (some ⟨bP, oP, none⟩) np pc := hd ⟨5, .data⟩ (by simp) (by rfl)
      have f6 : (ρ (.tmp 63)) = .int .i64 (x : Int) := hd ⟨6, .data⟩ (by simp) (by rfl)
      exact fx_val hK hρ _ (idx_eqT9 rfl f5 f6 hxn) rfl
    | 8, _, _, ho =>
      have hoo := Option.some.inj ho
      subst hoo
      have f7 : (ρ (.tmp 64)) = .pointer (some ⟨bP, oP + x * 3, none⟩) := hd ⟨7, .data⟩ (by simp) (by rfl)
      exact fx_val hK hρ _ (by simp [execOp, f7, go_sem]) rfl
    | 9, _, _, ho =>
      have hoo := Option.some.inj ho
      subst hoo
      have f8 : (ρ (.tmp 65)) = .pointer (some ⟨bP, oP + x * 3 + 2, none⟩) := hd ⟨8, .data⟩ (by simp) (by rfl)
      exact fx_val hK hρ _ (by have h0 : w.cell? ⟨bP, oP + x * 3 + 2, none⟩ = some (.int .i64 wk) := trips_at hI.1.1.d.t.parts HXP.out; simp [execOp, f8, h0, go_sem]) rfl
    | 10, _, _, ho =>
      have hoo := Option.some.inj ho
      subst hoo
      have f3 : (ρ (.tmp 60)) = .int .i64 arg := hd ⟨3, .data⟩ (by simp) (by rfl)
      have f9 : (ρ (.tmp 66)) = .int .i64 wk := hd ⟨9, .data⟩ (by simp) (by rfl)
      exact fx_val hK hρ (.agg #[.int .i64 1, .int .i64 arg, .int .i64 wk]) (by simp [execOp, f3, f9, hA.const, go_sem]) rfl
    | 11, _, _, ho =>
      have hoo := Option.some.inj ho
      subst hoo
      have f1 : (ρ (.tmp 58)) = .slice (some ⟨gP, 0, none⟩) np c1 := hd ⟨1, .data⟩ (by simp) (by rfl)
      have f2 : (ρ (.tmp 59)) = .int .i64 (x : Int) := hd ⟨2, .data⟩ (by simp) (by rfl)
      exact fx_val hK hρ (.pointer (some ⟨gP, x * 3, none⟩)) (by have h1 : 0 + x * 3 = x * 3 := Nat.zero_add _; rw [← h1]; exact idx_eqT9 rfl f1 f2 hxn) rfl
    | 12, hkp, _, _ => exact absurd rfl hkp
    | kq + 13, _, _, ho => simp at ho
  case hpure =>
    intro kq o hkS ho ρ w hA hd
    cases hkS
  case hstore =>
    intro o ho a w hI hA hF K hK
    have hoo := Option.some.inj ho
    subst hoo
    have q11 : a.eval (.tmp 68) = .pointer (some ⟨gP, x * 3, none⟩) := hF 11 (by decide) (by decide) (by decide)
    have q10 : a.eval (.tmp 67) = .agg #[.int .i64 1, .int .i64 arg, .int .i64 wk] := hF 10 (by decide) (by decide) (by decide)
    obtain ⟨cur, hgg, hcs, hbg, hbox⟩ := BoxRe.setPart (arg := arg) hI.1.2 HXL.out
    rw [← HWK.out] at hbox
    have hbz := (((hI.2.mono HBS.out.2).setCell (p := ⟨gP, x * 3, none⟩) hbg (.int .i64 1)).setCell (p := ⟨gP, x * 3 + 1, none⟩) hbg (.int .i64 arg)).setCell (p := ⟨gP, x * 3 + 2, none⟩) hbg (.int .i64 wk)
    exact ox_part (gP := gP) (k := x * 3) (cur := cur) (s := .tmp 68) (y := .tmp 67) rfl rfl q11 q10 hgg hcs (hK _ ⟨hbz, hbox⟩)
  case htheta =>
    intro f g w h hT
    exact hT
  case hend =>
    intro vals8 w8 hT8 hF
    obtain ⟨hb8, hx8⟩ := hT8
    simp only [fillA, fillL, List.contains_cons, List.contains_nil, Nat.reduceBEq, Bool.or_false, Bool.false_or, Bool.or_true, Bool.true_or, cond_true, cond_false, Nat.zero_add, Nat.reduceAdd]
    have B8 := Lib.hid hx8
    have hbel : Below w0.heap.size w0 w8 := H7.out.trans (hb8.mono (Nat.le_of_lt HBS.out.1))
    have H8 := Lib.hid hbel
    have L8 : Hid (Ints w8 w8.heap.size A5 (runV T inp)) := Lib.hid ((L7.out.below hb8).more (by have := hb8.size; have := hx8.le; have := (Array.getElem?_eq_some_iff.1 hx8.row).1; omega))
    have HS8 : Hid (IsD w8 ⟨some ⟨gP, 0, none⟩, np, c1, A2, ne, c2, A3, nf, c3, A4, nr, c4⟩ (conT T x arg)) := Lib.hid (hx8.isD (conT_few HFEW.out) (HTW.out _ hbel))
    have t0 := cell_of_row w8 g 0 _ _ _ hx8.row
    have t1 := cell_of_row w8 g 1 _ _ _ hx8.row
    have t2 := cell_of_row w8 g 2 _ _ _ hx8.row
    have t3 := cell_of_row w8 g 3 _ _ _ hx8.row
    have t4 := cell_of_row w8 g 4 _ _ _ hx8.row
    have t5 := cell_of_row w8 g 5 _ _ _ hx8.row
    simp at t0 t1 t2 t3 t4 t5
    have ep : (conT T x arg).period = T.period := rfl
    have eq : (conT T x arg).deadline = T.deadline := rfl
    rw [ep] at t0
    rw [eq] at t1
    clear hF hb8 hx8 hbel B7 L7 H7 ep eq
    go_wp2_with fail
    refine (own_d HS8.out).mono ?_
    rintro e w9 ⟨s9, rfl, hs9, b9⟩
    have B9 := Lib.hid (B8.out.below b9)
    have H9 := Lib.hid (H8.out.trans (b9.mono H8.out.size))
    have L9 := Lib.hid (L8.out.step b9)
    obtain ⟨A10, c10, w10, hr10, ho10, hb10⟩ := HLI.out w9 (HINP.out _ H9.out)
    have HS10 := Lib.hid (hs9.below hb10)
    have B10 := Lib.hid (B9.out.below hb10)
    have H10 := Lib.hid (H9.out.trans (hb10.mono H9.out.size))
    have L10 := Lib.hid (L9.out.step hb10)
    have HR10 := Lib.hid hr10
    have HO10 := Lib.hid ho10
    clear hs9 b9 hr10 ho10 hb10 t0 t1 t2 t3 t4 t5 B8 B9 H8 H9 L8 L9 HS8
    go_wp2_with (at_builtin; refine wpList_append_run rfl _ _ 30 _ _ rfl rfl rfl HR10.out ?_)
    refine (run_any w10 HS10.out (OwnI.ints HO10.out) HNI.out.1 HNI.out.2).mono ?_
    rintro e w11 ⟨⟨A9, k9, c9, rfl, hk9, hi9⟩, b11⟩
    have B11 := Lib.hid (B10.out.below b11)
    have H11 := Lib.hid (H10.out.trans (b11.mono H10.out.size))
    have L11 := Lib.hid (L10.out.step b11)
    have M11 := Lib.hid hi9
    have HK9 := Lib.hid hk9
    obtain ⟨ly, hly⟩ : ∃ ly, ly = lowX (conT T x arg) := ⟨_, rfl⟩
    rw [← hly]
    have HLY := Lib.hid hly
    clear hk9 hi9 b11 hly B10 H10 L10 HS10 HO10 HR10
    by_cases hlow : LowOk T
    · have h0 := lowX_zero.mpr hlow
      have HLO := Lib.hid hlow
      have HLC := Lib.hid (conT_low hlow HXL.out HAR.out)
      have hlx0 : lx = 0 := by rw [HLX.out]; exact h0
      have hly0 : ly = 0 := by rw [HLY.out]; exact lowX_zero.mpr HLC.out
      have hk5n : np = k5 := by rw [← HK5.out, ← HPL.out]; exact (run_fixed hlow inp).1.symm
      have hk9n : np = k9 := by rw [← HK9.out, ← HPL.out, ← conT_len (T := T) (x := x) (arg := arg)]; exact (run_fixed HLC.out inp).1.symm
      subst hlx0 hly0 hk5n hk9n
      have t0 := cell_of_row w11 g 0 _ _ _ B11.out.row
      have t1 := cell_of_row w11 g 1 _ _ _ B11.out.row
      have t2 := cell_of_row w11 g 2 _ _ _ B11.out.row
      have t3 := cell_of_row w11 g 3 _ _ _ B11.out.row
      have t4 := cell_of_row w11 g 4 _ _ _ B11.out.row
      have t5 := cell_of_row w11 g 5 _ _ _ B11.out.row
      simp at t0 t1 t2 t3 t4 t5
      have ep : (conT T x arg).period = T.period := rfl
      have eq : (conT T x arg).deadline = T.deadline := rfl
      rw [ep] at t0
      rw [eq] at t1
      have HS11 : Hid (IsD w11 ⟨some ⟨gP, 0, none⟩, np, c1, A2, ne, c2, A3, nf, c3, A4, nr, c4⟩ (conT T x arg)) := Lib.hid (B11.out.isD (conT_few HFEW.out) (HTW.out _ H11.out))
      obtain ⟨n, hn⟩ : ∃ n, (lowWv (conT T x arg)).length = n := ⟨_, rfl⟩
      obtain ⟨m, hm⟩ : ∃ m, (lowEv (conT T x arg)).length = m := ⟨_, rfl⟩
      obtain ⟨k, hk⟩ : ∃ k, (lowPv (conT T x arg)).length = k := ⟨_, rfl⟩
      have CLW := Lib.hid (lower_sz hn hm hk HS11.out)
      rw [lowX_zero.mpr HLC.out] at CLW
      clear h0 hlow ep eq hn hm hk
      go_wp2_with fail
      refine CLW.out.mono ?_
      rintro e w12 ⟨A, c, F, d, R', z, rfl, hl12, b12⟩
      have H12 := Lib.hid (H11.out.trans (b12.mono H11.out.size))
      have L12 := Lib.hid (L11.out.step b12)
      have M12 := Lib.hid (M11.out.step b12)
      have LL := Lib.hid hl12
      clear hl12 b12 t0 t1 t2 t3 t4 t5 B11 CLW HS11
      go_wp2
      obtain ⟨w13, hw13⟩ : ∃ w13, w13 = w12.alloc (.cells #[.slice A n c, .slice F m d, .slice R' k z] 35) := ⟨_, rfl⟩
      rw [← hw13]
      obtain ⟨gl, hgl⟩ : ∃ gl, gl = w12.heap.size := ⟨_, rfl⟩
      rw [← hgl]
      have hb13 := below_alloc (w := w12) (.cells #[.slice A n c, .slice F m d, .slice R' k z] 35)
      have hn13 := heap_alloc_new w12 (.cells #[.slice A n c, .slice F m d, .slice R' k z] 35)
      rw [← hw13] at hb13 hn13
      rw [← hgl] at hn13
      obtain ⟨b5, o5, y5, e5, _, _, _⟩ := L12.out.at_ (k := x) (by rw [HK5.out]; exact hxn)
      obtain ⟨b9, o9, y9, e9, _, _, _⟩ := M12.out.at_ (k := x) (by rw [HK9.out]; exact hxn)
      subst e5 e9
      obtain ⟨e, rfl⟩ : ∃ e, e = z := ⟨_, rfl⟩
      have HB0 : Hid (BxRr w0 gl A n c F m d R' k e (lowWv (conT T x arg)) (lowEv (conT T x arg)) (lowPv (conT T x arg)) (some ⟨b5, o5, none⟩) (runV T inp) (some ⟨b9, o9, none⟩) (runV (conT T x arg) inp) w13) := Lib.hid ⟨H12.out.trans (hb13.mono H12.out.size), hn13, LL.out.below hb13, L12.out.step hb13, M12.out.step hb13⟩
      clear hw13 hgl hb13 hn13 H11 H12 L11 L12 M11 M12 LL
      go_loopw [16] (fun i wr => ∃ j : Nat, j ≤ np ∧ i = .int .i64 j ∧ Hid (BxRr w0 gl A n c F m d R' k e (lowWv (conT T x arg)) (lowEv (conT T x arg)) (lowPv (conT T x arg)) (some ⟨b5, o5, none⟩) (runV T inp) (some ⟨b9, o9, none⟩) (runV (conT T x arg) inp) wr)) (fun i _ => np - (intOf i).toNat)
      case atStart => exact ⟨0, Nat.zero_le _, rfl, HB0⟩
      case round =>
        obtain ⟨i, hi, rfl, HB⟩ := hrel
        clear HB0
        by_cases hin : i < np
        · have HIT : Hid (i < T.parts.length) := Lib.hid (by rw [HPL.out]; exact hin)
          by_cases hne : i = x
          · have HNE : Hid (((i : Int) != (x : Int)) = false) := Lib.hid (by rw [hne]; simp)
            clear hne
            obtain ⟨lx, li, av, bv, _⟩ : ∃ lx li av bv : Int, lx = 0 ∧ li = 0 ∧ av = 0 ∧ bv = 0 := ⟨0, 0, 0, 0, rfl, rfl, rfl, rfl⟩
            go_wp2_with fail
            refine wp_region_facts' [100, 101, 102, 103, 104, 105, 106, 107, 108, 109, 110, 111, 112, 113, 114, 115, 116, 117, 118, 119, 120, 121, 122, 123, 124, 125] [true, true, true, true, false, false, false, false, false, false, false, false, false, false, true, true, false, false, false, false, false, false, false, false, false, true] [(3, false), (15, false)] (by kernel_rfl) (by kernel_rfl) (by kernel_rfl) (by intro d hd; simp at hd ⊢; omega) (BxRr w0 gl A n c F m d R' k e (lowWv (conT T x arg)) (lowEv (conT T x arg)) (lowPv (conT T x arg)) (some ⟨b5, o5, none⟩) (runV T inp) (some ⟨b9, o9, none⟩) (runV (conT T x arg) inp)) (PhiRb0 gl A n c F m d R' k e b5 o5 b9 o9 np c5 c9 x i lx li av bv)
              (fun x y h hb => h.next hb) (phiRb0_below gl A n c F m d R' k e b5 o5 b9 o9 np c5 c9 x i lx li av bv) (HB.out.next (Below.refl _ _).drew) (fun p hp v w hv => by
                simp only [List.mem_cons, List.not_mem_nil, or_false] at hp
                rcases hp with rfl | rfl <;> exact hv) (fun kq hkq w => by
                have hlt : kq < 26 := by
                  apply Classical.byContradiction
                  intro h
                  rw [List.getD_eq_getElem?_getD, List.getElem?_eq_none (by simp; omega)] at hkq
                  simp at hkq
                match kq, hlt, hkq with
                | 0, _, h => exact absurd h (by decide)
                | 1, _, h => exact absurd h (by decide)
                | 2, _, h => exact absurd h (by decide)
                | 3, _, h => exact absurd h (by decide)
                | 4, _, _ => exact trivial
                | 5, _, _ => exact trivial
                | 6, _, _ => exact trivial
                | 7, _, _ => exact trivial
                | 8, _, _ => exact trivial
                | 9, _, _ => exact trivial
                | 10, _, _ => exact trivial
                | 11, _, _ => exact trivial
                | 12, _, _ => exact trivial
                | 13, _, _ => exact trivial
                | 14, _, h => exact absurd h (by decide)
                | 15, _, h => exact absurd h (by decide)
                | 16, _, _ => exact trivial
                | 17, _, _ => exact trivial
                | 18, _, _ => exact trivial
                | 19, _, _ => exact trivial
                | 20, _, _ => exact trivial
                | 21, _, _ => exact trivial
                | 22, _, _ => exact trivial
                | 23, _, _ => exact trivial
                | 24, _, _ => exact trivial
                | 25, _, h => exact absurd h (by decide)
                | kq + 26, h, _ => omega) ?hstep ?hend
            case hstep =>
              intro kq o ho hw a w hI hA hd K hK
              obtain ⟨ρ, hρ⟩ : ∃ ρ, a.eval = ρ := ⟨_, rfl⟩
              rw [hρ] at hA hd
              match kq, ho with
              | 0, ho =>
                have hoo := Option.some.inj ho
                subst hoo
                exact fx_val hK hρ (.int .i64 (i : Int)) (by have h := hA.tmp 16 (by decide); simp [execOp, h, go_sem]) rfl
              | 1, ho =>
                have hoo := Option.some.inj ho
                subst hoo
                exact fx_val hK hρ (.int .i64 (x : Int)) (by have h := hA.tmp 2 (by decide); simp [execOp, h, go_sem]) rfl
              | 2, ho =>
                have hoo := Option.some.inj ho
                subst hoo
                have f0 : (ρ (.tmp 100)) = .int .i64 (i : Int) := hd ⟨0, .data⟩ (by simp) (by rfl)
                have f1 : (ρ (.tmp 101)) = .int .i64 (x : Int) := hd ⟨1, .data⟩ (by simp) (by rfl)
                exact fx_val hK hρ (.bool false) (by simp [execOp, f0, f1, HNE.out, hA.const, go_sem]) rfl
              | 3, ho =>
                have hoo := Option.some.inj ho
                subst hoo
                have f2 : (ρ (.tmp 102)) = .bool false := hd ⟨2, .data⟩ (by simp) (by rfl)
                exact fx_val hK hρ (.bool false) (by simp [execOp, f2, hA.const, go_sem]) rfl
              | 4, ho =>
                exact absurd hw (by decide)
              | 5, ho =>
                exact absurd hw (by decide)
              | 6, ho =>
                exact absurd hw (by decide)
              | 7, ho =>
                exact absurd hw (by decide)
              | 8, ho =>
                exact absurd hw (by decide)
              | 9, ho =>
                exact absurd hw (by decide)
              | 10, ho =>
                exact absurd hw (by decide)
              | 11, ho =>
                exact absurd hw (by decide)
              | 12, ho =>
                exact absurd hw (by decide)
              | 13, ho =>
                exact absurd hw (by decide)
              | 14, ho =>
                have hoo := Option.some.inj ho
                subst hoo
                have f3 : (ρ (.tmp 103)) = .bool false := hd ⟨3, .data⟩ (by simp) (by rfl)
                exact fx_val hK hρ (.bool false) (by simp [execOp, f3, hA.const, hA.const, go_sem]) rfl
              | 15, ho =>
                have hoo := Option.some.inj ho
                subst hoo
                have f14 : (ρ (.tmp 114)) = .bool false := hd ⟨14, .data⟩ (by simp) (by rfl)
                exact fx_val hK hρ (.bool false) (by simp [execOp, f14, hA.const, go_sem]) rfl
              | 16, ho =>
                exact absurd hw (by decide)
              | 17, ho =>
                exact absurd hw (by decide)
              | 18, ho =>
                exact absurd hw (by decide)
              | 19, ho =>
                exact absurd hw (by decide)
              | 20, ho =>
                exact absurd hw (by decide)
              | 21, ho =>
                exact absurd hw (by decide)
              | 22, ho =>
                exact absurd hw (by decide)
              | 23, ho =>
                exact absurd hw (by decide)
              | 24, ho =>
                exact absurd hw (by decide)
              | 25, ho =>
                have hoo := Option.some.inj ho
                subst hoo
                have f15 : (ρ (.tmp 115)) = .bool false := hd ⟨15, .data⟩ (by simp) (by rfl)
                exact fx_val hK hρ (.bool false) (by simp [execOp, f15, hA.const, hA.const, go_sem]) rfl
              | kq + 26, ho => simp at ho
            case hend =>
              intro vals14 w14 hI hF
              have fz : vals14 125 = .bool false := hF 25 (by decide)
              simp only [fillA, fillL, List.contains_cons, List.contains_nil, Nat.reduceBEq, Bool.or_false, Bool.false_or, Bool.or_true, Bool.true_or, cond_true, cond_false, Nat.zero_add, Nat.reduceAdd]
              rw [fz]
              have HJ := Lib.hid hI
              clear hF hI fz HB
              go_wp2
              go_roundw
              case rel => exact ⟨i + 1, by omega, by go_num, HJ⟩
              case measure => simp [intOf]; omega
          · have HNE : Hid (((i : Int) != (x : Int)) = true) := Lib.hid (bne_iff_ne.mpr (fun h => hne (Int.ofNat_inj.mp h)))
            obtain ⟨lx, hlx⟩ : ∃ z, lastV (lowPv (conT T x arg)) (x : Int) = z := ⟨_, rfl⟩
            obtain ⟨li, hli⟩ : ∃ z, lastV (lowPv (conT T x arg)) (i : Int) = z := ⟨_, rfl⟩
            have CLX := Lib.hid (fun W (h : IsL W A n c F m d R' k e (lowWv (conT T x arg)) (lowEv (conT T x arg)) (lowPv (conT T x arg))) => lastL_any W (x : Int) (by omega) (by omega) h)
            have CLI := Lib.hid (fun W (h : IsL W A n c F m d R' k e (lowWv (conT T x arg)) (lowEv (conT T x arg)) (lowPv (conT T x arg))) => lastL_any W (i : Int) (by omega) (by omega) h)
            have CBE := Lib.hid (fun W (h : IsL W A n c F m d R' k e (lowWv (conT T x arg)) (lowEv (conT T x arg)) (lowPv (conT T x arg))) => before_done W lx li h.g)
            rw [hlx] at CLX
            rw [hli] at CLI
            obtain ⟨av, hav⟩ : ∃ z, (runV T inp)[i]? = some z := ⟨_, List.getElem?_eq_getElem (by rw [HK5.out]; exact hin)⟩
            obtain ⟨bv, hbv⟩ : ∃ z, (runV (conT T x arg) inp)[i]? = some z := ⟨_, List.getElem?_eq_getElem (by rw [HK9.out]; exact hin)⟩
            cases hbf : beforeV (lowWv (conT T x arg)) (lowEv (conT T x arg)) lx li with
            | true =>
              rw [hbf] at CBE
              clear hlx hli hbf hav hbv hne
              go_wp2_with fail
              refine wp_region_facts' [100, 101, 102, 103, 104, 105, 106, 107, 108, 109, 110, 111, 112, 113, 114, 115, 116, 117, 118, 119, 120, 121, 122, 123, 124, 125] [true, true, true, true, true, true, true, true, true, true, true, true, true, true, true, true, false, false, false, false, false, false, false, false, false, true] [(3, true), (15, false)] (by kernel_rfl) (by kernel_rfl) (by kernel_rfl) (by intro d hd; simp at hd ⊢; omega) (BxRr w0 gl A n c F m d R' k e (lowWv (conT T x arg)) (lowEv (conT T x arg)) (lowPv (conT T x arg)) (some ⟨b5, o5, none⟩) (runV T inp) (some ⟨b9, o9, none⟩) (runV (conT T x arg) inp)) (PhiRb1 gl A n c F m d R' k e b5 o5 b9 o9 np c5 c9 x i lx li av bv)
                (fun x y h hb => h.next hb) (phiRb1_below gl A n c F m d R' k e b5 o5 b9 o9 np c5 c9 x i lx li av bv) (HB.out.next (Below.refl _ _).drew) (fun p hp v w hv => by
                  simp only [List.mem_cons, List.not_mem_nil, or_false] at hp
                  rcases hp with rfl | rfl <;> exact hv) (fun kq hkq w => by
                  have hlt : kq < 26 := by
                    apply Classical.byContradiction
                    intro h
                    rw [List.getD_eq_getElem?_getD, List.getElem?_eq_none (by simp; omega)] at hkq
                    simp at hkq
                  match kq, hlt, hkq with
                  | 0, _, h => exact absurd h (by decide)
                  | 1, _, h => exact absurd h (by decide)
                  | 2, _, h => exact absurd h (by decide)
                  | 3, _, h => exact absurd h (by decide)
                  | 4, _, h => exact absurd h (by decide)
                  | 5, _, h => exact absurd h (by decide)
                  | 6, _, h => exact absurd h (by decide)
                  | 7, _, h => exact absurd h (by decide)
                  | 8, _, h => exact absurd h (by decide)
                  | 9, _, h => exact absurd h (by decide)
                  | 10, _, h => exact absurd h (by decide)
                  | 11, _, h => exact absurd h (by decide)
                  | 12, _, h => exact absurd h (by decide)
                  | 13, _, h => exact absurd h (by decide)
                  | 14, _, h => exact absurd h (by decide)
                  | 15, _, h => exact absurd h (by decide)
                  | 16, _, _ => exact trivial
                  | 17, _, _ => exact trivial
                  | 18, _, _ => exact trivial
                  | 19, _, _ => exact trivial
                  | 20, _, _ => exact trivial
                  | 21, _, _ => exact trivial
                  | 22, _, _ => exact trivial
                  | 23, _, _ => exact trivial
                  | 24, _, _ => exact trivial
                  | 25, _, h => exact absurd h (by decide)
                  | kq + 26, h, _ => omega) ?hstep ?hend
              case hstep =>
                intro kq o ho hw a w hI hA hd K hK
                obtain ⟨ρ, hρ⟩ : ∃ ρ, a.eval = ρ := ⟨_, rfl⟩
                rw [hρ] at hA hd
                match kq, ho with
                | 0, ho =>
                  have hoo := Option.some.inj ho
                  subst hoo
                  exact fx_val hK hρ (.int .i64 (i : Int)) (by have h := hA.tmp 16 (by decide); simp [execOp, h, go_sem]) rfl
                | 1, ho =>
                  have hoo := Option.some.inj ho
                  subst hoo
                  exact fx_val hK hρ (.int .i64 (x : Int)) (by have h := hA.tmp 2 (by decide); simp [execOp, h, go_sem]) rfl
                | 2, ho =>
                  have hoo := Option.some.inj ho
                  subst hoo
                  have f0 : (ρ (.tmp 100)) = .int .i64 (i : Int) := hd ⟨0, .data⟩ (by simp) (by rfl)
                  have f1 : (ρ (.tmp 101)) = .int .i64 (x : Int) := hd ⟨1, .data⟩ (by simp) (by rfl)
                  exact fx_val hK hρ (.bool true) (by simp [execOp, f0, f1, HNE.out, hA.const, go_sem]) rfl
                | 3, ho =>
                  have hoo := Option.some.inj ho
                  subst hoo
                  have f2 : (ρ (.tmp 102)) = .bool true := hd ⟨2, .data⟩ (by simp) (by rfl)
                  exact fx_val hK hρ (.bool true) (by simp [execOp, f2, hA.const, go_sem]) rfl
                | 4, ho =>
                  have hoo := Option.some.inj ho
                  subst hoo
                  exact fx_val hK hρ _ (by have h := hA.tmp 14 (by decide); simp [execOp, h, go_sem]) rfl
                | 5, ho =>
                  have hoo := Option.some.inj ho
                  subst hoo
                  have f4 : (ρ (.tmp 104)) = .pointer (some ⟨gl, 0, none⟩) := hd ⟨4, .data⟩ (by simp) (by rfl)
                  exact fx_val hK hρ _ (by have h0 := hI.c0; have h1 := hI.c1; simp [execOp, f4, h0, h1, go_sem]) rfl
                | 6, ho =>
                  have hoo := Option.some.inj ho
                  subst hoo
                  exact fx_val hK hρ _ (by have h := hA.tmp 14 (by decide); have h0 := hI.c0; have h1 := hI.c1; have h2 := hI.c2; simp [execOp, h, h0, h1, h2, go_sem]) rfl
                | 7, ho =>
                  have hoo := Option.some.inj ho
                  subst hoo
                  exact fx_val hK hρ (.int .i64 (x : Int)) (by have h := hA.tmp 2 (by decide); simp [execOp, h, go_sem]) rfl
                | 8, ho =>
                  have hoo := Option.some.inj ho
                  subst hoo
                  have f6 : (ρ (.tmp 106)) = .agg #[.slice A n c, .slice F m d, .slice R' k e] := hd ⟨6, .data⟩ (by simp) (by rfl)
                  have f7 : (ρ (.tmp 107)) = .int .i64 (x : Int) := hd ⟨7, .data⟩ (by simp) (by rfl)
                  exact fx_call hK hρ 32 _ _ #[.agg #[.slice A n c, .slice F m d, .slice R' k e], .int .i64 (x : Int)] rfl (by simp only [List.map_toArray, List.map_cons, List.map_nil, hA.const, f6, f7]) (eg_of Tryz.func32 (by kernel_rfl) rfl) ((CLX.out _ hI.l).mono fun e w' ⟨he, hb⟩ => ⟨_, he, rfl, hb⟩)
                | 9, ho =>
                  have hoo := Option.some.inj ho
                  subst hoo
                  exact fx_val hK hρ _ (by have h := hA.tmp 14 (by decide); have h0 := hI.c0; have h1 := hI.c1; have h2 := hI.c2; simp [execOp, h, h0, h1, h2, go_sem]) rfl
                | 10, ho =>
                  have hoo := Option.some.inj ho
                  subst hoo
                  exact fx_val hK hρ (.int .i64 (i : Int)) (by have h := hA.tmp 16 (by decide); simp [execOp, h, go_sem]) rfl
                | 11, ho =>
                  have hoo := Option.some.inj ho
                  subst hoo
                  have f9 : (ρ (.tmp 109)) = .agg #[.slice A n c, .slice F m d, .slice R' k e] := hd ⟨9, .data⟩ (by simp) (by rfl)
                  have f10 : (ρ (.tmp 110)) = .int .i64 (i : Int) := hd ⟨10, .data⟩ (by simp) (by rfl)
                  exact fx_call hK hρ 32 _ _ #[.agg #[.slice A n c, .slice F m d, .slice R' k e], .int .i64 (i : Int)] rfl (by simp only [List.map_toArray, List.map_cons, List.map_nil, hA.const, f9, f10]) (eg_of Tryz.func32 (by kernel_rfl) rfl) ((CLI.out _ hI.l).mono fun e w' ⟨he, hb⟩ => ⟨_, he, rfl, hb⟩)
                | 12, ho =>
                  have hoo := Option.some.inj ho
                  subst hoo
                  have f5 : (ρ (.tmp 105)) = .agg #[.slice A n c, .slice F m d] := hd ⟨5, .data⟩ (by simp) (by rfl)
                  have f8 : (ρ (.tmp 108)) = .int .i64 lx := hd ⟨8, .data⟩ (by simp) (by rfl)
                  have f11 : (ρ (.tmp 111)) = .int .i64 li := hd ⟨11, .data⟩ (by simp) (by rfl)
                  exact fx_call hK hρ 31 _ _ #[.agg #[.slice A n c, .slice F m d], .int .i64 lx, .int .i64 li] rfl (by simp only [List.map_toArray, List.map_cons, List.map_nil, hA.const, f5, f8, f11]) (eg_of Tryz.func31 (by kernel_rfl) rfl) ((CBE.out _ hI.l).mono fun e w' ⟨he, hb⟩ => ⟨_, he, rfl, hb⟩)
                | 13, ho =>
                  have hoo := Option.some.inj ho
                  subst hoo
                  have f12 : (ρ (.tmp 112)) = .bool true := hd ⟨12, .data⟩ (by simp) (by rfl)
                  exact fx_val hK hρ (.bool false) (by simp [execOp, f12, hA.const, go_sem]) rfl
                | 14, ho =>
                  have hoo := Option.some.inj ho
                  subst hoo
                  have f3 : (ρ (.tmp 103)) = .bool true := hd ⟨3, .data⟩ (by simp) (by rfl)
                  have f13 : (ρ (.tmp 113)) = .bool false := hd ⟨13, .data⟩ (by simp) (by rfl)
                  exact fx_val hK hρ (.bool false) (by simp [execOp, f3, f13, hA.const, hA.const, go_sem]) rfl
                | 15, ho =>
                  have hoo := Option.some.inj ho
                  subst hoo
                  have f14 : (ρ (.tmp 114)) = .bool false := hd ⟨14, .data⟩ (by simp) (by rfl)
                  exact fx_val hK hρ (.bool false) (by simp [execOp, f14, hA.const, go_sem]) rfl
                | 16, ho =>
                  exact absurd hw (by decide)
                | 17, ho =>
                  exact absurd hw (by decide)
                | 18, ho =>
                  exact absurd hw (by decide)
                | 19, ho =>
                  exact absurd hw (by decide)
                | 20, ho =>
                  exact absurd hw (by decide)
                | 21, ho =>
                  exact absurd hw (by decide)
                | 22, ho =>
                  exact absurd hw (by decide)
                | 23, ho =>
                  exact absurd hw (by decide)
                | 24, ho =>
                  exact absurd hw (by decide)
                | 25, ho =>
                  have hoo := Option.some.inj ho
                  subst hoo
                  have f15 : (ρ (.tmp 115)) = .bool false := hd ⟨15, .data⟩ (by simp) (by rfl)
                  exact fx_val hK hρ (.bool false) (by simp [execOp, f15, hA.const, hA.const, go_sem]) rfl
                | kq + 26, ho => simp at ho
              case hend =>
                intro vals14 w14 hI hF
                have fz : vals14 125 = .bool false := hF 25 (by decide)
                simp only [fillA, fillL, List.contains_cons, List.contains_nil, Nat.reduceBEq, Bool.or_false, Bool.false_or, Bool.or_true, Bool.true_or, cond_true, cond_false, Nat.zero_add, Nat.reduceAdd]
                rw [fz]
                have HJ := Lib.hid hI
                clear hF hI fz HB CLX CLI CBE
                go_wp2
                go_roundw
                case rel => exact ⟨i + 1, by omega, by go_num, HJ⟩
                case measure => simp [intOf]; omega
            | false =>
              rw [hbf] at CBE
              have HAV : Hid ((runV T inp)[i]? = some av ∧ (runV (conT T x arg) inp)[i]? = some bv ∧ (av != bv) = false) := Lib.hid ⟨hav, hbv, by
                have h1 := reach_law (inp := inp) HLO.out HXL.out HAR.out HIT.out hne (by rw [hlx, hli]; exact hbf)
                rw [List.getD_eq_getElem?_getD, List.getD_eq_getElem?_getD, hav, hbv] at h1
                have h2 : av = bv := h1
                rw [h2]
                simp⟩
              clear hlx hli hbf hav hbv hne
              go_wp2_with fail
              refine wp_region_facts' [100, 101, 102, 103, 104, 105, 106, 107, 108, 109, 110, 111, 112, 113, 114, 115, 116, 117, 118, 119, 120, 121, 122, 123, 124, 125] [] [(3, true), (15, true)] (by kernel_rfl) (by kernel_rfl) (by kernel_rfl) (by intro d hd; simp at hd ⊢; omega) (BxRr w0 gl A n c F m d R' k e (lowWv (conT T x arg)) (lowEv (conT T x arg)) (lowPv (conT T x arg)) (some ⟨b5, o5, none⟩) (runV T inp) (some ⟨b9, o9, none⟩) (runV (conT T x arg) inp)) (PhiRb2 gl A n c F m d R' k e b5 o5 b9 o9 np c5 c9 x i lx li av bv)
                (fun x y h hb => h.next hb) (phiRb2_below gl A n c F m d R' k e b5 o5 b9 o9 np c5 c9 x i lx li av bv) (HB.out.next (Below.refl _ _).drew) (fun p hp v w hv => by
                  simp only [List.mem_cons, List.not_mem_nil, or_false] at hp
                  rcases hp with rfl | rfl <;> exact hv) (fun kq hkq => by simp at hkq) ?hstep ?hend
              case hstep =>
                intro kq o ho hw a w hI hA hd K hK
                obtain ⟨ρ, hρ⟩ : ∃ ρ, a.eval = ρ := ⟨_, rfl⟩
                rw [hρ] at hA hd
                match kq, ho with
                | 0, ho =>
                  have hoo := Option.some.inj ho
                  subst hoo
                  exact fx_val hK hρ (.int .i64 (i : Int)) (by have h := hA.tmp 16 (by decide); simp [execOp, h, go_sem]) rfl
                | 1, ho =>
                  have hoo := Option.some.inj ho
                  subst hoo
                  exact fx_val hK hρ (.int .i64 (x : Int)) (by have h := hA.tmp 2 (by decide); simp [execOp, h, go_sem]) rfl
                | 2, ho =>
                  have hoo := Option.some.inj ho
                  subst hoo
                  have f0 : (ρ (.tmp 100)) = .int .i64 (i : Int) := hd ⟨0, .data⟩ (by simp) (by rfl)
                  have f1 : (ρ (.tmp 101)) = .int .i64 (x : Int) := hd ⟨1, .data⟩ (by simp) (by rfl)
                  exact fx_val hK hρ (.bool true) (by simp [execOp, f0, f1, HNE.out, hA.const, go_sem]) rfl
                | 3, ho =>
                  have hoo := Option.some.inj ho
                  subst hoo
                  have f2 : (ρ (.tmp 102)) = .bool true := hd ⟨2, .data⟩ (by simp) (by rfl)
                  exact fx_val hK hρ (.bool true) (by simp [execOp, f2, hA.const, go_sem]) rfl
                | 4, ho =>
                  have hoo := Option.some.inj ho
                  subst hoo
                  exact fx_val hK hρ _ (by have h := hA.tmp 14 (by decide); simp [execOp, h, go_sem]) rfl
                | 5, ho =>
                  have hoo := Option.some.inj ho
                  subst hoo
                  have f4 : (ρ (.tmp 104)) = .pointer (some ⟨gl, 0, none⟩) := hd ⟨4, .data⟩ (by simp) (by rfl)
                  exact fx_val hK hρ _ (by have h0 := hI.c0; have h1 := hI.c1; simp [execOp, f4, h0, h1, go_sem]) rfl
                | 6, ho =>
                  have hoo := Option.some.inj ho
                  subst hoo
                  exact fx_val hK hρ _ (by have h := hA.tmp 14 (by decide); have h0 := hI.c0; have h1 := hI.c1; have h2 := hI.c2; simp [execOp, h, h0, h1, h2, go_sem]) rfl
                | 7, ho =>
                  have hoo := Option.some.inj ho
                  subst hoo
                  exact fx_val hK hρ (.int .i64 (x : Int)) (by have h := hA.tmp 2 (by decide); simp [execOp, h, go_sem]) rfl
                | 8, ho =>
                  have hoo := Option.some.inj ho
                  subst hoo
                  have f6 : (ρ (.tmp 106)) = .agg #[.slice A n c, .slice F m d, .slice R' k e] := hd ⟨6, .data⟩ (by simp) (by rfl)
                  have f7 : (ρ (.tmp 107)) = .int .i64 (x : Int) := hd ⟨7, .data⟩ (by simp) (by rfl)
                  exact fx_call hK hρ 32 _ _ #[.agg #[.slice A n c, .slice F m d, .slice R' k e], .int .i64 (x : Int)] rfl (by simp only [List.map_toArray, List.map_cons, List.map_nil, hA.const, f6, f7]) (eg_of Tryz.func32 (by kernel_rfl) rfl) ((CLX.out _ hI.l).mono fun e w' ⟨he, hb⟩ => ⟨_, he, rfl, hb⟩)
                | 9, ho =>
                  have hoo := Option.some.inj ho
                  subst hoo
                  exact fx_val hK hρ _ (by have h := hA.tmp 14 (by decide); have h0 := hI.c0; have h1 := hI.c1; have h2 := hI.c2; simp [execOp, h, h0, h1, h2, go_sem]) rfl
                | 10, ho =>
                  have hoo := Option.some.inj ho
                  subst hoo
                  exact fx_val hK hρ (.int .i64 (i : Int)) (by have h := hA.tmp 16 (by decide); simp [execOp, h, go_sem]) rfl
                | 11, ho =>
                  have hoo := Option.some.inj ho
                  subst hoo
                  have f9 : (ρ (.tmp 109)) = .agg #[.slice A n c, .slice F m d, .slice R' k e] := hd ⟨9, .data⟩ (by simp) (by rfl)
                  have f10 : (ρ (.tmp 110)) = .int .i64 (i : Int) := hd ⟨10, .data⟩ (by simp) (by rfl)
                  exact fx_call hK hρ 32 _ _ #[.agg #[.slice A n c, .slice F m d, .slice R' k e], .int .i64 (i : Int)] rfl (by simp only [List.map_toArray, List.map_cons, List.map_nil, hA.const, f9, f10]) (eg_of Tryz.func32 (by kernel_rfl) rfl) ((CLI.out _ hI.l).mono fun e w' ⟨he, hb⟩ => ⟨_, he, rfl, hb⟩)
                | 12, ho =>
                  have hoo := Option.some.inj ho
                  subst hoo
                  have f5 : (ρ (.tmp 105)) = .agg #[.slice A n c, .slice F m d] := hd ⟨5, .data⟩ (by simp) (by rfl)
                  have f8 : (ρ (.tmp 108)) = .int .i64 lx := hd ⟨8, .data⟩ (by simp) (by rfl)
                  have f11 : (ρ (.tmp 111)) = .int .i64 li := hd ⟨11, .data⟩ (by simp) (by rfl)
                  exact fx_call hK hρ 31 _ _ #[.agg #[.slice A n c, .slice F m d], .int .i64 lx, .int .i64 li] rfl (by simp only [List.map_toArray, List.map_cons, List.map_nil, hA.const, f5, f8, f11]) (eg_of Tryz.func31 (by kernel_rfl) rfl) ((CBE.out _ hI.l).mono fun e w' ⟨he, hb⟩ => ⟨_, he, rfl, hb⟩)
                | 13, ho =>
                  have hoo := Option.some.inj ho
                  subst hoo
                  have f12 : (ρ (.tmp 112)) = .bool false := hd ⟨12, .data⟩ (by simp) (by rfl)
                  exact fx_val hK hρ (.bool true) (by simp [execOp, f12, hA.const, go_sem]) rfl
                | 14, ho =>
                  have hoo := Option.some.inj ho
                  subst hoo
                  have f3 : (ρ (.tmp 103)) = .bool true := hd ⟨3, .data⟩ (by simp) (by rfl)
                  have f13 : (ρ (.tmp 113)) = .bool true := hd ⟨13, .data⟩ (by simp) (by rfl)
                  exact fx_val hK hρ (.bool true) (by simp [execOp, f3, f13, hA.const, hA.const, go_sem]) rfl
                | 15, ho =>
                  have hoo := Option.some.inj ho
                  subst hoo
                  have f14 : (ρ (.tmp 114)) = .bool true := hd ⟨14, .data⟩ (by simp) (by rfl)
                  exact fx_val hK hρ (.bool true) (by simp [execOp, f14, hA.const, go_sem]) rfl
                | 16, ho =>
                  have hoo := Option.some.inj ho
                  subst hoo
                  exact fx_val hK hρ (.slice (some ⟨b5, o5, none⟩) np c5) (by have h := hA.tmp 9 (by decide); simp [execOp, h, go_sem]) rfl
                | 17, ho =>
                  have hoo := Option.some.inj ho
                  subst hoo
                  exact fx_val hK hρ (.int .i64 (i : Int)) (by have h := hA.tmp 16 (by decide); simp [execOp, h, go_sem]) rfl
                | 18, ho =>
                  have hoo := Option.some.inj ho
                  subst hoo
                  have f16 : (ρ (.tmp 116)) = .slice (some ⟨b5, o5, none⟩) np c5 := hd ⟨16, .data⟩ (by simp) (by rfl)
                  have f17 : (ρ (.tmp 117)) = .int .i64 (i : Int) := hd ⟨17, .data⟩ (by simp) (by rfl)
                  exact fx_val hK hρ _ (idx_eq rfl f16 f17 hin) rfl
                | 19, ho =>
                  have hoo := Option.some.inj ho
                  subst hoo
                  have f18 : (ρ (.tmp 118)) = .pointer (some ⟨b5, o5 + i, none⟩) := hd ⟨18, .data⟩ (by simp) (by rfl)
                  exact fx_val hK hρ _ (by have h0 := ints_at9 hI.a HAV.out.1; simp [execOp, f18, h0, go_sem]) rfl
                | 20, ho =>
                  have hoo := Option.some.inj ho
                  subst hoo
                  exact fx_val hK hρ (.slice (some ⟨b9, o9, none⟩) np c9) (by have h := hA.tmp 12 (by decide); simp [execOp, h, go_sem]) rfl
                | 21, ho =>
                  have hoo := Option.some.inj ho
                  subst hoo
                  exact fx_val hK hρ (.int .i64 (i : Int)) (by have h := hA.tmp 16 (by decide); simp [execOp, h, go_sem]) rfl
                | 22, ho =>
                  have hoo := Option.some.inj ho
                  subst hoo
                  have f20 : (ρ (.tmp 120)) = .slice (some ⟨b9, o9, none⟩) np c9 := hd ⟨20, .data⟩ (by simp) (by rfl)
                  have f21 : (ρ (.tmp 121)) = .int .i64 (i : Int) := hd ⟨21, .data⟩ (by simp) (by rfl)
                  exact fx_val hK hρ _ (idx_eq rfl f20 f21 hin) rfl
                | 23, ho =>
                  have hoo := Option.some.inj ho
                  subst hoo
                  have f22 : (ρ (.tmp 122)) = .pointer (some ⟨b9, o9 + i, none⟩) := hd ⟨22, .data⟩ (by simp) (by rfl)
                  exact fx_val hK hρ _ (by have h0 := ints_at9 hI.b HAV.out.2.1; simp [execOp, f22, h0, go_sem]) rfl
                | 24, ho =>
                  have hoo := Option.some.inj ho
                  subst hoo
                  have f19 : (ρ (.tmp 119)) = .int .i64 av := hd ⟨19, .data⟩ (by simp) (by rfl)
                  have f23 : (ρ (.tmp 123)) = .int .i64 bv := hd ⟨23, .data⟩ (by simp) (by rfl)
                  exact fx_val hK hρ (.bool false) (by simp [execOp, f19, f23, HAV.out.2.2, hA.const, go_sem]) rfl
                | 25, ho =>
                  have hoo := Option.some.inj ho
                  subst hoo
                  have f15 : (ρ (.tmp 115)) = .bool true := hd ⟨15, .data⟩ (by simp) (by rfl)
                  have f24 : (ρ (.tmp 124)) = .bool false := hd ⟨24, .data⟩ (by simp) (by rfl)
                  exact fx_val hK hρ (.bool false) (by simp [execOp, f15, f24, hA.const, hA.const, go_sem]) rfl
                | kq + 26, ho => simp at ho
              case hend =>
                intro vals14 w14 hI hF
                have fz : vals14 125 = .bool false := hF 25 (by decide)
                simp only [fillA, fillL, List.contains_cons, List.contains_nil, Nat.reduceBEq, Bool.or_false, Bool.false_or, Bool.or_true, Bool.true_or, cond_true, cond_false, Nat.zero_add, Nat.reduceAdd]
                rw [fz]
                have HJ := Lib.hid hI
                clear hF hI fz HB CLX CLI CBE
                go_wp2
                go_roundw
                case rel => exact ⟨i + 1, by omega, by go_num, HJ⟩
                case measure => simp [intOf]; omega
        · obtain rfl : np = i := by omega
          have hbx : (runV (conT T x arg) inp)[x]? = some arg := by
            have h1 := reach_is HLO.out HXL.out HAR.out inp
            obtain ⟨z, hz⟩ : ∃ z, (runV (conT T x arg) inp)[x]? = some z := ⟨_, List.getElem?_eq_getElem (by rw [HK9.out]; exact hxn)⟩
            rw [List.getD_eq_getElem?_getD, hz] at h1
            have h2 : z = arg := h1
            rw [hz, h2]
          have d9 := ints_at9 HB.out.b hbx
          have HE := Lib.hid HB.out.bel
          clear hbx HB
          go_wp2
          go_ret
          exact ⟨rfl, HE.out⟩
    · have hx0 : lx ≠ 0 := by
        rw [HLX.out]
        exact fun e => hlow (lowX_zero.mp e)
      have hb : (lx != 0) = true := bne_iff_ne.mpr hx0
      have hk50 : k5 = 0 := by rw [← HK5.out, run_no hlow]; rfl
      subst hk50
      clear hlow hx0
      go_wp2
      go_ret
      exact ⟨rfl, H11.out⟩
theorem walk_EvalReach (w0 : World) (hd : InD w0 s T) (hi : InI w0 Ai ni ci inp) (part : Int) (hp : -9223372036854775808 ≤ part ∧ part ≤ 9223372036854775807) (arg : Int) (ha : -9223372036854775808 ≤ arg ∧ arg ≤ 9223372036854775807) (hT : DTab w0) : Calls Tryz.prog 8 #[s.arg T.period T.deadline, .slice Ai ni ci, .int .i64 part, .int .i64 arg] w0 fun z w' => z = .returned (.bool true) ∧ Below w0.heap.size w0 w' := by
  by_cases h1 : FewD T ∧ ni ≤ 60
  · by_cases h2 : part < 0
    · exact reach_off0 w0 part arg hd hT h1.1 h1.2 h2
    · by_cases h3 : (s.np : Int) ≤ part
      · exact reach_off1 w0 part arg hd hT h1.1 h1.2 ⟨by omega, h3⟩
      · by_cases h4 : arg < 0
        · exact reach_off2 w0 part arg hd hT h1.1 h1.2 ⟨⟨by omega, by omega⟩, h4⟩
        · by_cases h5 : 2147483647 < arg
          · exact reach_off3 w0 part arg hd hT h1.1 h1.2 ⟨⟨by omega, by omega⟩, h5⟩
          · obtain ⟨x, rfl⟩ : ∃ x : Nat, part = x := ⟨part.toNat, by omega⟩
            exact reach_in w0 x arg hd hi hT h1.1 h1.2 (by omega) ⟨by omega, by omega⟩
  · exact reach_many w0 part arg hd hT h1
end
end Go.Proofs.YtmelgolnmnebpaaGreatDoor
