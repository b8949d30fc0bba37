/- The law EvalSteps answers true for every task d, every list of ints, input, every two memories m and o, and every int node, and its arguments read afterwards as they read before. Conditions: math/bits.deBruijn32tab and deBruijn64tab hold what the program's text lays (the card ties this, to the pruned copy of the project that the seat holds); linux/amd64; each slice within the form's reach.
   The walk of EvalSteps in the seat YtkmajhbfmdoamaaGreatDoor (printed by eval/mk_steps.py). -/
import Derived.Test.YtkmajhbfmdoamaaGreatDoorZM33
import Derived.Test.YtkmajhbfmdoamaaGreatDoorZM34
import Derived.Test.YtkmajhbfmdoamaaGreatDoorZM39
import Derived.Test.YtkmajhbfmdoamaaGreatDoorZM36
import Derived.Test.YtkmajhbfmdoamaaGreatDoorZM26
set_option linter.unusedSimpArgs false
set_option linter.unusedVariables false
set_option linter.unusedSimpArgs false
namespace Go.Proofs.YtkmajhbfmdoamaaGreatDoor
open Go.RowKit

section
variable {s : Sh} {T : Task} {inp : List Int} {Ai : Option Addr} {ni ci : Nat} {A : Option Addr} {n c : Nat} {F : Option Addr} {m d : Nat} {D : List Bool} {V : List Int} {B : Option Addr} {p b : Nat} {G : Option Addr} {q g : Nat} {D2 : List Bool} {V2 : List Int}
/-- The boxes of a law over a task and two memories. -/
structure BxU8 (w : World) (s : Sh) (T : Task) (A : Option Addr) (n c : Nat) (F : Option Addr) (m d : Nat) (D : List Bool) (V : List Int) (B : Option Addr) (p b : Nat) (G : Option Addr) (q g : Nat) (D2 : List Bool) (V2 : List Int) (w' : World) : Prop where
  bv : BxV w s T A n c F m d D V w'
  lt : w.heap.size + 2 < w'.heap.size
  o0 : w'.cell? ⟨w.heap.size + 2, 0, none⟩ = some (.slice B p b)
  o1 : w'.cell? ⟨w.heap.size + 2, 1, none⟩ = some (.slice G q g)
  ol : InM w' B p b G q g D2 V2
theorem BxU8.next {w w1 w2 : World} (h : BxU8 w s T A n c F m d D V B p b G q g D2 V2 w1) (hb : Below w1.heap.size w1 w2) : BxU8 w s T A n c F m d D V B p b G q g D2 V2 w2 :=
  ⟨h.bv.next hb, Nat.lt_of_lt_of_le h.lt hb.size, (hb.cell h.lt).trans h.o0, (hb.cell h.lt).trans h.o1, h.ol.below hb⟩
theorem BxU8.start {w : World} (hd : IsT w w.heap.size s T) (hm : InM w A n c F m d D V) (ho : InM w B p b G q g D2 V2) : BxU8 w s T A n c F m d D V B p b G q g D2 V2 (((w.alloc (.cells #[.int .i64 T.period, .int .i64 T.deadline, .slice s.P s.np s.pc, .slice s.E s.ne s.ec, .slice s.F s.nf s.fc, .slice s.R s.nr s.rc] 27)).alloc (.cells #[.slice A n c, .slice F m d] 31)).alloc (.cells #[.slice B p b, .slice G q g] 31)) := by
  have h1 := BxV.start hd hm
  obtain ⟨w0, hw0⟩ : ∃ w0, w0 = (w.alloc (.cells #[.int .i64 T.period, .int .i64 T.deadline, .slice s.P s.np s.pc, .slice s.E s.ne s.ec, .slice s.F s.nf s.fc, .slice s.R s.nr s.rc] 27)).alloc (.cells #[.slice A n c, .slice F m d] 31) := ⟨_, rfl⟩
  rw [← hw0] at h1 ⊢
  have hs : w0.heap.size = w.heap.size + 2 := by rw [hw0]; simp
  have h2 := h1.next (below_alloc (w := w0) (.cells #[.slice B p b, .slice G q g] 31))
  refine ⟨h2, by simp [hs], ?_, ?_, ho.below h2.k.bel⟩ <;> (rw [World.cell?_alloc_at _ _ _ _ hs.symm]; rfl)
/-- .. and the two memories that Finish told. -/
structure BxY8 (w : World) (s : Sh) (T : Task) (A : Option Addr) (n c : Nat) (F : Option Addr) (m d : Nat) (D : List Bool) (V : List Int) (B : Option Addr) (p b : Nat) (G : Option Addr) (q g : Nat) (D2 : List Bool) (V2 : List Int) (gx : Nat) (X : Option Addr) (n3 c3 : Nat) (Y : Option Addr) (m3 d3 gy : Nat) (X' : Option Addr) (n4 c4 : Nat) (Y' : Option Addr) (m4 d4 : Nat) (D' : List Bool) (V' : List Int) (w' : World) : Prop where
  u : BxU8 w s T A n c F m d D V B p b G q g D2 V2 w'
  x : w'.heap[gx]? = some (.cells #[.slice X n3 c3, .slice Y m3 d3] 31 (0, 0))
  xm : IsM w' X n3 c3 Y m3 d3 D' V'
  y : w'.heap[gy]? = some (.cells #[.slice X' n4 c4, .slice Y' m4 d4] 31 (0, 0))
  ym : IsM w' X' n4 c4 Y' m4 d4 D' V'
section
variable  {gx : Nat} {X : Option Addr} {n3 c3 : Nat} {Y : Option Addr} {m3 d3 gy : Nat} {X' : Option Addr} {n4 c4 : Nat} {Y' : Option Addr} {m4 d4 : Nat} {D' : List Bool} {V' : List Int} {w w' w1 w2 : World}
theorem BxY8.next (h : BxY8 w s T A n c F m d D V B p b G q g D2 V2 gx X n3 c3 Y m3 d3 gy X' n4 c4 Y' m4 d4 D' V' w1) (hb : Below w1.heap.size w1 w2) : BxY8 w s T A n c F m d D V B p b G q g D2 V2 gx X n3 c3 Y m3 d3 gy X' n4 c4 Y' m4 d4 D' V' w2 :=
  ⟨h.u.next hb, by rw [hb.block _ (Array.getElem?_eq_some_iff.1 h.x).1]; exact h.x, h.xm.below hb, by rw [hb.block _ (Array.getElem?_eq_some_iff.1 h.y).1]; exact h.y, h.ym.below hb⟩
theorem BxY8.x0 (h : BxY8 w s T A n c F m d D V B p b G q g D2 V2 gx X n3 c3 Y m3 d3 gy X' n4 c4 Y' m4 d4 D' V' w') : w'.cell? ⟨gx, 0, none⟩ = some (.slice X n3 c3) := by rw [cell_of_row _ _ _ _ _ _ h.x]; rfl
theorem BxY8.x1 (h : BxY8 w s T A n c F m d D V B p b G q g D2 V2 gx X n3 c3 Y m3 d3 gy X' n4 c4 Y' m4 d4 D' V' w') : w'.cell? ⟨gx, 1, none⟩ = some (.slice Y m3 d3) := by rw [cell_of_row _ _ _ _ _ _ h.x]; rfl
theorem BxY8.y0 (h : BxY8 w s T A n c F m d D V B p b G q g D2 V2 gx X n3 c3 Y m3 d3 gy X' n4 c4 Y' m4 d4 D' V' w') : w'.cell? ⟨gy, 0, none⟩ = some (.slice X' n4 c4) := by rw [cell_of_row _ _ _ _ _ _ h.y]; rfl
theorem BxY8.y1 (h : BxY8 w s T A n c F m d D V B p b G q g D2 V2 gx X n3 c3 Y m3 d3 gy X' n4 c4 Y' m4 d4 D' V' w') : w'.cell? ⟨gy, 1, none⟩ = some (.slice Y' m4 d4) := by rw [cell_of_row _ _ _ _ _ _ h.y]; rfl
end
theorem rfin_at (w : World) (node : Int) (hD : IsD w s T) (hM : IsM w A n c F m d D V) (hI : Ints w w.heap.size Ai inp) (hi : inp.length = ni) (li : ni ≤ 1000) :
    Calls Tryz.prog 9 #[s.arg T.period T.deadline, .slice Ai ni ci, .agg #[.slice A n c, .slice F m d], .int .i64 node] w (GotFin T inp D V node w) := by
  obtain rfl := hM.hn
  obtain rfl := hM.hm
  exact rfinish8_any w node hD hM hI hi li
end

def PhiSa (P : Option Addr) (np pc : Nat) (E : Option Addr) (ne ec : Nat) (Fu : Option Addr) (nf fc : Nat) (R : Option Addr) (nr rc : Nat) (T : Task) (A : Option Addr) (n c : Nat) (F : Option Addr) (m d : Nat) (D : List Bool) (V : List Int) (B : Option Addr) (p b : Nat) (G : Option Addr) (q g : Nat) (D2 : List Bool) (V2 : List Int) (hbs : Nat) (Ai : Option Addr) (ni ci : Nat) (inp : List Int) (node fe : Int) (D' : List Bool) (V' : List Int) : Nat → Value → World → Prop
  | 0, v, w => v = (⟨P, np, pc, E, ne, ec, Fu, nf, fc, R, nr, rc⟩ : Sh).arg T.period T.deadline
  | 1, v, w => GDq T v w
  | 2, v, w => NewRow 3 w hbs v
  | 3, v, w => v = .slice Ai ni ci
  | 4, v, w => GLq ni inp v w
  | 5, v, w => v = .agg #[.slice A n c, .slice F m d]
  | 6, v, w => GMq n m D V v w
  | 7, v, w => v = .int .i64 node
  | 8, v, w => GFq D' V' fe v w
  | 9, v, w => GFq D' V' fe v w
  | 10, v, w => GXq D' V' v w
  | 11, v, w => v = .int .i64 fe
  | 12, v, w => GNq hbs v w
  | 13, v, w => True
  | 14, v, w => v = .int .i64 fe
  | _, _, _ => True
theorem phiSa_below (P : Option Addr) (np pc : Nat) (E : Option Addr) (ne ec : Nat) (Fu : Option Addr) (nf fc : Nat) (R : Option Addr) (nr rc : Nat) (T : Task) (A : Option Addr) (n c : Nat) (F : Option Addr) (m d : Nat) (D : List Bool) (V : List Int) (B : Option Addr) (p b : Nat) (G : Option Addr) (q g : Nat) (D2 : List Bool) (V2 : List Int) (hbs : Nat) (Ai : Option Addr) (ni ci : Nat) (inp : List Int) (node fe : Int) (D' : List Bool) (V' : List Int) : ∀ kq v w w', PhiSa P np pc E ne ec Fu nf fc R nr rc T A n c F m d D V B p b G q g D2 V2 hbs Ai ni ci inp node fe D' V' kq v w → Below w.heap.size w w' → PhiSa P np pc E ne ec Fu nf fc R nr rc T A n c F m d D V B p b G q g D2 V2 hbs Ai ni ci inp node fe D' V' kq v w' := by
  intro kq v w w' h hb
  match kq, h with
  | 0, h => exact h
  | 1, h => exact GDq.below h hb
  | 2, h => exact NewRow.below h hb
  | 3, h => exact h
  | 4, h => exact GLq.below h hb
  | 5, h => exact h
  | 6, h => exact GMq.below h hb
  | 7, h => exact h
  | 8, h => exact GFq.below h hb
  | 9, h => exact GFq.below h hb
  | 10, h => exact GXq.below h hb
  | 11, h => exact h
  | 12, h => exact GNq.below h hb
  | 13, h => exact h
  | 14, h => exact h
  | kq + 15, h => exact trivial
def PhiSb (P : Option Addr) (np pc : Nat) (E : Option Addr) (ne ec : Nat) (Fu : Option Addr) (nf fc : Nat) (R : Option Addr) (nr rc : Nat) (T : Task) (A : Option Addr) (n c : Nat) (F : Option Addr) (m d : Nat) (D : List Bool) (V : List Int) (B : Option Addr) (p b : Nat) (G : Option Addr) (q g : Nat) (D2 : List Bool) (V2 : List Int) (k : Nat) (zs : List Int) : Nat → Value → World → Prop
  | 0, v, w => v = (⟨P, np, pc, E, ne, ec, Fu, nf, fc, R, nr, rc⟩ : Sh).arg T.period T.deadline
  | 1, v, w => GDq T v w
  | 2, v, w => v = .agg #[.slice A n c, .slice F m d]
  | 3, v, w => GMq n m D V v w
  | 4, v, w => GLq k zs v w
  | 5, v, w => GLq k zs v w
  | _, _, _ => True
theorem phiSb_below (P : Option Addr) (np pc : Nat) (E : Option Addr) (ne ec : Nat) (Fu : Option Addr) (nf fc : Nat) (R : Option Addr) (nr rc : Nat) (T : Task) (A : Option Addr) (n c : Nat) (F : Option Addr) (m d : Nat) (D : List Bool) (V : List Int) (B : Option Addr) (p b : Nat) (G : Option Addr) (q g : Nat) (D2 : List Bool) (V2 : List Int) (k : Nat) (zs : List Int) : ∀ kq v w w', PhiSb P np pc E ne ec Fu nf fc R nr rc T A n c F m d D V B p b G q g D2 V2 k zs kq v w → Below w.heap.size w w' → PhiSb P np pc E ne ec Fu nf fc R nr rc T A n c F m d D V B p b G q g D2 V2 k zs kq v w' := by
  intro kq v w w' h hb
  match kq, h with
  | 0, h => exact h
  | 1, h => exact GDq.below h hb
  | 2, h => exact h
  | 3, h => exact GMq.below h hb
  | 4, h => exact GLq.below h hb
  | 5, h => exact GLq.below h hb
  | kq + 6, h => exact trivial
def PhiSc (P : Option Addr) (np pc : Nat) (E : Option Addr) (ne ec : Nat) (Fu : Option Addr) (nf fc : Nat) (R : Option Addr) (nr rc : Nat) (T : Task) (A : Option Addr) (n c : Nat) (F : Option Addr) (m d : Nat) (D : List Bool) (V : List Int) (B : Option Addr) (p b : Nat) (G : Option Addr) (q g : Nat) (D2 : List Bool) (V2 : List Int) (gx : Nat) (X : Option Addr) (n3 c3 : Nat) (Y : Option Addr) (m3 d3 gy : Nat) (X' : Option Addr) (n4 c4 : Nat) (Y' : Option Addr) (m4 d4 : Nat) (D' : List Bool) (V' : List Int) (fe r : Int) (sb : Bool) : Nat → Value → World → Prop
  | 0, v, w => v = .agg #[.slice X n3 c3, .slice Y m3 d3]
  | 1, v, w => v = .agg #[.slice X' n4 c4, .slice Y' m4 d4]
  | 2, v, w => v = .bool true
  | 3, v, w => v = .bool true
  | 4, v, w => v = .int .i64 fe
  | 5, v, w => v = .int .i64 fe
  | 6, v, w => v = .bool true
  | 7, v, w => v = .bool true
  | 8, v, w => v = .bool true
  | 9, v, w => v = (⟨P, np, pc, E, ne, ec, Fu, nf, fc, R, nr, rc⟩ : Sh).arg T.period T.deadline
  | 10, v, w => GDq T v w
  | 11, v, w => v = .agg #[.slice A n c, .slice F m d]
  | 12, v, w => GMq n m D V v w
  | 13, v, w => v = .int .i64 r
  | 14, v, w => v = .int .i64 r
  | 15, v, w => v = .bool true
  | 16, v, w => v = .bool true
  | 17, v, w => v = .bool true
  | 18, v, w => v = .agg #[.slice A n c, .slice F m d]
  | 19, v, w => GMq n m D V v w
  | 20, v, w => v = .agg #[.slice B p b, .slice G q g]
  | 21, v, w => GMq p q D2 V2 v w
  | 22, v, w => v = .bool sb
  | 23, v, w => v = .agg #[.slice A n c, .slice F m d]
  | 24, v, w => v = .agg #[.slice B p b, .slice G q g]
  | 25, v, w => v = .bool sb
  | 26, v, w => v = .bool true
  | 27, v, w => v = .bool true
  | 28, v, w => v = .bool true
  | _, _, _ => True
theorem phiSc_below (P : Option Addr) (np pc : Nat) (E : Option Addr) (ne ec : Nat) (Fu : Option Addr) (nf fc : Nat) (R : Option Addr) (nr rc : Nat) (T : Task) (A : Option Addr) (n c : Nat) (F : Option Addr) (m d : Nat) (D : List Bool) (V : List Int) (B : Option Addr) (p b : Nat) (G : Option Addr) (q g : Nat) (D2 : List Bool) (V2 : List Int) (gx : Nat) (X : Option Addr) (n3 c3 : Nat) (Y : Option Addr) (m3 d3 gy : Nat) (X' : Option Addr) (n4 c4 : Nat) (Y' : Option Addr) (m4 d4 : Nat) (D' : List Bool) (V' : List Int) (fe r : Int) (sb : Bool) : ∀ kq v w w', PhiSc P np pc E ne ec Fu nf fc R nr rc T A n c F m d D V B p b G q g D2 V2 gx X n3 c3 Y m3 d3 gy X' n4 c4 Y' m4 d4 D' V' fe r sb kq v w → Below w.heap.size w w' → PhiSc P np pc E ne ec Fu nf fc R nr rc T A n c F m d D V B p b G q g D2 V2 gx X n3 c3 Y m3 d3 gy X' n4 c4 Y' m4 d4 D' V' fe r sb kq v w' := by
  intro kq v w w' h hb
  match kq, h with
  | 0, h => exact h
  | 1, h => exact h
  | 2, h => exact h
  | 3, h => exact h
  | 4, h => exact h
  | 5, h => exact h
  | 6, h => exact h
  | 7, h => exact h
  | 8, h => exact h
  | 9, h => exact h
  | 10, h => exact GDq.below h hb
  | 11, h => exact h
  | 12, h => exact GMq.below h hb
  | 13, h => exact h
  | 14, h => exact h
  | 15, h => exact h
  | 16, h => exact h
  | 17, h => exact h
  | 18, h => exact h
  | 19, h => exact GMq.below h hb
  | 20, h => exact h
  | 21, h => exact GMq.below h hb
  | 22, h => exact h
  | 23, h => exact h
  | 24, h => exact h
  | 25, h => exact h
  | 26, h => exact h
  | 27, h => exact h
  | 28, h => exact h
  | kq + 29, h => exact trivial
section
variable {s : Sh} {T : Task} {inp : List Int} {Ai : Option Addr} {ni ci : Nat} {A : Option Addr} {n c : Nat} {F : Option Addr} {m d : Nat} {D : List Bool} {V : List Int} {B : Option Addr} {p b : Nat} {G : Option Addr} {q g : Nat} {D2 : List Bool} {V2 : List Int}
set_option maxRecDepth 100000 in
set_option maxHeartbeats 16000000 in
theorem steps_many1 (w0 : World) (node : Int) (hd : InD w0 s T) (hi : InI w0 Ai ni ci inp) (hm : InM w0 A n c F m d D V) (ho : InM w0 B p b G q g D2 V2) (hT : DTab w0) (h : ¬ (FewD T ∧ ni ≤ 60 ∧ n ≤ 70 ∧ m ≤ 70)) : Calls Tryz.prog 3 #[s.arg T.period T.deadline, .slice Ai ni ci, .agg #[.slice A n c, .slice F m d], .agg #[.slice B p b, .slice G q g], .int .i64 node] w0 fun z w' => z = .returned (.bool true) ∧ Below w0.heap.size w0 w' := by
  have HTW := Lib.hid (fun W (h : Below w0.heap.size w0 W) => DTab.via hT h)
  have B0 := Lib.hid (BxU8.start hd.t hm ho)
  have CF := Lib.hid (fun W (k : IsT W W.heap.size s T) => few8_any (s := s) (T := T) (A := A) (n := n) (c := c) (F := F) (m := m) (d := d) (Ai := Ai) (ni := ni) (ci := ci) W k false ⟨fun e => (by cases e), fun e => absurd e h⟩)
  obtain ⟨P, np, pc, E, ne, ec, Fu, nf, fc, R, nr, rc⟩ := s
  clear hd hi hm ho hT h
  go_enter Tryz.func3, Tryz.ntmps3
  go_wp2_with fail
  refine (awakeE_any _ (HTW.out _ B0.out.bv.k.bel)).mono ?_
  rintro e w1 ⟨rfl, b1⟩
  have B1 := Lib.hid (B0.out.next b1)
  clear b1
  obtain ⟨t0, t1, t2, t3, t4, t5⟩ := B1.out.bv.k.cd
  simp only at t2 t3 t4 t5
  have m0 := B1.out.bv.k.m0
  have m1 := B1.out.bv.k.m1
  have o0 := B1.out.o0
  have o1 := B1.out.o1
  go_wp2_with fail
  refine (CF.out _ B1.out.bv.k.t).mono ?_
  rintro e w2 ⟨rfl, b2⟩
  have B2 := Lib.hid (B1.out.next b2)
  clear b2
  clear t0 t1 t2 t3 t4 t5 m0 m1 o0 o1
  go_wp2_with fail
  refine (awakeE_any _ (HTW.out _ B2.out.bv.k.bel)).mono ?_
  rintro e w3 ⟨rfl, b3⟩
  have B3 := Lib.hid (B2.out.next b3)
  clear b3
  go_wp2_with fail
  go_ret
  exact ⟨rfl, B3.out.bv.k.bel⟩
set_option maxRecDepth 100000 in
set_option maxHeartbeats 16000000 in
theorem steps_many2 (w0 : World) (node : Int) (hd : InD w0 s T) (hi : InI w0 Ai ni ci inp) (hm : InM w0 A n c F m d D V) (ho : InM w0 B p b G q g D2 V2) (hT : DTab w0) (h1 : FewD T) (h2 : ni ≤ 60) (l1 : n ≤ 70) (l2 : m ≤ 70) (h : ¬ (p ≤ 70 ∧ q ≤ 70)) : Calls Tryz.prog 3 #[s.arg T.period T.deadline, .slice Ai ni ci, .agg #[.slice A n c, .slice F m d], .agg #[.slice B p b, .slice G q g], .int .i64 node] w0 fun z w' => z = .returned (.bool true) ∧ Below w0.heap.size w0 w' := by
  have HTW := Lib.hid (fun W (h : Below w0.heap.size w0 W) => DTab.via hT h)
  have B0 := Lib.hid (BxU8.start hd.t hm ho)
  have CF := Lib.hid (fun W (k : IsT W W.heap.size s T) => few8_any (s := s) (T := T) (A := A) (n := n) (c := c) (F := F) (m := m) (d := d) (Ai := Ai) (ni := ni) (ci := ci) W k true ⟨fun _ => ⟨h1, h2, l1, l2⟩, fun _ => rfl⟩)
  have CO := Lib.hid (fun W (k : IsT W W.heap.size s T) => few8_any (s := s) (T := T) (A := B) (n := p) (c := b) (F := G) (m := q) (d := g) (Ai := Ai) (ni := ni) (ci := ci) W k false ⟨fun e => (by cases e), fun e => absurd e.2.2 h⟩)
  obtain ⟨P, np, pc, E, ne, ec, Fu, nf, fc, R, nr, rc⟩ := s
  clear hd hi hm ho hT h1 h
  go_enter Tryz.func3, Tryz.ntmps3
  go_wp2_with fail
  refine (awakeE_any _ (HTW.out _ B0.out.bv.k.bel)).mono ?_
  rintro e w1 ⟨rfl, b1⟩
  have B1 := Lib.hid (B0.out.next b1)
  clear b1
  obtain ⟨t0, t1, t2, t3, t4, t5⟩ := B1.out.bv.k.cd
  simp only at t2 t3 t4 t5
  have m0 := B1.out.bv.k.m0
  have m1 := B1.out.bv.k.m1
  have o0 := B1.out.o0
  have o1 := B1.out.o1
  go_wp2_with fail
  refine (CF.out _ B1.out.bv.k.t).mono ?_
  rintro e w2 ⟨rfl, b2⟩
  have B2 := Lib.hid (B1.out.next b2)
  clear b2
  clear t0 t1 t2 t3 t4 t5 m0 m1 o0 o1
  obtain ⟨t0, t1, t2, t3, t4, t5⟩ := B2.out.bv.k.cd
  simp only at t2 t3 t4 t5
  have m0 := B2.out.bv.k.m0
  have m1 := B2.out.bv.k.m1
  have o0 := B2.out.o0
  have o1 := B2.out.o1
  go_wp2_with fail
  refine (CO.out _ B2.out.bv.k.t).mono ?_
  rintro e w3 ⟨rfl, b3⟩
  have B3 := Lib.hid (B2.out.next b3)
  clear b3
  clear t0 t1 t2 t3 t4 t5 m0 m1 o0 o1
  go_wp2_with fail
  refine (awakeE_any _ (HTW.out _ B3.out.bv.k.bel)).mono ?_
  rintro e w4 ⟨rfl, b4⟩
  have B4 := Lib.hid (B3.out.next b4)
  clear b4
  go_wp2_with fail
  go_ret
  exact ⟨rfl, B4.out.bv.k.bel⟩
set_option maxRecDepth 100000 in
set_option maxHeartbeats 64000000 in
theorem steps_good (w0 : World) (node : Int) (hd : InD w0 s T) (hi : InI w0 Ai ni ci inp) (hm : InM w0 A n c F m d D V) (ho : InM w0 B p b G q g D2 V2) (hT : DTab w0) (h1 : FewD T) (h2 : ni ≤ 60) (l1 : n ≤ 70) (l2 : m ≤ 70) (l3 : p ≤ 70) (l4 : q ≤ 70) : Calls Tryz.prog 3 #[s.arg T.period T.deadline, .slice Ai ni ci, .agg #[.slice A n c, .slice F m d], .agg #[.slice B p b, .slice G q g], .int .i64 node] w0 fun z w' => z = .returned (.bool true) ∧ Below w0.heap.size w0 w' := by
  have HTW := Lib.hid (fun W (h : Below w0.heap.size w0 W) => DTab.via hT h)
  have B0 := Lib.hid (BxU8.start hd.t hm ho)
  have HISD := Lib.hid (fun W (h : Below w0.heap.size w0 W) => (hd.isD hT h1).below h)
  have HINP := Lib.hid (fun W (h : Below w0.heap.size w0 W) => hi.below h)
  have HNI := Lib.hid (⟨hi.hn, by omega⟩ : inp.length = ni ∧ ni ≤ 1000)
  have HL4 := Lib.hid (⟨by omega, by omega, by omega, by omega⟩ : n ≤ 400 ∧ m ≤ 400 ∧ p ≤ 400 ∧ q ≤ 400)
  have HN := Lib.hid hm.hn
  have CF := Lib.hid (fun W (k : IsT W W.heap.size s T) => few8_any (s := s) (T := T) (A := A) (n := n) (c := c) (F := F) (m := m) (d := d) (Ai := Ai) (ni := ni) (ci := ci) W k true ⟨fun _ => ⟨h1, h2, l1, l2⟩, fun _ => rfl⟩)
  have CO := Lib.hid (fun W (k : IsT W W.heap.size s T) => few8_any (s := s) (T := T) (A := B) (n := p) (c := b) (F := G) (m := q) (d := g) (Ai := Ai) (ni := ni) (ci := ci) W k true ⟨fun _ => ⟨h1, h2, l3, l4⟩, fun _ => rfl⟩)
  obtain ⟨fe, hfe⟩ : ∃ z, finE T D V node = z := ⟨_, rfl⟩
  obtain ⟨D', hD'⟩ : ∃ z, finD T D V node = z := ⟨_, rfl⟩
  obtain ⟨V', hV'⟩ : ∃ z, finV T inp D V node = z := ⟨_, rfl⟩
  have HFE := Lib.hid (And.intro hfe (And.intro hD' hV'))
  obtain ⟨r, hr⟩ : ∃ r, chkM T D V = r := ⟨_, rfl⟩
  have HR := Lib.hid hr
  obtain ⟨zs, hzs⟩ : ∃ z, nums (readyM T D V) = z := ⟨_, rfl⟩
  obtain ⟨k, hk⟩ : ∃ z, zs.length = z := ⟨_, rfl⟩
  have HZ := Lib.hid (And.intro hzs hk)
  obtain ⟨sb, hsb⟩ : ∃ z, decide (D = D2 ∧ V = V2) = z := ⟨_, rfl⟩
  have HSB := Lib.hid hsb
  obtain ⟨P, np, pc, E, ne, ec, Fu, nf, fc, R, nr, rc⟩ := s
  clear hd hi hm ho hT h1 hfe hD' hV' hr hzs hk hsb
  go_enter Tryz.func3, Tryz.ntmps3
  go_wp2_with fail
  refine (awakeE_any _ (HTW.out _ B0.out.bv.k.bel)).mono ?_
  rintro e w1 ⟨rfl, b1⟩
  have B1 := Lib.hid (B0.out.next b1)
  clear b1
  obtain ⟨t0, t1, t2, t3, t4, t5⟩ := B1.out.bv.k.cd
  simp only at t2 t3 t4 t5
  have m0 := B1.out.bv.k.m0
  have m1 := B1.out.bv.k.m1
  have o0 := B1.out.o0
  have o1 := B1.out.o1
  go_wp2_with fail
  refine (CF.out _ B1.out.bv.k.t).mono ?_
  rintro e w2 ⟨rfl, b2⟩
  have B2 := Lib.hid (B1.out.next b2)
  clear b2
  clear t0 t1 t2 t3 t4 t5 m0 m1 o0 o1
  obtain ⟨t0, t1, t2, t3, t4, t5⟩ := B2.out.bv.k.cd
  simp only at t2 t3 t4 t5
  have m0 := B2.out.bv.k.m0
  have m1 := B2.out.bv.k.m1
  have o0 := B2.out.o0
  have o1 := B2.out.o1
  go_wp2_with fail
  refine (CO.out _ B2.out.bv.k.t).mono ?_
  rintro e w5 ⟨rfl, b5⟩
  have B5 := Lib.hid (B2.out.next b5)
  clear b5
  clear t0 t1 t2 t3 t4 t5 m0 m1 o0 o1
  clear B0 B1 B2
  go_wp2_with fail
  refine wp_region_stored 13 [35, 36, 37, 38, 39, 40, 41, 42, 43, 34, 44, 45, 11, 1000, 12] [11, 14] (by kernel_rfl) (by kernel_rfl) (by intro d hd; simp at hd ⊢; omega) (fun x => BxU8 w0 (⟨P, np, pc, E, ne, ec, Fu, nf, fc, R, nr, rc⟩ : Sh) T A n c F m d D V B p b G q g D2 V2 x ∧ Below w5.heap.size w5 x) (PhiSa P np pc E ne ec Fu nf fc R nr rc T A n c F m d D V B p b G q g D2 V2 w5.heap.size Ai ni ci inp node fe D' V') (ThM w5 11 D' V')
    (fun x y h hb => ⟨h.1.next hb, h.2.trans (hb.mono h.2.size)⟩) (phiSa_below P np pc E ne ec Fu nf fc R nr rc T A n c F m d D V B p b G q g D2 V2 w5.heap.size Ai ni ci inp node fe D' V') (⟨B5.out.next (Below.refl _ _).drew, (Below.refl _ _).drew⟩) ?hstep ?hpure ?hstore ?htheta ?hend
  case hstep =>
    intro kq o hkp hkS ho a w hI hA hd K hK
    obtain ⟨ρ, hρ⟩ : ∃ ρ, a.eval = ρ := ⟨_, rfl⟩
    rw [hρ] at hA hd
    match kq, hkp, hkS, ho with
    | 0, _, _, ho =>
      have hoo := Option.some.inj ho
      subst hoo
      exact fx_val hK hρ ((⟨P, np, pc, E, ne, ec, Fu, nf, fc, R, nr, rc⟩ : Sh).arg T.period T.deadline) (ld_desc rfl (hA.tmp 5 (by decide)) hI.1.bv.k.cd) rfl
    | 1, _, _, ho =>
      have hoo := Option.some.inj ho
      subst hoo
      have f0 : (ρ (.tmp 35)) = (⟨P, np, pc, E, ne, ec, Fu, nf, fc, R, nr, rc⟩ : Sh).arg T.period T.deadline := hd ⟨0, .data⟩ (by simp) (by rfl)
      exact fx_call hK hρ 7 _ _ #[(⟨P, np, pc, E, ne, ec, Fu, nf, fc, R, nr, rc⟩ : Sh).arg T.period T.deadline] rfl (by simp only [List.map_toArray, List.map_cons, List.map_nil, hA.const, f0]) (eg_of Tryz.func7 (by kernel_rfl) rfl) ((own_d (HISD.out _ hI.1.bv.k.bel)).mono fun e w' ⟨s', he, hd, hb⟩ => ⟨_, he, ⟨s', rfl, hd⟩, hb⟩)
    | 2, _, _, ho =>
      have hoo := Option.some.inj ho
      subst hoo
      exact fx_make hK hρ (.slice (some ⟨w.heap.size, 0, none⟩) 0 0) (w.alloc (.cells #[] 3)) (by simp [execOp, go_sem]) (newRow_here _ w _ hI.2.size) (below_alloc _)
    | 3, _, _, ho =>
      have hoo := Option.some.inj ho
      subst hoo
      exact fx_val hK hρ (.slice Ai ni ci) (by have h := hA.tmp 1 (by decide); simp [execOp, h, go_sem]) rfl
    | 4, _, _, ho =>
      have hoo := Option.some.inj ho
      subst hoo
      have f2 : NewRow 3 w w5.heap.size (ρ (.tmp 37)) := hd ⟨2, .data⟩ (by simp) (by rfl)
      have f3 : (ρ (.tmp 38)) = .slice Ai ni ci := hd ⟨3, .data⟩ (by simp) (by rfl)
      obtain ⟨A8, c8, w2', hr, hg8, hbb⟩ := app_list9 f2 (HINP.out _ hI.1.bv.k.bel) HNI.out.2 hI.2.size
      exact fx_make hK hρ _ w2' (by simp [execOp, resolve, invoke, builtin, f3, hr, Result.andThen]) hg8 hbb
    | 5, _, _, ho =>
      have hoo := Option.some.inj ho
      subst hoo
      exact fx_val hK hρ _ (by have h := hA.tmp 7 (by decide); have h0 := hI.1.bv.k.m0; have h1 := hI.1.bv.k.m1; simp [execOp, h, h0, h1, go_sem]) rfl
    | 6, _, _, ho =>
      have hoo := Option.some.inj ho
      subst hoo
      have f5 : (ρ (.tmp 40)) = .agg #[.slice A n c, .slice F m d] := hd ⟨5, .data⟩ (by simp) (by rfl)
      exact fx_call hK hρ 8 _ _ #[.agg #[.slice A n c, .slice F m d]] rfl (by simp only [List.map_toArray, List.map_cons, List.map_nil, hA.const, f5]) (eg_of Tryz.func8 (by kernel_rfl) rfl) ((ownM_any _ hI.1.bv.l HL4.out.1 HL4.out.2.1).mono fun e w' ⟨⟨A1, c1, F1, d1, he, hM⟩, hb⟩ => ⟨_, he, ⟨A1, c1, F1, d1, rfl, hM⟩, hb⟩)
    | 7, _, _, ho =>
      have hoo := Option.some.inj ho
      subst hoo
      exact fx_val hK hρ (.int .i64 node) (by have h := hA.tmp 4 (by decide); simp [execOp, h, go_sem]) rfl
    | 8, _, _, ho =>
      have hoo := Option.some.inj ho
      subst hoo
      have f1 : GDq T (ρ (.tmp 36)) w := hd ⟨1, .data⟩ (by simp) (by rfl)
      have f4 : GLq ni inp (ρ (.tmp 39)) w := hd ⟨4, .data⟩ (by simp) (by rfl)
      have f6 : GMq n m D V (ρ (.tmp 41)) w := hd ⟨6, .data⟩ (by simp) (by rfl)
      have f7 : (ρ (.tmp 42)) = .int .i64 node := hd ⟨7, .data⟩ (by simp) (by rfl)
      obtain ⟨s1, f1', hD⟩ := f1
      obtain ⟨A1, c1, F1, d1, f6', hM⟩ := f6
      obtain ⟨A8, c8, f4', hi8⟩ := f4
      exact fx_call hK hρ 6 _ _ #[s1.arg T.period T.deadline, .slice A8 ni c8, .agg #[.slice A1 n c1, .slice F1 m d1], .int .i64 node] rfl (by simp only [List.map_toArray, List.map_cons, List.map_nil, hA.const, f1', f4', f6', f7]) (eg_of Tryz.func6 (by kernel_rfl) rfl) ((finish_any (inp := inp) _ node hD hM hi8 HNI.out.1 HNI.out.2).mono fun e w' hg => (by
        obtain ⟨⟨A4, n4, c4, F4, m4, d4, he, hM4⟩, hb⟩ := hg
        rw [HFE.out.1] at he
        rw [HFE.out.2.1, HFE.out.2.2] at hM4
        exact ⟨_, he, ⟨A4, n4, c4, F4, m4, d4, rfl, hM4⟩, hb⟩))
    | 9, _, _, ho =>
      have hoo := Option.some.inj ho
      subst hoo
      have f8 : GFq D' V' fe (ρ (.tmp 43)) w := hd ⟨8, .data⟩ (by simp) (by rfl)
      obtain ⟨A4, n4, c4, F4, m4, d4, f8', hM4⟩ := f8
      exact fx_val hK hρ _ (by simp [execOp, f8', go_sem]) ⟨A4, n4, c4, F4, m4, d4, rfl, hM4⟩
    | 10, _, _, ho =>
      have hoo := Option.some.inj ho
      subst hoo
      have f9 : GFq D' V' fe (ρ (.tmp 34)) w := hd ⟨9, .data⟩ (by simp) (by rfl)
      obtain ⟨A4, n4, c4, F4, m4, d4, f9', hM4⟩ := f9
      exact fx_val hK hρ (.agg #[.slice A4 n4 c4, .slice F4 m4 d4]) (by simp [execOp, f9', go_sem]) ⟨A4, n4, c4, F4, m4, d4, rfl, hM4⟩
    | 11, _, hkS, _ => exact absurd (by decide) hkS
    | 12, _, _, ho =>
      have hoo := Option.some.inj ho
      subst hoo
      exact fx_make hK hρ (.pointer (some ⟨w.heap.size, 0, none⟩)) (w.alloc (.cells #[.slice none 0 0, .slice none 0 0] 31)) (by simp [execOp, go_sem]) ⟨_, rfl, hI.2.size, heap_alloc_new w _⟩ (below_alloc _)
    | 13, hkp, _, _ => exact absurd rfl hkp
    | 14, _, hkS, _ => exact absurd (by decide) hkS
    | kq + 15, _, _, ho => simp at ho
  case hpure =>
    intro kq o hkS ho ρ w hA hd
    simp only [List.mem_cons, List.not_mem_nil, or_false] at hkS
    rcases hkS with rfl | rfl
    · have hoo := Option.some.inj ho
      subst hoo
      obtain ⟨w', A4, n4, c4, F4, m4, d4, f6, _⟩ := hd ⟨9, .data⟩ (by simp) (by rfl) (by decide)
      have f6' : ρ (.tmp 34) = .tuple #[.agg #[.slice A4 n4 c4, .slice F4 m4 d4], .int .i64 fe] := f6
      exact ⟨.int .i64 fe, by simp [execOp, f6', go_sem], fun _ => rfl⟩
    · have hoo := Option.some.inj ho
      subst hoo
      obtain ⟨w', f8⟩ := hd ⟨11, .data⟩ (by simp) (by rfl) (by decide)
      have f8' : ρ (.tmp 45) = .int .i64 fe := f8
      exact ⟨.int .i64 fe, by simp [execOp, f8', go_sem], fun _ => rfl⟩
  case hstore =>
    intro o ho a w hI hA hF K hK
    have hoo := Option.some.inj ho
    subst hoo
    exact stM (slot := 11) rfl rfl rfl (hF 12 (by decide) (by decide) (by decide)) (hF 10 (by decide) (by decide) (by decide)) hI.2 hK
  case htheta =>
    intro f g w h hT
    exact ThM.slot hT (h 12 (by decide) (by decide) (by decide))
  case hend =>
    intro vals6 w6 hT hF
    obtain ⟨gx, X, n3, c3, Y, m3, d3, f12, hb6, hg6, hx6, hm6⟩ := hT
    have f13 : vals6 12 = .int .i64 fe := (hF 14 (by decide) (by decide)).choose_spec
    simp only [fillA, fillL, List.contains_cons, List.contains_nil, Nat.reduceBEq, Bool.or_false, Bool.false_or, Bool.or_true, Bool.true_or, cond_true, cond_false, Nat.zero_add, Nat.reduceAdd]
    rw [f12, f13]
    have B6 : Hid (BxU8 w0 (⟨P, np, pc, E, ne, ec, Fu, nf, fc, R, nr, rc⟩ : Sh) T A n c F m d D V B p b G q g D2 V2 w6) := Lib.hid (B5.out.next hb6)
    have HX := Lib.hid (And.intro hx6 hm6)
    clear hF hb6 hg6 hx6 hm6 f12 f13 B5
    obtain ⟨t0, t1, t2, t3, t4, t5⟩ := B6.out.bv.k.cd
    simp only at t2 t3 t4 t5
    have m0 := B6.out.bv.k.m0
    have m1 := B6.out.bv.k.m1
    have o0 := B6.out.o0
    have o1 := B6.out.o1
    go_wp2_with fail
    refine (rfin_at w6 node (HISD.out _ B6.out.bv.k.bel) (B6.out.bv.l.isM HL4.out.1 HL4.out.2.1) (HINP.out _ B6.out.bv.k.bel).ints HNI.out.1 HNI.out.2).mono ?_
    rintro e w7 ⟨⟨X', n4, c4, Y', m4, d4, he, hM4⟩, b7⟩
    rw [HFE.out.1] at he
    rw [HFE.out.2.1, HFE.out.2.2] at hM4
    subst he
    have B7 := Lib.hid (B6.out.next b7)
    have HX7 := Lib.hid (⟨by rw [b7.block _ (Array.getElem?_eq_some_iff.1 HX.out.1).1]; exact HX.out.1, HX.out.2.below b7, hM4⟩ : w7.heap[gx]? = some (.cells #[.slice X n3 c3, .slice Y m3 d3] 31 (0, 0)) ∧ IsM w7 X n3 c3 Y m3 d3 D' V' ∧ IsM w7 X' n4 c4 Y' m4 d4 D' V')
    clear t0 t1 t2 t3 t4 t5 m0 m1 o0 o1
    clear b7 hM4 HX B6
    obtain ⟨t0, t1, t2, t3, t4, t5⟩ := B7.out.bv.k.cd
    simp only at t2 t3 t4 t5
    have m0 := B7.out.bv.k.m0
    have m1 := B7.out.bv.k.m1
    have o0 := B7.out.o0
    have o1 := B7.out.o1
    obtain ⟨gy, hgy⟩ : ∃ g, g = w7.heap.size := ⟨_, rfl⟩
    have hq0 : w0.heap.size < w7.heap.size := by have := B7.out.lt; omega
    have hq1 : w0.heap.size + 1 < w7.heap.size := by have := B7.out.lt; omega
    obtain ⟨w8, hw8⟩ : ∃ w8, w8 = w7.alloc (.cells #[.slice X' n4 c4, .slice Y' m4 d4] 31) := ⟨_, rfl⟩
    have hba := below_alloc (w := w7) (.cells #[.slice X' n4 c4, .slice Y' m4 d4] 31)
    have hna := heap_alloc_new w7 (.cells #[.slice X' n4 c4, .slice Y' m4 d4] 31)
    rw [← hw8] at hba hna
    rw [← hgy] at hna
    have B8 : Hid (BxY8 w0 (⟨P, np, pc, E, ne, ec, Fu, nf, fc, R, nr, rc⟩ : Sh) T A n c F m d D V B p b G q g D2 V2 gx X n3 c3 Y m3 d3 gy X' n4 c4 Y' m4 d4 D' V' w8) := Lib.hid ⟨B7.out.next hba, by rw [hba.block _ (Array.getElem?_eq_some_iff.1 HX7.out.1).1]; exact HX7.out.1, HX7.out.2.1.below hba, hna, HX7.out.2.2.below hba⟩
    have HW8 := Lib.hid hw8
    have HGY := Lib.hid hgy
    clear hba hna hw8 hgy HX7
    go_wp2_with fail
    rw [← HW8.out, ← HGY.out]
    clear t0 t1 t2 t3 t4 t5 m0 m1 o0 o1
    clear hq0 hq1 HW8 HGY B7
    refine (rcheck8_any w8 (HISD.out _ B8.out.u.bv.k.bel) (B8.out.u.bv.l.isM HL4.out.1 HL4.out.2.1)).mono ?_
    rintro e w9 ⟨he, b9⟩
    rw [HR.out] at he
    subst he
    have B9 := Lib.hid (B8.out.next b9)
    clear b9 B8
    go_wp2_with fail
    refine wp_region_facts' [57, 58, 59, 60, 61, 16] [] [] (by kernel_rfl) (by kernel_rfl) (by kernel_rfl) (by intro d hd; simp at hd ⊢; omega) (BxY8 w0 (⟨P, np, pc, E, ne, ec, Fu, nf, fc, R, nr, rc⟩ : Sh) T A n c F m d D V B p b G q g D2 V2 gx X n3 c3 Y m3 d3 gy X' n4 c4 Y' m4 d4 D' V') (PhiSb P np pc E ne ec Fu nf fc R nr rc T A n c F m d D V B p b G q g D2 V2 k zs)
      (fun x y h hb => h.next hb) (phiSb_below P np pc E ne ec Fu nf fc R nr rc T A n c F m d D V B p b G q g D2 V2 k zs) (B9.out.next (Below.refl _ _).drew) (fun p hp v w hv => by cases hp) (fun kq hkq => by simp at hkq) ?hstep ?hend
    case hstep =>
      intro kq o ho hw a w hI hA hd K hK
      obtain ⟨ρ, hρ⟩ : ∃ ρ, a.eval = ρ := ⟨_, rfl⟩
      rw [hρ] at hA hd
      match kq, ho with
      | 0, ho =>
        have hoo := Option.some.inj ho
        subst hoo
        exact fx_val hK hρ ((⟨P, np, pc, E, ne, ec, Fu, nf, fc, R, nr, rc⟩ : Sh).arg T.period T.deadline) (ld_desc rfl (hA.tmp 5 (by decide)) hI.u.bv.k.cd) rfl
      | 1, ho =>
        have hoo := Option.some.inj ho
        subst hoo
        have f0 : (ρ (.tmp 57)) = (⟨P, np, pc, E, ne, ec, Fu, nf, fc, R, nr, rc⟩ : Sh).arg T.period T.deadline := hd ⟨0, .data⟩ (by simp) (by rfl)
        exact fx_call hK hρ 7 _ _ #[(⟨P, np, pc, E, ne, ec, Fu, nf, fc, R, nr, rc⟩ : Sh).arg T.period T.deadline] rfl (by simp only [List.map_toArray, List.map_cons, List.map_nil, hA.const, f0]) (eg_of Tryz.func7 (by kernel_rfl) rfl) ((own_d (HISD.out _ hI.u.bv.k.bel)).mono fun e w' ⟨s', he, hd, hb⟩ => ⟨_, he, ⟨s', rfl, hd⟩, hb⟩)
      | 2, ho =>
        have hoo := Option.some.inj ho
        subst hoo
        exact fx_val hK hρ _ (by have h := hA.tmp 7 (by decide); have h0 := hI.u.bv.k.m0; have h1 := hI.u.bv.k.m1; simp [execOp, h, h0, h1, go_sem]) rfl
      | 3, ho =>
        have hoo := Option.some.inj ho
        subst hoo
        have f2 : (ρ (.tmp 59)) = .agg #[.slice A n c, .slice F m d] := hd ⟨2, .data⟩ (by simp) (by rfl)
        exact fx_call hK hρ 8 _ _ #[.agg #[.slice A n c, .slice F m d]] rfl (by simp only [List.map_toArray, List.map_cons, List.map_nil, hA.const, f2]) (eg_of Tryz.func8 (by kernel_rfl) rfl) ((ownM_any _ hI.u.bv.l HL4.out.1 HL4.out.2.1).mono fun e w' ⟨⟨A1, c1, F1, d1, he, hM⟩, hb⟩ => ⟨_, he, ⟨A1, c1, F1, d1, rfl, hM⟩, hb⟩)
      | 4, ho =>
        have hoo := Option.some.inj ho
        subst hoo
        have f1 : GDq T (ρ (.tmp 58)) w := hd ⟨1, .data⟩ (by simp) (by rfl)
        have f3 : GMq n m D V (ρ (.tmp 60)) w := hd ⟨3, .data⟩ (by simp) (by rfl)
        obtain ⟨s1, f1', hD⟩ := f1
        obtain ⟨A1, c1, F1, d1, f3', hM⟩ := f3
        exact fx_call hK hρ 11 _ _ #[s1.arg T.period T.deadline, .agg #[.slice A1 n c1, .slice F1 m d1]] rfl (by simp only [List.map_toArray, List.map_cons, List.map_nil, hA.const, f1', f3']) (eg_of Tryz.func11 (by kernel_rfl) rfl) ((eready_any _ hD hM).mono fun e w' hg => (by
      obtain ⟨A2, c2, he, hi, hb⟩ := hg.ints
      rw [HZ.out.1, HZ.out.2] at he
      rw [HZ.out.1] at hi
      exact ⟨_, he, ⟨A2, c2, rfl, hi⟩, hb⟩))
      | 5, ho =>
        have hoo := Option.some.inj ho
        subst hoo
        have f4 : GLq k zs (ρ (.tmp 61)) w := hd ⟨4, .data⟩ (by simp) (by rfl)
        obtain ⟨A2, c2, f4', hi⟩ := f4
        exact fx_val hK hρ (.slice A2 k c2) (by simp [execOp, f4', go_sem]) ⟨A2, c2, rfl, hi⟩
      | kq + 6, ho => simp at ho
    case hend =>
      intro vals7 wA hI hF
      obtain ⟨A5, c5, fz, hi5⟩ : GLq k zs (vals7 16) wA := hF 5 (by decide)
      simp only [fillA, fillL, List.contains_cons, List.contains_nil, Nat.reduceBEq, Bool.or_false, Bool.false_or, Bool.or_true, Bool.true_or, cond_true, cond_false, Nat.zero_add, Nat.reduceAdd]
      rw [fz]
      have BA := Lib.hid (And.intro hI hi5)
      clear hF hI fz hi5 B9
      have hk400 : k ≤ 400 := by
        have h5 := readyK_len (lowE T) D D.length
        have h8 : (readyD (lowE T) D).length = (readyK (lowE T) D D.length).length := rfl
        have h6 : k = (readyM T D V).length := by rw [← HZ.out.2, ← HZ.out.1, nums_length]
        have h7 := HN.out
        have h9 := HL4.out.1
        unfold readyM at h6
        split at h6
        · omega
        · simp at h6; omega
      by_cases hr0 : r = 0
      · have HOK : Hid (MemOk T D V) := Lib.hid (chkM_zero.mp (by rw [HR.out]; exact hr0))
        have HRK : Hid (nums (readyK (lowE T) D n) = zs) := Lib.hid (by rw [← HZ.out.1]; unfold readyM; rw [if_pos HOK.out, ← HN.out]; rfl)
        subst hr0
        obtain ⟨t0, t1, t2, t3, t4, t5⟩ := BA.out.1.u.bv.k.cd
        simp only at t2 t3 t4 t5
        have m0 := BA.out.1.u.bv.k.m0
        have m1 := BA.out.1.u.bv.k.m1
        have o0 := BA.out.1.u.o0
        have o1 := BA.out.1.u.o1
        go_wp2_with fail
        refine (rready8_any wA (HISD.out _ BA.out.1.u.bv.k.bel) (BA.out.1.u.bv.l.isM HL4.out.1 HL4.out.2.1) HOK.out).mono ?_
        rintro e wB hg
        obtain ⟨A6, c6, he, hi6, bB⟩ := hg.ints
        rw [HRK.out, HZ.out.2] at he
        rw [HRK.out] at hi6
        subst he
        have BB := Lib.hid (And.intro (BA.out.1.next bB) (And.intro (BA.out.2.step bB) hi6))
        clear t0 t1 t2 t3 t4 t5 m0 m1 o0 o1
        clear bB hi6 BA hg
        go_wp2_with fail
        refine (same_list (zs := zs) HZ.out.2 (by omega) BB.out.2.1 BB.out.2.2).mono ?_
        rintro e wC ⟨rfl, bC⟩
        have BC := Lib.hid (BB.out.1.next bC)
        clear bC BB
        go_wp2_with fail
        refine wp_region_facts' [81, 82, 83, 84, 85, 86, 87, 88, 89, 90, 91, 92, 93, 94, 95, 96, 97, 98, 99, 100, 101, 102, 103, 104, 105, 106, 107, 108, 10] [] [(3, true), (8, true), (17, true)] (by kernel_rfl) (by kernel_rfl) (by kernel_rfl) (by intro d hd; simp at hd ⊢; omega) (BxY8 w0 (⟨P, np, pc, E, ne, ec, Fu, nf, fc, R, nr, rc⟩ : Sh) T A n c F m d D V B p b G q g D2 V2 gx X n3 c3 Y m3 d3 gy X' n4 c4 Y' m4 d4 D' V') (PhiSc P np pc E ne ec Fu nf fc R nr rc T A n c F m d D V B p b G q g D2 V2 gx X n3 c3 Y m3 d3 gy X' n4 c4 Y' m4 d4 D' V' fe 0 sb)
          (fun x y h hb => h.next hb) (phiSc_below P np pc E ne ec Fu nf fc R nr rc T A n c F m d D V B p b G q g D2 V2 gx X n3 c3 Y m3 d3 gy X' n4 c4 Y' m4 d4 D' V' fe 0 sb) (BC.out.next (Below.refl _ _).drew) (fun p hp v w hv => by
            simp only [List.mem_cons, List.not_mem_nil, or_false] at hp
            rcases hp with rfl | rfl | rfl <;> exact hv) (fun kq hkq => by simp at hkq) ?hstep ?hend
        case hstep =>
          intro kq o ho hw a w hI hA hd K hK
          obtain ⟨ρ, hρ⟩ : ∃ ρ, a.eval = ρ := ⟨_, rfl⟩
          rw [hρ] at hA hd
          match kq, ho with
          | 0, ho =>
            have hoo := Option.some.inj ho
            subst hoo
            exact fx_val hK hρ _ (by have h := hA.tmp 11 (by decide); have h0 := hI.x0; have h1 := hI.x1; simp [execOp, h, h0, h1, go_sem]) rfl
          | 1, ho =>
            have hoo := Option.some.inj ho
            subst hoo
            exact fx_val hK hρ _ (by have h := hA.tmp 13 (by decide); have h0 := hI.y0; have h1 := hI.y1; simp [execOp, h, h0, h1, go_sem]) rfl
          | 2, ho =>
            have hoo := Option.some.inj ho
            subst hoo
            have f0 : (ρ (.tmp 81)) = .agg #[.slice X n3 c3, .slice Y m3 d3] := hd ⟨0, .data⟩ (by simp) (by rfl)
            have f1 : (ρ (.tmp 82)) = .agg #[.slice X' n4 c4, .slice Y' m4 d4] := hd ⟨1, .data⟩ (by simp) (by rfl)
            exact fx_call hK hρ 14 _ _ #[.agg #[.slice X n3 c3, .slice Y m3 d3], .agg #[.slice X' n4 c4, .slice Y' m4 d4]] rfl (by simp only [List.map_toArray, List.map_cons, List.map_nil, hA.const, f0, f1]) (eg_of Tryz.func14 (by kernel_rfl) rfl) ((rsame_m w hI.xm hI.ym).mono fun e w' ⟨he, hb⟩ => ⟨_, he, (by show (_ : Value) = _; simp), hb⟩)
          | 3, ho =>
            have hoo := Option.some.inj ho
            subst hoo
            have f2 : (ρ (.tmp 83)) = .bool true := hd ⟨2, .data⟩ (by simp) (by rfl)
            exact fx_val hK hρ (.bool true) (by simp [execOp, f2, hA.const, go_sem]) rfl
          | 4, ho =>
            have hoo := Option.some.inj ho
            subst hoo
            exact fx_val hK hρ (.int .i64 fe) (by have h := hA.tmp 12 (by decide); simp [execOp, h, go_sem]) rfl
          | 5, ho =>
            have hoo := Option.some.inj ho
            subst hoo
            exact fx_val hK hρ (.int .i64 fe) (by have h := hA.tmp 14 (by decide); simp [execOp, h, go_sem]) rfl
          | 6, ho =>
            have hoo := Option.some.inj ho
            subst hoo
            have f4 : (ρ (.tmp 85)) = .int .i64 fe := hd ⟨4, .data⟩ (by simp) (by rfl)
            have f5 : (ρ (.tmp 86)) = .int .i64 fe := hd ⟨5, .data⟩ (by simp) (by rfl)
            exact fx_val hK hρ (.bool true) (by simp [execOp, f4, f5, hA.const, go_sem]) rfl
          | 7, ho =>
            have hoo := Option.some.inj ho
            subst hoo
            have f3 : (ρ (.tmp 84)) = .bool true := hd ⟨3, .data⟩ (by simp) (by rfl)
            have f6 : (ρ (.tmp 87)) = .bool true := hd ⟨6, .data⟩ (by simp) (by rfl)
            exact fx_val hK hρ (.bool true) (by simp [execOp, f3, f6, hA.const, hA.const, go_sem]) rfl
          | 8, ho =>
            have hoo := Option.some.inj ho
            subst hoo
            have f7 : (ρ (.tmp 88)) = .bool true := hd ⟨7, .data⟩ (by simp) (by rfl)
            exact fx_val hK hρ (.bool true) (by simp [execOp, f7, hA.const, go_sem]) rfl
          | 9, ho =>
            have hoo := Option.some.inj ho
            subst hoo
            exact fx_val hK hρ ((⟨P, np, pc, E, ne, ec, Fu, nf, fc, R, nr, rc⟩ : Sh).arg T.period T.deadline) (ld_desc rfl (hA.tmp 5 (by decide)) hI.u.bv.k.cd) rfl
          | 10, ho =>
            have hoo := Option.some.inj ho
            subst hoo
            have f9 : (ρ (.tmp 90)) = (⟨P, np, pc, E, ne, ec, Fu, nf, fc, R, nr, rc⟩ : Sh).arg T.period T.deadline := hd ⟨9, .data⟩ (by simp) (by rfl)
            exact fx_call hK hρ 7 _ _ #[(⟨P, np, pc, E, ne, ec, Fu, nf, fc, R, nr, rc⟩ : Sh).arg T.period T.deadline] rfl (by simp only [List.map_toArray, List.map_cons, List.map_nil, hA.const, f9]) (eg_of Tryz.func7 (by kernel_rfl) rfl) ((own_d (HISD.out _ hI.u.bv.k.bel)).mono fun e w' ⟨s', he, hd, hb⟩ => ⟨_, he, ⟨s', rfl, hd⟩, hb⟩)
          | 11, ho =>
            have hoo := Option.some.inj ho
            subst hoo
            exact fx_val hK hρ _ (by have h := hA.tmp 7 (by decide); have h0 := hI.u.bv.k.m0; have h1 := hI.u.bv.k.m1; simp [execOp, h, h0, h1, go_sem]) rfl
          | 12, ho =>
            have hoo := Option.some.inj ho
            subst hoo
            have f11 : (ρ (.tmp 92)) = .agg #[.slice A n c, .slice F m d] := hd ⟨11, .data⟩ (by simp) (by rfl)
            exact fx_call hK hρ 8 _ _ #[.agg #[.slice A n c, .slice F m d]] rfl (by simp only [List.map_toArray, List.map_cons, List.map_nil, hA.const, f11]) (eg_of Tryz.func8 (by kernel_rfl) rfl) ((ownM_any _ hI.u.bv.l HL4.out.1 HL4.out.2.1).mono fun e w' ⟨⟨A1, c1, F1, d1, he, hM⟩, hb⟩ => ⟨_, he, ⟨A1, c1, F1, d1, rfl, hM⟩, hb⟩)
          | 13, ho =>
            have hoo := Option.some.inj ho
            subst hoo
            have f10 : GDq T (ρ (.tmp 91)) w := hd ⟨10, .data⟩ (by simp) (by rfl)
            have f12 : GMq n m D V (ρ (.tmp 93)) w := hd ⟨12, .data⟩ (by simp) (by rfl)
            obtain ⟨s1, f10', hD⟩ := f10
            obtain ⟨A1, c1, F1, d1, f12', hM⟩ := f12
            exact fx_call hK hρ 15 _ _ #[s1.arg T.period T.deadline, .agg #[.slice A1 n c1, .slice F1 m d1]] rfl (by simp only [List.map_toArray, List.map_cons, List.map_nil, hA.const, f10', f12']) (eg_of Tryz.func15 (by kernel_rfl) rfl) ((echeck_any _ hD hM).mono fun e w' ⟨he, hb⟩ => ⟨_, he, by show Value.int .i64 _ = .int .i64 0; rw [HR.out], hb⟩)
          | 14, ho =>
            have hoo := Option.some.inj ho
            subst hoo
            exact fx_val hK hρ (.int .i64 0) (by have h := hA.tmp 15 (by decide); simp [execOp, h, go_sem]) rfl
          | 15, ho =>
            have hoo := Option.some.inj ho
            subst hoo
            have f13 : (ρ (.tmp 94)) = .int .i64 0 := hd ⟨13, .data⟩ (by simp) (by rfl)
            have f14 : (ρ (.tmp 95)) = .int .i64 0 := hd ⟨14, .data⟩ (by simp) (by rfl)
            exact fx_val hK hρ (.bool true) (by simp [execOp, f13, f14, hA.const, go_sem]) rfl
          | 16, ho =>
            have hoo := Option.some.inj ho
            subst hoo
            have f8 : (ρ (.tmp 89)) = .bool true := hd ⟨8, .data⟩ (by simp) (by rfl)
            have f15 : (ρ (.tmp 96)) = .bool true := hd ⟨15, .data⟩ (by simp) (by rfl)
            exact fx_val hK hρ (.bool true) (by simp [execOp, f8, f15, hA.const, hA.const, go_sem]) rfl
          | 17, ho =>
            have hoo := Option.some.inj ho
            subst hoo
            have f16 : (ρ (.tmp 97)) = .bool true := hd ⟨16, .data⟩ (by simp) (by rfl)
            exact fx_val hK hρ (.bool true) (by simp [execOp, f16, hA.const, go_sem]) rfl
          | 18, ho =>
            have hoo := Option.some.inj ho
            subst hoo
            exact fx_val hK hρ _ (by have h := hA.tmp 7 (by decide); have h0 := hI.u.bv.k.m0; have h1 := hI.u.bv.k.m1; simp [execOp, h, h0, h1, go_sem]) rfl
          | 19, ho =>
            have hoo := Option.some.inj ho
            subst hoo
            have f18 : (ρ (.tmp 99)) = .agg #[.slice A n c, .slice F m d] := hd ⟨18, .data⟩ (by simp) (by rfl)
            exact fx_call hK hρ 8 _ _ #[.agg #[.slice A n c, .slice F m d]] rfl (by simp only [List.map_toArray, List.map_cons, List.map_nil, hA.const, f18]) (eg_of Tryz.func8 (by kernel_rfl) rfl) ((ownM_any _ hI.u.bv.l HL4.out.1 HL4.out.2.1).mono fun e w' ⟨⟨A1, c1, F1, d1, he, hM⟩, hb⟩ => ⟨_, he, ⟨A1, c1, F1, d1, rfl, hM⟩, hb⟩)
          | 20, ho =>
            have hoo := Option.some.inj ho
            subst hoo
            exact fx_val hK hρ _ (by have h := hA.tmp 8 (by decide); have h0 := hI.u.o0; have h1 := hI.u.o1; simp [execOp, h, h0, h1, go_sem]) rfl
          | 21, ho =>
            have hoo := Option.some.inj ho
            subst hoo
            have f20 : (ρ (.tmp 101)) = .agg #[.slice B p b, .slice G q g] := hd ⟨20, .data⟩ (by simp) (by rfl)
            exact fx_call hK hρ 8 _ _ #[.agg #[.slice B p b, .slice G q g]] rfl (by simp only [List.map_toArray, List.map_cons, List.map_nil, hA.const, f20]) (eg_of Tryz.func8 (by kernel_rfl) rfl) ((ownM_any _ hI.u.ol HL4.out.2.2.1 HL4.out.2.2.2).mono fun e w' ⟨⟨A1, c1, F1, d1, he, hM⟩, hb⟩ => ⟨_, he, ⟨A1, c1, F1, d1, rfl, hM⟩, hb⟩)
          | 22, ho =>
            have hoo := Option.some.inj ho
            subst hoo
            have f19 : GMq n m D V (ρ (.tmp 100)) w := hd ⟨19, .data⟩ (by simp) (by rfl)
            have f21 : GMq p q D2 V2 (ρ (.tmp 102)) w := hd ⟨21, .data⟩ (by simp) (by rfl)
            obtain ⟨A1, c1, F1, d1, f19', hM⟩ := f19
            obtain ⟨A5, c5, F5, d5, f21', hM5⟩ := f21
            exact fx_call hK hρ 16 _ _ #[.agg #[.slice A1 n c1, .slice F1 m d1], .agg #[.slice A5 p c5, .slice F5 q d5]] rfl (by simp only [List.map_toArray, List.map_cons, List.map_nil, hA.const, f19', f21']) (eg_of Tryz.func16 (by kernel_rfl) rfl) ((same_m w hM hM5).mono fun e w' ⟨he, hb⟩ => ⟨_, he, (by show (_ : Value) = _; rw [HSB.out]), hb⟩)
          | 23, ho =>
            have hoo := Option.some.inj ho
            subst hoo
            exact fx_val hK hρ _ (by have h := hA.tmp 7 (by decide); have h0 := hI.u.bv.k.m0; have h1 := hI.u.bv.k.m1; simp [execOp, h, h0, h1, go_sem]) rfl
          | 24, ho =>
            have hoo := Option.some.inj ho
            subst hoo
            exact fx_val hK hρ _ (by have h := hA.tmp 8 (by decide); have h0 := hI.u.o0; have h1 := hI.u.o1; simp [execOp, h, h0, h1, go_sem]) rfl
          | 25, ho =>
            have hoo := Option.some.inj ho
            subst hoo
            have f23 : (ρ (.tmp 104)) = .agg #[.slice A n c, .slice F m d] := hd ⟨23, .data⟩ (by simp) (by rfl)
            have f24 : (ρ (.tmp 105)) = .agg #[.slice B p b, .slice G q g] := hd ⟨24, .data⟩ (by simp) (by rfl)
            exact fx_call hK hρ 14 _ _ #[.agg #[.slice A n c, .slice F m d], .agg #[.slice B p b, .slice G q g]] rfl (by simp only [List.map_toArray, List.map_cons, List.map_nil, hA.const, f23, f24]) (eg_of Tryz.func14 (by kernel_rfl) rfl) ((rsame_m w (hI.u.bv.l.isM HL4.out.1 HL4.out.2.1) (hI.u.ol.isM HL4.out.2.2.1 HL4.out.2.2.2)).mono fun e w' ⟨he, hb⟩ => ⟨_, he, (by show (_ : Value) = _; rw [HSB.out]), hb⟩)
          | 26, ho =>
            have hoo := Option.some.inj ho
            subst hoo
            have f22 : (ρ (.tmp 103)) = .bool sb := hd ⟨22, .data⟩ (by simp) (by rfl)
            have f25 : (ρ (.tmp 106)) = .bool sb := hd ⟨25, .data⟩ (by simp) (by rfl)
            exact fx_val hK hρ (.bool true) (by simp [execOp, f22, f25, hA.const, go_sem]) rfl
          | 27, ho =>
            have hoo := Option.some.inj ho
            subst hoo
            have f17 : (ρ (.tmp 98)) = .bool true := hd ⟨17, .data⟩ (by simp) (by rfl)
            have f26 : (ρ (.tmp 107)) = .bool true := hd ⟨26, .data⟩ (by simp) (by rfl)
            exact fx_val hK hρ (.bool true) (by simp [execOp, f17, f26, hA.const, hA.const, go_sem]) rfl
          | 28, ho =>
            have hoo := Option.some.inj ho
            subst hoo
            have f27 : (ρ (.tmp 108)) = .bool true := hd ⟨27, .data⟩ (by simp) (by rfl)
            exact fx_val hK hρ (.bool true) (by simp [execOp, f27, hA.const, go_sem]) rfl
          | kq + 29, ho => simp at ho
        case hend =>
          intro vals9 w14 hI hF
          have fz : vals9 10 = .bool true := hF 28 (by decide)
          simp only [fillA, fillL, List.contains_cons, List.contains_nil, Nat.reduceBEq, Bool.or_false, Bool.false_or, Bool.or_true, Bool.true_or, cond_true, cond_false, Nat.zero_add, Nat.reduceAdd]
          rw [fz]
          have BZ := Lib.hid hI
          clear hF hI fz
          go_wp2
          go_ret
          exact ⟨rfl, BZ.out.u.bv.k.bel⟩
      · have hrb : (r == 0) = false := by simpa using hr0
        have hrn : (r != 0) = true := bne_iff_ne.mpr hr0
        have HOK : Hid (¬ MemOk T D V) := Lib.hid (fun h => hr0 (by rw [← HR.out]; exact chkM_zero.mpr h))
        have hk0 : k = 0 := by
          rw [← HZ.out.2, ← HZ.out.1, nums_length]
          unfold readyM
          rw [if_neg HOK.out]
          rfl
        have hz1 : decide ((0 : Int) < (k : Int)) = false := by simp [hk0]
        have hz2 : decide (0 < k) = false := by simp [hk0]
        have BC := Lib.hid BA.out.1
        clear hk0 hr0 BA
        go_wp2_with fail
        refine wp_region_facts' [81, 82, 83, 84, 85, 86, 87, 88, 89, 90, 91, 92, 93, 94, 95, 96, 97, 98, 99, 100, 101, 102, 103, 104, 105, 106, 107, 108, 10] [] [(3, true), (8, true), (17, true)] (by kernel_rfl) (by kernel_rfl) (by kernel_rfl) (by intro d hd; simp at hd ⊢; omega) (BxY8 w0 (⟨P, np, pc, E, ne, ec, Fu, nf, fc, R, nr, rc⟩ : Sh) T A n c F m d D V B p b G q g D2 V2 gx X n3 c3 Y m3 d3 gy X' n4 c4 Y' m4 d4 D' V') (PhiSc P np pc E ne ec Fu nf fc R nr rc T A n c F m d D V B p b G q g D2 V2 gx X n3 c3 Y m3 d3 gy X' n4 c4 Y' m4 d4 D' V' fe r sb)
          (fun x y h hb => h.next hb) (phiSc_below P np pc E ne ec Fu nf fc R nr rc T A n c F m d D V B p b G q g D2 V2 gx X n3 c3 Y m3 d3 gy X' n4 c4 Y' m4 d4 D' V' fe r sb) (BC.out.next (Below.refl _ _).drew) (fun p hp v w hv => by
            simp only [List.mem_cons, List.not_mem_nil, or_false] at hp
            rcases hp with rfl | rfl | rfl <;> exact hv) (fun kq hkq => by simp at hkq) ?hstep ?hend
        case hstep =>
          intro kq o ho hw a w hI hA hd K hK
          obtain ⟨ρ, hρ⟩ : ∃ ρ, a.eval = ρ := ⟨_, rfl⟩
          rw [hρ] at hA hd
          match kq, ho with
          | 0, ho =>
            have hoo := Option.some.inj ho
            subst hoo
            exact fx_val hK hρ _ (by have h := hA.tmp 11 (by decide); have h0 := hI.x0; have h1 := hI.x1; simp [execOp, h, h0, h1, go_sem]) rfl
          | 1, ho =>
            have hoo := Option.some.inj ho
            subst hoo
            exact fx_val hK hρ _ (by have h := hA.tmp 13 (by decide); have h0 := hI.y0; have h1 := hI.y1; simp [execOp, h, h0, h1, go_sem]) rfl
          | 2, ho =>
            have hoo := Option.some.inj ho
            subst hoo
            have f0 : (ρ (.tmp 81)) = .agg #[.slice X n3 c3, .slice Y m3 d3] := hd ⟨0, .data⟩ (by simp) (by rfl)
            have f1 : (ρ (.tmp 82)) = .agg #[.slice X' n4 c4, .slice Y' m4 d4] := hd ⟨1, .data⟩ (by simp) (by rfl)
            exact fx_call hK hρ 14 _ _ #[.agg #[.slice X n3 c3, .slice Y m3 d3], .agg #[.slice X' n4 c4, .slice Y' m4 d4]] rfl (by simp only [List.map_toArray, List.map_cons, List.map_nil, hA.const, f0, f1]) (eg_of Tryz.func14 (by kernel_rfl) rfl) ((rsame_m w hI.xm hI.ym).mono fun e w' ⟨he, hb⟩ => ⟨_, he, (by show (_ : Value) = _; simp), hb⟩)
          | 3, ho =>
            have hoo := Option.some.inj ho
            subst hoo
            have f2 : (ρ (.tmp 83)) = .bool true := hd ⟨2, .data⟩ (by simp) (by rfl)
            exact fx_val hK hρ (.bool true) (by simp [execOp, f2, hA.const, go_sem]) rfl
          | 4, ho =>
            have hoo := Option.some.inj ho
            subst hoo
            exact fx_val hK hρ (.int .i64 fe) (by have h := hA.tmp 12 (by decide); simp [execOp, h, go_sem]) rfl
          | 5, ho =>
            have hoo := Option.some.inj ho
            subst hoo
            exact fx_val hK hρ (.int .i64 fe) (by have h := hA.tmp 14 (by decide); simp [execOp, h, go_sem]) rfl
          | 6, ho =>
            have hoo := Option.some.inj ho
            subst hoo
            have f4 : (ρ (.tmp 85)) = .int .i64 fe := hd ⟨4, .data⟩ (by simp) (by rfl)
            have f5 : (ρ (.tmp 86)) = .int .i64 fe := hd ⟨5, .data⟩ (by simp) (by rfl)
            exact fx_val hK hρ (.bool true) (by simp [execOp, f4, f5, hA.const, go_sem]) rfl
          | 7, ho =>
            have hoo := Option.some.inj ho
            subst hoo
            have f3 : (ρ (.tmp 84)) = .bool true := hd ⟨3, .data⟩ (by simp) (by rfl)
            have f6 : (ρ (.tmp 87)) = .bool true := hd ⟨6, .data⟩ (by simp) (by rfl)
            exact fx_val hK hρ (.bool true) (by simp [execOp, f3, f6, hA.const, hA.const, go_sem]) rfl
          | 8, ho =>
            have hoo := Option.some.inj ho
            subst hoo
            have f7 : (ρ (.tmp 88)) = .bool true := hd ⟨7, .data⟩ (by simp) (by rfl)
            exact fx_val hK hρ (.bool true) (by simp [execOp, f7, hA.const, go_sem]) rfl
          | 9, ho =>
            have hoo := Option.some.inj ho
            subst hoo
            exact fx_val hK hρ ((⟨P, np, pc, E, ne, ec, Fu, nf, fc, R, nr, rc⟩ : Sh).arg T.period T.deadline) (ld_desc rfl (hA.tmp 5 (by decide)) hI.u.bv.k.cd) rfl
          | 10, ho =>
            have hoo := Option.some.inj ho
            subst hoo
            have f9 : (ρ (.tmp 90)) = (⟨P, np, pc, E, ne, ec, Fu, nf, fc, R, nr, rc⟩ : Sh).arg T.period T.deadline := hd ⟨9, .data⟩ (by simp) (by rfl)
            exact fx_call hK hρ 7 _ _ #[(⟨P, np, pc, E, ne, ec, Fu, nf, fc, R, nr, rc⟩ : Sh).arg T.period T.deadline] rfl (by simp only [List.map_toArray, List.map_cons, List.map_nil, hA.const, f9]) (eg_of Tryz.func7 (by kernel_rfl) rfl) ((own_d (HISD.out _ hI.u.bv.k.bel)).mono fun e w' ⟨s', he, hd, hb⟩ => ⟨_, he, ⟨s', rfl, hd⟩, hb⟩)
          | 11, ho =>
            have hoo := Option.some.inj ho
            subst hoo
            exact fx_val hK hρ _ (by have h := hA.tmp 7 (by decide); have h0 := hI.u.bv.k.m0; have h1 := hI.u.bv.k.m1; simp [execOp, h, h0, h1, go_sem]) rfl
          | 12, ho =>
            have hoo := Option.some.inj ho
            subst hoo
            have f11 : (ρ (.tmp 92)) = .agg #[.slice A n c, .slice F m d] := hd ⟨11, .data⟩ (by simp) (by rfl)
            exact fx_call hK hρ 8 _ _ #[.agg #[.slice A n c, .slice F m d]] rfl (by simp only [List.map_toArray, List.map_cons, List.map_nil, hA.const, f11]) (eg_of Tryz.func8 (by kernel_rfl) rfl) ((ownM_any _ hI.u.bv.l HL4.out.1 HL4.out.2.1).mono fun e w' ⟨⟨A1, c1, F1, d1, he, hM⟩, hb⟩ => ⟨_, he, ⟨A1, c1, F1, d1, rfl, hM⟩, hb⟩)
          | 13, ho =>
            have hoo := Option.some.inj ho
            subst hoo
            have f10 : GDq T (ρ (.tmp 91)) w := hd ⟨10, .data⟩ (by simp) (by rfl)
            have f12 : GMq n m D V (ρ (.tmp 93)) w := hd ⟨12, .data⟩ (by simp) (by rfl)
            obtain ⟨s1, f10', hD⟩ := f10
            obtain ⟨A1, c1, F1, d1, f12', hM⟩ := f12
            exact fx_call hK hρ 15 _ _ #[s1.arg T.period T.deadline, .agg #[.slice A1 n c1, .slice F1 m d1]] rfl (by simp only [List.map_toArray, List.map_cons, List.map_nil, hA.const, f10', f12']) (eg_of Tryz.func15 (by kernel_rfl) rfl) ((echeck_any _ hD hM).mono fun e w' ⟨he, hb⟩ => ⟨_, he, by show Value.int .i64 _ = .int .i64 r; rw [HR.out], hb⟩)
          | 14, ho =>
            have hoo := Option.some.inj ho
            subst hoo
            exact fx_val hK hρ (.int .i64 r) (by have h := hA.tmp 15 (by decide); simp [execOp, h, go_sem]) rfl
          | 15, ho =>
            have hoo := Option.some.inj ho
            subst hoo
            have f13 : (ρ (.tmp 94)) = .int .i64 r := hd ⟨13, .data⟩ (by simp) (by rfl)
            have f14 : (ρ (.tmp 95)) = .int .i64 r := hd ⟨14, .data⟩ (by simp) (by rfl)
            exact fx_val hK hρ (.bool true) (by simp [execOp, f13, f14, hA.const, go_sem]) rfl
          | 16, ho =>
            have hoo := Option.some.inj ho
            subst hoo
            have f8 : (ρ (.tmp 89)) = .bool true := hd ⟨8, .data⟩ (by simp) (by rfl)
            have f15 : (ρ (.tmp 96)) = .bool true := hd ⟨15, .data⟩ (by simp) (by rfl)
            exact fx_val hK hρ (.bool true) (by simp [execOp, f8, f15, hA.const, hA.const, go_sem]) rfl
          | 17, ho =>
            have hoo := Option.some.inj ho
            subst hoo
            have f16 : (ρ (.tmp 97)) = .bool true := hd ⟨16, .data⟩ (by simp) (by rfl)
            exact fx_val hK hρ (.bool true) (by simp [execOp, f16, hA.const, go_sem]) rfl
          | 18, ho =>
            have hoo := Option.some.inj ho
            subst hoo
            exact fx_val hK hρ _ (by have h := hA.tmp 7 (by decide); have h0 := hI.u.bv.k.m0; have h1 := hI.u.bv.k.m1; simp [execOp, h, h0, h1, go_sem]) rfl
          | 19, ho =>
            have hoo := Option.some.inj ho
            subst hoo
            have f18 : (ρ (.tmp 99)) = .agg #[.slice A n c, .slice F m d] := hd ⟨18, .data⟩ (by simp) (by rfl)
            exact fx_call hK hρ 8 _ _ #[.agg #[.slice A n c, .slice F m d]] rfl (by simp only [List.map_toArray, List.map_cons, List.map_nil, hA.const, f18]) (eg_of Tryz.func8 (by kernel_rfl) rfl) ((ownM_any _ hI.u.bv.l HL4.out.1 HL4.out.2.1).mono fun e w' ⟨⟨A1, c1, F1, d1, he, hM⟩, hb⟩ => ⟨_, he, ⟨A1, c1, F1, d1, rfl, hM⟩, hb⟩)
          | 20, ho =>
            have hoo := Option.some.inj ho
            subst hoo
            exact fx_val hK hρ _ (by have h := hA.tmp 8 (by decide); have h0 := hI.u.o0; have h1 := hI.u.o1; simp [execOp, h, h0, h1, go_sem]) rfl
          | 21, ho =>
            have hoo := Option.some.inj ho
            subst hoo
            have f20 : (ρ (.tmp 101)) = .agg #[.slice B p b, .slice G q g] := hd ⟨20, .data⟩ (by simp) (by rfl)
            exact fx_call hK hρ 8 _ _ #[.agg #[.slice B p b, .slice G q g]] rfl (by simp only [List.map_toArray, List.map_cons, List.map_nil, hA.const, f20]) (eg_of Tryz.func8 (by kernel_rfl) rfl) ((ownM_any _ hI.u.ol HL4.out.2.2.1 HL4.out.2.2.2).mono fun e w' ⟨⟨A1, c1, F1, d1, he, hM⟩, hb⟩ => ⟨_, he, ⟨A1, c1, F1, d1, rfl, hM⟩, hb⟩)
          | 22, ho =>
            have hoo := Option.some.inj ho
            subst hoo
            have f19 : GMq n m D V (ρ (.tmp 100)) w := hd ⟨19, .data⟩ (by simp) (by rfl)
            have f21 : GMq p q D2 V2 (ρ (.tmp 102)) w := hd ⟨21, .data⟩ (by simp) (by rfl)
            obtain ⟨A1, c1, F1, d1, f19', hM⟩ := f19
            obtain ⟨A5, c5, F5, d5, f21', hM5⟩ := f21
            exact fx_call hK hρ 16 _ _ #[.agg #[.slice A1 n c1, .slice F1 m d1], .agg #[.slice A5 p c5, .slice F5 q d5]] rfl (by simp only [List.map_toArray, List.map_cons, List.map_nil, hA.const, f19', f21']) (eg_of Tryz.func16 (by kernel_rfl) rfl) ((same_m w hM hM5).mono fun e w' ⟨he, hb⟩ => ⟨_, he, (by show (_ : Value) = _; rw [HSB.out]), hb⟩)
          | 23, ho =>
            have hoo := Option.some.inj ho
            subst hoo
            exact fx_val hK hρ _ (by have h := hA.tmp 7 (by decide); have h0 := hI.u.bv.k.m0; have h1 := hI.u.bv.k.m1; simp [execOp, h, h0, h1, go_sem]) rfl
          | 24, ho =>
            have hoo := Option.some.inj ho
            subst hoo
            exact fx_val hK hρ _ (by have h := hA.tmp 8 (by decide); have h0 := hI.u.o0; have h1 := hI.u.o1; simp [execOp, h, h0, h1, go_sem]) rfl
          | 25, ho =>
            have hoo := Option.some.inj ho
            subst hoo
            have f23 : (ρ (.tmp 104)) = .agg #[.slice A n c, .slice F m d] := hd ⟨23, .data⟩ (by simp) (by rfl)
            have f24 : (ρ (.tmp 105)) = .agg #[.slice B p b, .slice G q g] := hd ⟨24, .data⟩ (by simp) (by rfl)
            exact fx_call hK hρ 14 _ _ #[.agg #[.slice A n c, .slice F m d], .agg #[.slice B p b, .slice G q g]] rfl (by simp only [List.map_toArray, List.map_cons, List.map_nil, hA.const, f23, f24]) (eg_of Tryz.func14 (by kernel_rfl) rfl) ((rsame_m w (hI.u.bv.l.isM HL4.out.1 HL4.out.2.1) (hI.u.ol.isM HL4.out.2.2.1 HL4.out.2.2.2)).mono fun e w' ⟨he, hb⟩ => ⟨_, he, (by show (_ : Value) = _; rw [HSB.out]), hb⟩)
          | 26, ho =>
            have hoo := Option.some.inj ho
            subst hoo
            have f22 : (ρ (.tmp 103)) = .bool sb := hd ⟨22, .data⟩ (by simp) (by rfl)
            have f25 : (ρ (.tmp 106)) = .bool sb := hd ⟨25, .data⟩ (by simp) (by rfl)
            exact fx_val hK hρ (.bool true) (by simp [execOp, f22, f25, hA.const, go_sem]) rfl
          | 27, ho =>
            have hoo := Option.some.inj ho
            subst hoo
            have f17 : (ρ (.tmp 98)) = .bool true := hd ⟨17, .data⟩ (by simp) (by rfl)
            have f26 : (ρ (.tmp 107)) = .bool true := hd ⟨26, .data⟩ (by simp) (by rfl)
            exact fx_val hK hρ (.bool true) (by simp [execOp, f17, f26, hA.const, hA.const, go_sem]) rfl
          | 28, ho =>
            have hoo := Option.some.inj ho
            subst hoo
            have f27 : (ρ (.tmp 108)) = .bool true := hd ⟨27, .data⟩ (by simp) (by rfl)
            exact fx_val hK hρ (.bool true) (by simp [execOp, f27, hA.const, go_sem]) rfl
          | kq + 29, ho => simp at ho
        case hend =>
          intro vals9 w14 hI hF
          have fz : vals9 10 = .bool true := hF 28 (by decide)
          simp only [fillA, fillL, List.contains_cons, List.contains_nil, Nat.reduceBEq, Bool.or_false, Bool.false_or, Bool.or_true, Bool.true_or, cond_true, cond_false, Nat.zero_add, Nat.reduceAdd]
          rw [fz]
          have BZ := Lib.hid hI
          clear hF hI fz
          go_wp2
          go_ret
          exact ⟨rfl, BZ.out.u.bv.k.bel⟩
theorem walk_EvalSteps (w0 : World) (hd : InD w0 s T) (hi : InI w0 Ai ni ci inp) (hm : InM w0 A n c F m d D V) (ho : InM w0 B p b G q g D2 V2) (node : Int) (hnb : -9223372036854775808 ≤ node ∧ node ≤ 9223372036854775807) (hT : DTab w0) : Calls Tryz.prog 3 #[s.arg T.period T.deadline, .slice Ai ni ci, .agg #[.slice A n c, .slice F m d], .agg #[.slice B p b, .slice G q g], .int .i64 node] w0 fun z w' => z = .returned (.bool true) ∧ Below w0.heap.size w0 w' := by
  by_cases h1 : FewD T ∧ ni ≤ 60 ∧ n ≤ 70 ∧ m ≤ 70
  · by_cases h2 : p ≤ 70 ∧ q ≤ 70
    · exact steps_good w0 node hd hi hm ho hT h1.1 h1.2.1 h1.2.2.1 h1.2.2.2 h2.1 h2.2
    · exact steps_many2 w0 node hd hi hm ho hT h1.1 h1.2.1 h1.2.2.1 h1.2.2.2 h2
  · exact steps_many1 w0 node hd hi hm ho hT h1
end
end Go.Proofs.YtkmajhbfmdoamaaGreatDoor
set_option linter.unusedSimpArgs false
namespace Go.Proofs.YtkmajhbfmdoamaaGreatDoor.evalSteps
open Go.ChangeShapes Go.WideShapes Go.ChangeAt Go.RowKit
open Go.ChangeMaps (open_string shut_string)
set_option linter.unusedVariables false

theorem laid_met (os : Os) : laidMet Tryz.prog Rows.evalStepsRow.laid ((laidWorld os).forCall (fun _ _ => 0) ⟨#[], #[.agg #[.int .i64 0, .int .i64 0, .slice none 0 0, .slice none 0 0, .slice none 0 0, .slice none 0 0], .slice none 0 0, .agg #[.slice none 0 0, .slice none 0 0], .agg #[.slice none 0 0, .slice none 0 0], .int .i64 0], []⟩).memory :=
  laidMet_of_run' 8 (by kernel_rfl) (by kernel_rfl)
theorem reads (os : Os) {H : Type} (enc : TypeId × Value → H) : ∃ ds places, DataW.whole enc Tryz.prog ((laidWorld os).forCall (fun _ _ => 0) ⟨#[], #[.agg #[.int .i64 0, .int .i64 0, .slice none 0 0, .slice none 0 0, .slice none 0 0, .slice none 0 0], .slice none 0 0, .agg #[.slice none 0 0, .slice none 0 0], .agg #[.slice none 0 0, .slice none 0 0], .int .i64 0], []⟩).memory Tryz.f3.params.toList Rows.evalStepsSpec.vars false #[Value.agg #[.int .i64 0, .int .i64 0, .slice none 0 0, .slice none 0 0, .slice none 0 0, .slice none 0 0], Value.slice none 0 0, Value.agg #[.slice none 0 0, .slice none 0 0], Value.agg #[.slice none 0 0, .slice none 0 0], Value.int .i64 0].toList 8 = some (ds, [], places) :=
  ⟨[.agg [.lit (.int .i64 0), .lit (.int .i64 0), .nil, .nil, .nil, .nil], .nil, .agg [.nil, .nil], .agg [.nil, .nil], .lit (.int .i64 0)], [], by kernel_rfl⟩

set_option maxRecDepth 100000 in
theorem lifted (os : Os) (started : os.Started) (H : Type) (enc : TypeId × Value → H) (F : Stop.Interp) :
    ReturnsInHanded {} Tryz.checked os 3 .any ((OpenSpec.ofChange Rows.evalStepsSpec).preRow enc Tryz.prog Tryz.f3 Rows.evalStepsRow.domain false Rows.evalStepsRow.laid) (((OpenSpec.ofChange Rows.evalStepsSpec).at F).post enc Tryz.prog Tryz.f3 false true false false) := by
  obtain ⟨dw, places, hx⟩ := reads os enc
  refine returnsInHanded_of_row (C := Tryz.checked) (s := OpenSpec.ofChange Rows.evalStepsSpec) own started (by kernel_rfl) Tryz.func3
    (witness_row_at (enc := enc) (C := Tryz.checked) false (laidWorld os) #[.agg #[.int .i64 0, .int .i64 0, .slice none 0 0, .slice none 0 0, .slice none 0 0, .slice none 0 0], .slice none 0 0, .agg #[.slice none 0 0, .slice none 0 0], .agg #[.slice none 0 0, .slice none 0 0], .int .i64 0] rfl (by kernel_rfl) (by kernel_rfl) (by kernel_rfl)
      (OpenSpec.preRow_of_cond 8 hx (by kernel_rfl) (fun k hk => by cases hk) (by kernel_rfl) (laid_met os))) ?_
  intro W base args ds gs before hval0 hW _ _ _ hL _ _
  have hval : ∀ (j : Nat) t v, Tryz.f3.params[j]? = some t → args[j]? = some v → Value.okWide Tryz.prog W .any base t v := hval0
  have hT := tabs_of hL
  have hW' := hW
  obtain ⟨p, q, hA0, hV, rfl, hfz, hnd⟩ := hW
  have hA : DataW.TrodAll enc Tryz.prog W 0 (fun _ => true) true Tryz.f3.params.toList args.toList ds p := hA0
  rw [Tryz.params3] at hA hval
  obtain ⟨v0, vs0, d0, ds0, p0, q0, hargs, rfl, rfl, h0, r0⟩ := trodAll_cons hA
  obtain ⟨v1, vs1, d1, ds1, p1, q1, rfl, rfl, rfl, h1, r1⟩ := trodAll_cons r0
  obtain ⟨v2, vs2, d2, ds2, p2, q2, rfl, rfl, rfl, h2, r2⟩ := trodAll_cons r1
  obtain ⟨v3, vs3, d3, ds3, p3, q3, rfl, rfl, rfl, h3, r3⟩ := trodAll_cons r2
  obtain ⟨v4, vs4, d4, ds4, p4, q4, rfl, rfl, rfl, h4, r4⟩ := trodAll_cons r3
  obtain ⟨rfl, rfl, rfl⟩ := trodAll_nil r4
  obtain rfl : args = #[v0, v1, v2, v3, v4] := by cases args; simp_all
  obtain ⟨rfl, rfl⟩ := trodVars_none hV
  have k0 := h0
  have lt0 : ∀ x ∈ p0, x.block < W.heap.size := by obtain ⟨m, hm⟩ := k0; exact DataW.trod_lt m _ _ _ hm
  obtain ⟨s0, t0, rfl, g0⟩ := open_desc (hval 0 27 v0 rfl rfl) h0
  have k1 := h1
  have lt1 : ∀ x ∈ p1, x.block < W.heap.size := by obtain ⟨m, hm⟩ := k1; exact DataW.trod_lt m _ _ _ hm
  obtain ⟨A1, n1, c1, zs1, rfl, g1⟩ := open_intl (hval 1 28 v1 rfl rfl) h1
  have k2 := h2
  have lt2 : ∀ x ∈ p2, x.block < W.heap.size := by obtain ⟨m, hm⟩ := k2; exact DataW.trod_lt m _ _ _ hm
  obtain ⟨A2, n2, c2, F2, m2, dd2, Dl2, Vl2, rfl, g2⟩ := open_mem (hval 2 31 v2 rfl rfl) h2
  have k3 := h3
  have lt3 : ∀ x ∈ p3, x.block < W.heap.size := by obtain ⟨m, hm⟩ := k3; exact DataW.trod_lt m _ _ _ hm
  obtain ⟨A3, n3, c3, F3, m3, dd3, Dl3, Vl3, rfl, g3⟩ := open_mem (hval 3 31 v3 rfl rfl) h3
  obtain ⟨a4, rfl, rfl, rfl, w4⟩ := open_int Tryz.underlying3 (hval 4 3 v4 rfl rfl) h4
  clear hA0 hval0
  refine (walk_EvalSteps W g0 g1 g2 g3 a4 (wf64 w4) hT).mono fun e W' ⟨he, bel⟩ => ?_
  subst he
  exact ⟨_, rfl, _, _, _, [], _, [], hW', trodAll_mk1 (shut_bool Tryz.underlying4 _), (trodAll_cons_mk (Below.trod laidOut (by kernel_rfl) (of_decide_eq_true (by kernel_rfl)) k0 bel lt0) (trodAll_cons_mk (Below.trod laidOut (by kernel_rfl) (of_decide_eq_true (by kernel_rfl)) k1 bel lt1) (trodAll_cons_mk (Below.trod laidOut (by kernel_rfl) (of_decide_eq_true (by kernel_rfl)) k2 bel lt2) (trodAll_cons_mk (Below.trod laidOut (by kernel_rfl) (of_decide_eq_true (by kernel_rfl)) k3 bel lt3) (trodAll_cons_mk (shut_int Tryz.underlying3 w4) trodAll_mk0))))), rfl, bel.frame _, fun h => by cases h⟩

theorem said : Rows.EvalStepsSaid :=
  OpenClaim.holds_of_cond 3 Tryz.f3 rfl rfl rfl rfl rfl rfl rfl ⟨rfl, rfl, rfl, rfl, rfl⟩ rfl rfl rfl rfl rfl (by kernel_rfl) Tryz.func3 (by kernel_rfl)
    (of_decide_eq_true (by kernel_rfl)) (by unfold Func.isWrapper; first | (rw [if_pos (by decide +kernel)]; kernel_rfl) | (rw [if_neg (by decide +kernel)]; exact ⟨rfl, rfl⟩))
    (fun os started H enc _ F => by rw [OpenClaim.pre_eq_preRow]; exact lifted os started H enc F)
theorem plain (f : FuncId) (fn : Func) (hf : Tryz.pinned.checked.prog.funcNamed "trefoil/trefoillaw08.EvalSteps" = some f) (hfn : Tryz.pinned.checked.prog.funcs[f]? = some fn) :
    false = Tryz.pinned.checked.prog.looks [] ∧ ∀ (j : Nat) t, fn.params[j]? = some t → Tryz.pinned.checked.prog.wantsStandIn t = false := by
  obtain rfl : f = 3 := Option.some.inj ((show Tryz.prog.funcNamed "trefoil/trefoillaw08.EvalSteps" = some 3 by kernel_rfl).symm.trans hf) |>.symm
  obtain rfl : fn = Tryz.f3 := (Option.some.inj (Tryz.func3.symm.trans hfn)).symm
  refine ⟨by kernel_rfl, fun j t ht => ?_⟩
  rw [Tryz.params3] at ht
  rcases (show t = 27 ∨ t = 28 ∨ t = 31 ∨ t = 3 by simpa using Array.mem_of_getElem? ht) with rfl | rfl | rfl | rfl
  · exact (show Tryz.prog.wantsStandIn 27 = false by kernel_rfl)
  · exact (show Tryz.prog.wantsStandIn 28 = false by kernel_rfl)
  · exact (show Tryz.prog.wantsStandIn 31 = false by kernel_rfl)
  · exact (show Tryz.prog.wantsStandIn 3 = false by kernel_rfl)

theorem card : Rows.EvalStepsCardSaid :=
  Claim7.holds_tied_plain_at .later [] _ _ _ _ said (fun _ h => by cases h) (by kernel_rfl) (fun _ h => by cases h) evalSteps_row_tie rfl ⟨rfl, rfl⟩ (by kernel_rfl) rfl plain (by kernel_rfl)
end Go.Proofs.YtkmajhbfmdoamaaGreatDoor.evalSteps
