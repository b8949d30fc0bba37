/- The boxes of layer 11's law over a graph and two crews, in the seat YtmmogdccjiagnaaDoor. No statement is proved here. -/
import Derived.Test.YtmmogdccjiagnaaDoorZM28
set_option linter.unusedSimpArgs false
set_option linter.unusedVariables false
namespace Go.Proofs.YtmmogdccjiagnaaDoor
open Go Go.RowKit

/-- The boxes alone. -/
structure BxK3 (w0 : World) (A : Option Addr) (n c : Nat) (F : Option Addr) (m d : Nat) (A' : Option Addr) (n' c' : Nat) (F' : Option Addr) (m' d' : Nat) (Ap : Option Addr) (np cp : Nat) (Fp : Option Addr) (mp dp : Nat) (w : World) : Prop where
  bel : Below w0.heap.size w0 w
  lt : w0.heap.size + 1 + 1 < w.heap.size
  d0 : w.cell? ⟨w0.heap.size, 0, none⟩ = some (.slice A n c)
  d1 : w.cell? ⟨w0.heap.size, 1, none⟩ = some (.slice F m d)
  c0 : w.cell? ⟨w0.heap.size + 1, 0, none⟩ = some (.slice A' n' c')
  c1 : w.cell? ⟨w0.heap.size + 1, 1, none⟩ = some (.slice F' m' d')
  o0 : w.cell? ⟨w0.heap.size + 1 + 1, 0, none⟩ = some (.slice Ap np cp)
  o1 : w.cell? ⟨w0.heap.size + 1 + 1, 1, none⟩ = some (.slice Fp mp dp)
/-- A graph and two crews in boxes. -/
structure BxD3 (w0 : World) (A : Option Addr) (n c : Nat) (F : Option Addr) (m d : Nat) (W : List Int) (E : List (Int × Int)) (A' : Option Addr) (n' c' : Nat) (F' : Option Addr) (m' d' : Nat) (O L : List Int) (Ap : Option Addr) (np cp : Nat) (Fp : Option Addr) (mp dp : Nat) (Op Lp : List Int) (w : World) : Prop where
  b : BxK3 w0 A n c F m d A' n' c' F' m' d' Ap np cp Fp mp dp w
  g0 : IsG w0 A n c F m d W E
  k0 : IsC w0 A' n' c' F' m' d' O L
  p0 : IsC w0 Ap np cp Fp mp dp Op Lp
section
variable {w0 w w' : World} {A : Option Addr} {n c : Nat} {F : Option Addr} {m d : Nat} {W : List Int} {E : List (Int × Int)} {A' : Option Addr} {n' c' : Nat} {F' : Option Addr} {m' d' : Nat} {O L : List Int} {Ap : Option Addr} {np cp : Nat} {Fp : Option Addr} {mp dp : Nat} {Op Lp : List Int}
theorem BxK3.next (h : BxK3 w0 A n c F m d A' n' c' F' m' d' Ap np cp Fp mp dp w) (hb : Below w.heap.size w w') : BxK3 w0 A n c F m d A' n' c' F' m' d' Ap np cp Fp mp dp w' := by
  have h2 := h.lt
  have h1 : w0.heap.size + 1 < w.heap.size := by omega
  have h0 : w0.heap.size < w.heap.size := by omega
  exact ⟨h.bel.trans (hb.mono h.bel.size), Nat.lt_of_lt_of_le h.lt hb.size, (hb.cell h0).trans h.d0, (hb.cell h0).trans h.d1, (hb.cell h1).trans h.c0, (hb.cell h1).trans h.c1, (hb.cell h2).trans h.o0, (hb.cell h2).trans h.o1⟩
theorem BxK3.start {w : World} : BxK3 w A n c F m d A' n' c' F' m' d' Ap np cp Fp mp dp (((w.alloc (.cells #[.slice A n c, .slice F m d] 25)).alloc (.cells #[.slice A' n' c', .slice F' m' d'] 27)).alloc (.cells #[.slice Ap np cp, .slice Fp mp dp] 27)) := by
  have h := BxDK.start (w := w) (A := A) (n := n) (c := c) (F := F) (m := m) (d := d) (A' := A') (n' := n') (c' := c') (F' := F') (m' := m') (d' := d')
  obtain ⟨w1, hw1⟩ : ∃ w1, w1 = (w.alloc (.cells #[.slice A n c, .slice F m d] 25)).alloc (.cells #[.slice A' n' c', .slice F' m' d'] 27) := ⟨_, rfl⟩
  have s1 : w1.heap.size = w.heap.size + 1 + 1 := by rw [hw1]; simp
  rw [← hw1] at h ⊢
  have hb : Below w1.heap.size w1 (w1.alloc (.cells #[.slice Ap np cp, .slice Fp mp dp] 27)) := below_alloc _
  have h2 := h.next hb
  refine ⟨h2.bel, by simp [s1], h2.d0, h2.d1, h2.c0, h2.c1, ?_, ?_⟩
  · rw [World.cell?_alloc_at _ _ _ _ s1.symm]; rfl
  · rw [World.cell?_alloc_at _ _ _ _ s1.symm]; rfl
theorem BxK3.cells (h : BxK3 w0 A n c F m d A' n' c' F' m' d' Ap np cp Fp mp dp w) : w.cell? ⟨w0.heap.size, 0, none⟩ = some (.slice A n c) ∧ w.cell? ⟨w0.heap.size, 1, none⟩ = some (.slice F m d) ∧ w.cell? ⟨w0.heap.size + 1, 0, none⟩ = some (.slice A' n' c') ∧ w.cell? ⟨w0.heap.size + 1, 1, none⟩ = some (.slice F' m' d') ∧ w.cell? ⟨w0.heap.size + 1 + 1, 0, none⟩ = some (.slice Ap np cp) ∧ w.cell? ⟨w0.heap.size + 1 + 1, 1, none⟩ = some (.slice Fp mp dp) := ⟨h.d0, h.d1, h.c0, h.c1, h.o0, h.o1⟩
theorem BxD3.next (h : BxD3 w0 A n c F m d W E A' n' c' F' m' d' O L Ap np cp Fp mp dp Op Lp w) (hb : Below w.heap.size w w') : BxD3 w0 A n c F m d W E A' n' c' F' m' d' O L Ap np cp Fp mp dp Op Lp w' := ⟨h.b.next hb, h.g0, h.k0, h.p0⟩
theorem BxD3.d0 (h : BxD3 w0 A n c F m d W E A' n' c' F' m' d' O L Ap np cp Fp mp dp Op Lp w) : w.cell? ⟨w0.heap.size, 0, none⟩ = some (.slice A n c) := h.b.d0
theorem BxD3.d1 (h : BxD3 w0 A n c F m d W E A' n' c' F' m' d' O L Ap np cp Fp mp dp Op Lp w) : w.cell? ⟨w0.heap.size, 1, none⟩ = some (.slice F m d) := h.b.d1
theorem BxD3.c0 (h : BxD3 w0 A n c F m d W E A' n' c' F' m' d' O L Ap np cp Fp mp dp Op Lp w) : w.cell? ⟨w0.heap.size + 1, 0, none⟩ = some (.slice A' n' c') := h.b.c0
theorem BxD3.c1 (h : BxD3 w0 A n c F m d W E A' n' c' F' m' d' O L Ap np cp Fp mp dp Op Lp w) : w.cell? ⟨w0.heap.size + 1, 1, none⟩ = some (.slice F' m' d') := h.b.c1
theorem BxD3.o0 (h : BxD3 w0 A n c F m d W E A' n' c' F' m' d' O L Ap np cp Fp mp dp Op Lp w) : w.cell? ⟨w0.heap.size + 1 + 1, 0, none⟩ = some (.slice Ap np cp) := h.b.o0
theorem BxD3.o1 (h : BxD3 w0 A n c F m d W E A' n' c' F' m' d' O L Ap np cp Fp mp dp Op Lp w) : w.cell? ⟨w0.heap.size + 1 + 1, 1, none⟩ = some (.slice Fp mp dp) := h.b.o1
theorem BxD3.g (h : BxD3 w0 A n c F m d W E A' n' c' F' m' d' O L Ap np cp Fp mp dp Op Lp w) : IsG w A n c F m d W E := h.g0.below h.b.bel
theorem BxD3.k (h : BxD3 w0 A n c F m d W E A' n' c' F' m' d' O L Ap np cp Fp mp dp Op Lp w) : IsC w A' n' c' F' m' d' O L := h.k0.below h.b.bel
theorem BxD3.p (h : BxD3 w0 A n c F m d W E A' n' c' F' m' d' O L Ap np cp Fp mp dp Op Lp w) : IsC w Ap np cp Fp mp dp Op Lp := h.p0.below h.b.bel
end
/-- A variable of a crew. -/
structure RowK (g : Nat) (A : Option Addr) (n c : Nat) (F : Option Addr) (m d : Nat) (O L : List Int) (y : World) : Prop where
  x : y.heap[g]? = some (.cells #[.slice A n c, .slice F m d] 27 (0, 0))
  k : IsC y A n c F m d O L
section
variable {g : Nat} {A : Option Addr} {n c : Nat} {F : Option Addr} {m d : Nat} {O L : List Int} {y z : World}
theorem RowK.below (h : RowK g A n c F m d O L y) (hb : Below y.heap.size y z) : RowK g A n c F m d O L z := ⟨by rw [hb.block _ (Array.getElem?_eq_some_iff.1 h.x).1]; exact h.x, h.k.below hb⟩
theorem RowK.x0 (h : RowK g A n c F m d O L y) : y.cell? ⟨g, 0, none⟩ = some (.slice A n c) := by rw [cell_of_row _ _ _ _ _ _ h.x]; rfl
theorem RowK.x1 (h : RowK g A n c F m d O L y) : y.cell? ⟨g, 1, none⟩ = some (.slice F m d) := by rw [cell_of_row _ _ _ _ _ _ h.x]; rfl
end
/-- A list of so many numbers. -/
def GRl (k : Nat) (R : List Int) (v : Value) (w : World) : Prop := ∃ A c, v = .slice A k c ∧ Ints w w.heap.size A R
theorem GRl.below {k : Nat} {R : List Int} {v : Value} {w w' : World} (h : GRl k R v w) (hb : Below w.heap.size w w') : GRl k R v w' := by
  obtain ⟨A, c, h1, h2⟩ := h
  exact ⟨A, c, h1, (h2.below hb).more hb.size⟩
theorem ints_eq {w : World} {A1 A2 : Option Addr} {c1 c2 k : Nat} {R : List Int} (hk : R.length = k) (hl : k ≤ 400) (h1 : Ints w w.heap.size A1 R) (h2 : Ints w w.heap.size A2 R) :
    Calls Tryd.prog 22 #[.slice A1 k c1, .slice A2 k c2] w fun e w' => e = .returned (.bool true) ∧ Below w.heap.size w w' := by
  subst hk
  refine (ints_any w.heap.size A1 A2 c1 c2 R R w (by omega) (by omega) h1 h2).mono ?_
  rintro e w' ⟨rfl, N, rfl⟩
  exact ⟨by simp, below_drewN (Below.refl _ _) N⟩
theorem rsame_eq {w : World} {A : Option Addr} {n c : Nat} {F : Option Addr} {m d : Nat} {O L : List Int} {A' : Option Addr} {n' c' : Nat} {F' : Option Addr} {m' d' : Nat} (h : IsC w A n c F m d O L) (h' : IsC w A' n' c' F' m' d' O L) :
    Calls Tryd.prog 19 #[.agg #[.slice A n c, .slice F m d], .agg #[.slice A' n' c', .slice F' m' d']] w fun e w' => e = .returned (.bool true) ∧ Below w.heap.size w w' := by
  refine (rsameC_any w h h').mono ?_
  rintro e w' ⟨rfl, hb⟩
  exact ⟨by simp, hb⟩
section
variable {A : Option Addr} {n c : Nat} {F : Option Addr} {m d : Nat} {W : List Int} {E : List (Int × Int)} {A' : Option Addr} {n' c' : Nat} {F' : Option Addr} {m' d' : Nat} {O L : List Int} {Ap : Option Addr} {np cp : Nat} {Fp : Option Addr} {mp dp : Nat} {Op Lp : List Int}
set_option maxRecDepth 100000 in
theorem steps_many (K : ListOk) (w0 : World) (hT : Tab64 w0) (hg : InG w0 A n c F m d W E) (hc : InC w0 A' n' c' F' m' d' O L) (ho : InC w0 Ap np cp Fp mp dp Op Lp) (h : ¬ (((n ≤ 70 ∧ m ≤ 300) ∧ n' ≤ 12 ∧ m' ≤ 70) ∧ ((n ≤ 70 ∧ m ≤ 300) ∧ np ≤ 12 ∧ mp ≤ 70))) :
    Calls Tryd.prog 3 #[.agg #[.slice A n c, .slice F m d], .agg #[.slice A' n' c', .slice F' m' d'], .agg #[.slice Ap np cp, .slice Fp mp dp]] w0 fun e w' => e = .returned (.bool true) ∧ Below w0.heap.size w0 w' := by
  have HK := Lib.hid K
  have HTW := Lib.hid (fun W (h : Below w0.heap.size w0 W) => Tab64.via hT h)
  have B0 := Lib.hid (BxK3.start (w := w0) (A := A) (n := n) (c := c) (F := F) (m := m) (d := d) (A' := A') (n' := n') (c' := c') (F' := F') (m' := m') (d' := d') (Ap := Ap) (np := np) (cp := cp) (Fp := Fp) (mp := mp) (dp := dp))
  by_cases h1 : (n ≤ 70 ∧ m ≤ 300) ∧ n' ≤ 12 ∧ m' ≤ 70
  · have h2 : ¬ ((n ≤ 70 ∧ m ≤ 300) ∧ np ≤ 12 ∧ mp ≤ 70) := fun q => h ⟨h1, q⟩
    have F1 := Lib.hid (fun W => fewC_any (A := A) (n := n) (c := c) (F := F) (m := m) (d := d) (A' := A') (n' := n') (c' := c') (F' := F') (m' := m') (d' := d') W true ⟨fun _ => h1, fun _ => rfl⟩ hg.ln hg.lm hc.ln hc.lm)
    have F2 := Lib.hid (fun W => fewC_any (A := A) (n := n) (c := c) (F := F) (m := m) (d := d) (A' := Ap) (n' := np) (c' := cp) (F' := Fp) (m' := mp) (d' := dp) W false ⟨fun e => (by cases e), fun e => absurd e h2⟩ hg.ln hg.lm ho.ln ho.lm)
    clear hg hc ho h hT K h1 h2
    go_enter Tryd.func3, Tryd.ntmps3
    go_wp2_with fail
    refine (awakeC_any HK.out _ (HTW.out _ B0.out.bel)).mono ?_
    rintro e y1 ⟨rfl, b⟩
    have B1 := Lib.hid (B0.out.next b)
    clear b B0
    obtain ⟨q0, q1, q2, q3, q4, q5⟩ := B1.out.cells
    go_wp2_with fail
    refine (F1.out _).mono ?_
    rintro e y2 ⟨rfl, b⟩
    have B2 := Lib.hid (B1.out.next b)
    clear b q0 q1 q2 q3 q4 q5 B1 F1
    obtain ⟨q0, q1, q2, q3, q4, q5⟩ := B2.out.cells
    go_wp2_with fail
    refine (F2.out _).mono ?_
    rintro e y3 ⟨rfl, b⟩
    have B3 := Lib.hid (B2.out.next b)
    clear b q0 q1 q2 q3 q4 q5 B2 F2
    go_wp2_with fail
    refine (awakeC_any HK.out _ (HTW.out _ B3.out.bel)).mono ?_
    rintro e y4 ⟨rfl, b⟩
    have B4 := Lib.hid (B3.out.next b)
    clear b
    go_wp2_with fail
    go_ret
    exact ⟨rfl, B4.out.bel⟩
  · have F1 := Lib.hid (fun W => fewC_any (A := A) (n := n) (c := c) (F := F) (m := m) (d := d) (A' := A') (n' := n') (c' := c') (F' := F') (m' := m') (d' := d') W false ⟨fun e => (by cases e), fun e => absurd e h1⟩ hg.ln hg.lm hc.ln hc.lm)
    clear hg hc ho h hT K h1
    go_enter Tryd.func3, Tryd.ntmps3
    go_wp2_with fail
    refine (awakeC_any HK.out _ (HTW.out _ B0.out.bel)).mono ?_
    rintro e y1 ⟨rfl, b⟩
    have B1 := Lib.hid (B0.out.next b)
    clear b B0
    obtain ⟨q0, q1, q2, q3, q4, q5⟩ := B1.out.cells
    go_wp2_with fail
    refine (F1.out _).mono ?_
    rintro e y2 ⟨rfl, b⟩
    have B2 := Lib.hid (B1.out.next b)
    clear b q0 q1 q2 q3 q4 q5 B1 F1
    go_wp2_with fail
    refine (awakeC_any HK.out _ (HTW.out _ B2.out.bel)).mono ?_
    rintro e y4 ⟨rfl, b⟩
    have B4 := Lib.hid (B2.out.next b)
    clear b
    go_wp2_with fail
    go_ret
    exact ⟨rfl, B4.out.bel⟩
end
end Go.Proofs.YtmmogdccjiagnaaDoor
