/- A crew as a row hands it over; the boxes of layer 11's laws over a graph and a crew; what a region over their copies has yielded, in the seat YtmmogdccjiagnaaDoor.
   What layer 11's rows hand over: a crew, beside a graph and needs, in the seat YtmmogdccjiagnaaDoor.
   The boxes of layer 11's laws over a graph and a crew, once a crew has been told into a variable; a number of a list by its place, in the seat YtmmogdccjiagnaaDoor.
   As Stored2; what R names is known of the world at hand behind the store, too (the store must keep it), in the seat YtmmogdccjiagnaaDoor.
   As Facts, where an operation whose guard was itself skipped is skipped too, in the seat YtmmogdccjiagnaaDoor.
   No statement is proved here. -/
import Derived.Test.YtmmogdccjiagnaaDoorZM22
import Derived.Test.YtmmogdccjiagnaaDoorZM27
import Derived.Test.YtmmogdccjiagnaaDoorZM2
import Derived.Test.YtmmogdccjiagnaaDoorZM4
import Derived.Test.YtmmogdccjiagnaaDoorZM14
set_option linter.unusedSimpArgs false
set_option linter.unusedVariables false
namespace Go.Proofs.YtmmogdccjiagnaaDoor
open Go Go.RowKit

/-- A crew as a row gives it: of any length. -/
structure InC (w : World) (A : Option Addr) (n c : Nat) (F : Option Addr) (m d : Nat) (O L : List Int) : Prop where
  hn : O.length = n
  hm : L.length = m
  ln : n ≤ 9223372036854775807
  lm : m ≤ 9223372036854775807
  on : Ints w w.heap.size A O
  left : Ints w w.heap.size F L
  hA : A = none → n = 0 ∧ c = 0
  hF : F = none → m = 0 ∧ d = 0
  cA : n ≤ c
theorem InC.isC {w : World} {A : Option Addr} {n c : Nat} {F : Option Addr} {m d : Nat} {O L : List Int} (h : InC w A n c F m d O L) (l1 : n ≤ 12) (l2 : m ≤ 70) : IsC w A n c F m d O L :=
  ⟨h.hn, h.hm, by omega, by omega, h.on, h.left, h.hA, h.hF, h.cA⟩
/-- The boxes alone. -/
structure BxDK (w0 : World) (A : Option Addr) (n c : Nat) (F : Option Addr) (m d : Nat) (A' : Option Addr) (n' c' : Nat) (F' : Option Addr) (m' d' : Nat) (w : World) : Prop where
  bel : Below w0.heap.size w0 w
  lt : w0.heap.size + 1 < w.heap.size
  d0 : w.cell? ⟨w0.heap.size, 0, none⟩ = some (.slice A n c)
  d1 : w.cell? ⟨w0.heap.size, 1, none⟩ = some (.slice F m d)
  c0 : w.cell? ⟨w0.heap.size + 1, 0, none⟩ = some (.slice A' n' c')
  c1 : w.cell? ⟨w0.heap.size + 1, 1, none⟩ = some (.slice F' m' d')
section
variable {A : Option Addr} {n c : Nat} {F : Option Addr} {m d : Nat} {A' : Option Addr} {n' c' : Nat} {F' : Option Addr} {m' d' : Nat}
theorem BxDK.next {w0 w w' : World} (h : BxDK w0 A n c F m d A' n' c' F' m' d' w) (hb : Below w.heap.size w w') : BxDK w0 A n c F m d A' n' c' F' m' d' w' := by
  have h0 : w0.heap.size < w.heap.size := Nat.lt_of_succ_lt h.lt
  exact ⟨h.bel.trans (hb.mono h.bel.size), Nat.lt_of_lt_of_le h.lt hb.size, (hb.cell h0).trans h.d0, (hb.cell h0).trans h.d1, (hb.cell h.lt).trans h.c0, (hb.cell h.lt).trans h.c1⟩
theorem BxDK.cells {w0 w : World} (h : BxDK w0 A n c F m d A' n' c' F' m' d' w) : w.cell? ⟨w0.heap.size, 0, none⟩ = some (.slice A n c) ∧ w.cell? ⟨w0.heap.size, 1, none⟩ = some (.slice F m d) ∧ w.cell? ⟨w0.heap.size + 1, 0, none⟩ = some (.slice A' n' c') ∧ w.cell? ⟨w0.heap.size + 1, 1, none⟩ = some (.slice F' m' d') := ⟨h.d0, h.d1, h.c0, h.c1⟩
theorem BxDK.start {w : World} : BxDK w A n c F m d A' n' c' F' m' d' ((w.alloc (.cells #[.slice A n c, .slice F m d] 25)).alloc (.cells #[.slice A' n' c', .slice F' m' d'] 27)) := by
  obtain ⟨w0, hw0⟩ : ∃ w0, w0 = w.alloc (.cells #[.slice A n c, .slice F m d] 25) := ⟨_, rfl⟩
  have hs : w0.heap.size = w.heap.size + 1 := by rw [hw0]; simp
  have hb0 : Below w.heap.size w w0 := by rw [hw0]; exact below_alloc _
  rw [← hw0]
  have hb : Below w.heap.size w (w0.alloc (.cells #[.slice A' n' c', .slice F' m' d'] 27)) := hb0.trans ((below_alloc (w := w0) _).mono (by omega))
  have e0 : ∀ j, (w0.alloc (.cells #[.slice A' n' c', .slice F' m' d'] 27)).cell? ⟨w.heap.size, j, none⟩ = w0.cell? ⟨w.heap.size, j, none⟩ := fun j => World.cell?_alloc_lt _ _ _ (by show w.heap.size < w0.heap.size; omega)
  refine ⟨hb, by simp [hs], ?_, ?_, ?_, ?_⟩
  · rw [e0, hw0, World.cell?_alloc_at _ _ _ _ rfl]; rfl
  · rw [e0, hw0, World.cell?_alloc_at _ _ _ _ rfl]; rfl
  · rw [World.cell?_alloc_at _ _ _ _ hs.symm]; rfl
  · rw [World.cell?_alloc_at _ _ _ _ hs.symm]; rfl
section
variable {W : List Int} {E : List (Int × Int)} {O L : List Int}
theorem fill_many (K : ListOk) (w0 : World) (hT : Tab64 w0) (hg : InG w0 A n c F m d W E) (hc : InC w0 A' n' c' F' m' d' O L) (h : ¬ ((n ≤ 70 ∧ m ≤ 300) ∧ n' ≤ 12 ∧ m' ≤ 70)) :
    Calls Tryd.prog 6 #[.agg #[.slice A n c, .slice F m d], .agg #[.slice A' n' c', .slice F' m' d']] w0 fun e w' => e = .returned (.bool true) ∧ Below w0.heap.size w0 w' := by
  have HK := Lib.hid K
  have HTW := Lib.hid (fun W (h : Below w0.heap.size w0 W) => Tab64.via hT h)
  have B0 := Lib.hid (BxDK.start (w := w0) (A := A) (n := n) (c := c) (F := F) (m := m) (d := d) (A' := A') (n' := n') (c' := c') (F' := F') (m' := m') (d' := d'))
  have F1 := Lib.hid (fun W => fewC_any (A := A) (n := n) (c := c) (F := F) (m := m) (d := d) (A' := A') (n' := n') (c' := c') (F' := F') (m' := m') (d' := d') W false ⟨fun e => (by cases e), fun e => absurd e h⟩ hg.ln hg.lm hc.ln hc.lm)
  clear hg hc h hT K
  go_enter Tryd.func6, Tryd.ntmps6
  go_wp2_with fail
  refine (awakeC_any HK.out _ (HTW.out _ B0.out.bel)).mono ?_
  rintro e y1 ⟨rfl, b⟩
  have B1 := Lib.hid (B0.out.next b)
  clear b
  obtain ⟨q0, q1, q2, q3⟩ := B1.out.cells
  go_wp2_with fail
  refine (F1.out _).mono ?_
  rintro e y2 ⟨rfl, b⟩
  have B2 := Lib.hid (B1.out.next b)
  clear b q0 q1 q2 q3
  go_wp2_with fail
  refine (awakeC_any HK.out _ (HTW.out _ B2.out.bel)).mono ?_
  rintro e y3 ⟨rfl, b⟩
  have B3 := Lib.hid (B2.out.next b)
  clear b
  go_wp2_with fail
  go_ret
  exact ⟨rfl, B3.out.bel⟩
theorem tick_many (K : ListOk) (w0 : World) (hT : Tab64 w0) (hg : InG w0 A n c F m d W E) (hc : InC w0 A' n' c' F' m' d' O L) (h : ¬ ((n ≤ 70 ∧ m ≤ 300) ∧ n' ≤ 12 ∧ m' ≤ 70)) :
    Calls Tryd.prog 7 #[.agg #[.slice A n c, .slice F m d], .agg #[.slice A' n' c', .slice F' m' d']] w0 fun e w' => e = .returned (.bool true) ∧ Below w0.heap.size w0 w' := by
  have HK := Lib.hid K
  have HTW := Lib.hid (fun W (h : Below w0.heap.size w0 W) => Tab64.via hT h)
  have B0 := Lib.hid (BxDK.start (w := w0) (A := A) (n := n) (c := c) (F := F) (m := m) (d := d) (A' := A') (n' := n') (c' := c') (F' := F') (m' := m') (d' := d'))
  have F1 := Lib.hid (fun W => fewC_any (A := A) (n := n) (c := c) (F := F) (m := m) (d := d) (A' := A') (n' := n') (c' := c') (F' := F') (m' := m') (d' := d') W false ⟨fun e => (by cases e), fun e => absurd e h⟩ hg.ln hg.lm hc.ln hc.lm)
  clear hg hc h hT K
  go_enter Tryd.func7, Tryd.ntmps7
  go_wp2_with fail
  refine (awakeC_any HK.out _ (HTW.out _ B0.out.bel)).mono ?_
  rintro e y1 ⟨rfl, b⟩
  have B1 := Lib.hid (B0.out.next b)
  clear b
  obtain ⟨q0, q1, q2, q3⟩ := B1.out.cells
  go_wp2_with fail
  refine (F1.out _).mono ?_
  rintro e y2 ⟨rfl, b⟩
  have B2 := Lib.hid (B1.out.next b)
  clear b q0 q1 q2 q3
  go_wp2_with fail
  refine (awakeC_any HK.out _ (HTW.out _ B2.out.bel)).mono ?_
  rintro e y3 ⟨rfl, b⟩
  have B3 := Lib.hid (B2.out.next b)
  clear b
  go_wp2_with fail
  go_ret
  exact ⟨rfl, B3.out.bel⟩
end
end
/-- What the operations of a region over copies of a graph and a crew have yielded. -/
def GDl (n m : Nat) (W : List Int) (E : List (Int × Int)) (v : Value) (w : World) : Prop := ∃ A c F d, v = .agg #[.slice A n c, .slice F m d] ∧ IsG w A n c F m d W E
def GCl (n m : Nat) (O L : List Int) (v : Value) (w : World) : Prop := ∃ A c F d, v = .agg #[.slice A n c, .slice F m d] ∧ IsC w A n c F m d O L
def GTu (O L : List Int) (e : Int) (v : Value) (w : World) : Prop := ∃ A n c F m d, v = .tuple #[.agg #[.slice A n c, .slice F m d], .int .i64 e] ∧ IsC w A n c F m d O L
def GTl (O L D : List Int) (e : Int) (v : Value) (w : World) : Prop := ∃ A n c F m d A' c', v = .tuple #[.agg #[.slice A n c, .slice F m d], .slice A' D.length c', .int .i64 e] ∧ IsC w A n c F m d O L ∧ Ints w w.heap.size A' D
section
variable {n m : Nat} {W : List Int} {E : List (Int × Int)} {O L D : List Int} {e : Int} {v : Value} {w w' : World}
theorem GDl.below (h : GDl n m W E v w) (hb : Below w.heap.size w w') : GDl n m W E v w' := by
  obtain ⟨A, c, F, d, h1, h2⟩ := h
  exact ⟨A, c, F, d, h1, h2.below hb⟩
theorem GCl.below (h : GCl n m O L v w) (hb : Below w.heap.size w w') : GCl n m O L v w' := by
  obtain ⟨A, c, F, d, h1, h2⟩ := h
  exact ⟨A, c, F, d, h1, h2.below hb⟩
theorem GTu.below (h : GTu O L e v w) (hb : Below w.heap.size w w') : GTu O L e v w' := by
  obtain ⟨A, n, c, F, m, d, h1, h2⟩ := h
  exact ⟨A, n, c, F, m, d, h1, h2.below hb⟩
theorem GTl.below (h : GTl O L D e v w) (hb : Below w.heap.size w w') : GTl O L D e v w' := by
  obtain ⟨A, n, c, F, m, d, A', c', h1, h2, h3⟩ := h
  exact ⟨A, n, c, F, m, d, A', c', h1, h2.below hb, (h3.below hb).more hb.size⟩
theorem KeepI.gtl (k : KeepI w w') (h : GTl O L D e v w) : GTl O L D e v w' := by
  obtain ⟨A, n, c, F, m, d, A', c', h1, h2, h3⟩ := h
  exact ⟨A, n, c, F, m, d, A', c', h1, k.isC h2, by rw [k.1]; exact k.2 _ _ _ h3⟩
theorem KeepI.gl (k : KeepI w w') (h : GotL D v w) : GotL D v w' := by
  obtain ⟨A, c, h1, h2⟩ := h
  exact ⟨A, c, h1, by rw [k.1]; exact k.2 _ _ _ h2⟩
end
end Go.Proofs.YtmmogdccjiagnaaDoor
set_option linter.unusedVariables false
namespace Go.Proofs.YtmmogdccjiagnaaDoor
open Go.ChangeShapes Go.WideShapes Go.ChangeAt Go.RowKit Go.Joins Go.Deep

set_option maxRecDepth 100000 in
/-- An argument that is a crew. -/
theorem open_crew {H : Type} {enc : TypeId × Value → H} {W : World} {base : Nat} {v : Value} {d : DataW H} {p : List MemPlace}
    (hv : Value.okWide Tryd.prog W .any base 27 v) (h : DataW.Trod enc Tryd.prog W 0 (fun _ => true) true 27 v d p) :
    ∃ A n c F m dd O L, v = .agg #[.slice A n c, .slice F m dd] ∧ InC W A n c F m dd O L := by
  obtain ⟨v0, v1, y0, y1, k, rfl, _, _, h0, h1⟩ := open_agg2 Tryd.underlying27 (by kernel_rfl) (by kernel_rfl) hv h
  obtain ⟨A, n, c, zs, e0, l0, m0, b0, s0, w0⟩ := open_intsS h0
  obtain ⟨F, m, dd, es, e1, l1, m1, b1, s1, w1⟩ := open_intsS h1
  simp at e0 e1
  subst e0 e1
  exact ⟨_, _, _, _, _, _, zs, es, rfl, ⟨l0, l1, b0, b1, m0, m1, w0, w1, s0⟩⟩
end Go.Proofs.YtmmogdccjiagnaaDoor
set_option linter.unusedVariables false
namespace Go.Proofs.YtmmogdccjiagnaaDoor
open Go Go.RowKit

theorem ints_cell {w : World} {B b off k : Nat} {zs : List Int} {z : Int} (h : Ints w B (some ⟨b, off, none⟩) zs) (hz : zs[k]? = some z) : w.cell? ⟨b, off + k, none⟩ = some (.int .i64 z) := by
  obtain ⟨hk, _⟩ := List.getElem?_eq_some_iff.1 hz
  obtain ⟨b', o', z', e, _, hz', hc⟩ := h.at_ (k := k) hk
  rw [hz] at hz'
  obtain rfl := Option.some.inj hz'
  injection e with e
  injection e with e1 e2
  subst e1 e2
  exact hc
/-- Where a list that isn't empty lies. -/
theorem ints_some {w : World} {B k : Nat} {A : Option Addr} {zs : List Int} (h : Ints w B A zs) (hk : k < zs.length) : ∃ b off, A = some ⟨b, off, none⟩ := by
  obtain ⟨b, off, _, e, _⟩ := h.at_ (k := k) hk
  exact ⟨b, off, e⟩
/-- A graph and a crew in boxes, a crew that was told in a variable. -/
structure BxFx (w0 : World) (A : Option Addr) (n c : Nat) (F : Option Addr) (m d : Nat) (W : List Int) (E : List (Int × Int)) (A' : Option Addr) (n' c' : Nat) (F' : Option Addr) (m' d' : Nat) (O L : List Int) (gx : Nat) (Ax : Option Addr) (cx : Nat) (Fx : Option Addr) (dx : Nat) (O2 L2 : List Int) (y : World) : Prop where
  b : BxDC w0 A n c F m d W E A' n' c' F' m' d' O L y
  x : y.heap[gx]? = some (.cells #[.slice Ax n' cx, .slice Fx m' dx] 27 (0, 0))
  k2 : IsC y Ax n' cx Fx m' dx O2 L2
section
variable {A : Option Addr} {n c : Nat} {F : Option Addr} {m d : Nat} {W : List Int} {E : List (Int × Int)} {A' : Option Addr} {n' c' : Nat} {F' : Option Addr} {m' d' : Nat} {O L : List Int} {gx : Nat} {Ax : Option Addr} {cx : Nat} {Fx : Option Addr} {dx : Nat} {O2 L2 : List Int} {w0 y z : World}
theorem BxFx.next (h : BxFx w0 A n c F m d W E A' n' c' F' m' d' O L gx Ax cx Fx dx O2 L2 y) (hb : Below y.heap.size y z) : BxFx w0 A n c F m d W E A' n' c' F' m' d' O L gx Ax cx Fx dx O2 L2 z :=
  ⟨h.b.next hb, by rw [hb.block _ (Array.getElem?_eq_some_iff.1 h.x).1]; exact h.x, h.k2.below hb⟩
theorem BxFx.x0 (h : BxFx w0 A n c F m d W E A' n' c' F' m' d' O L gx Ax cx Fx dx O2 L2 y) : y.cell? ⟨gx, 0, none⟩ = some (.slice Ax n' cx) := by rw [cell_of_row _ _ _ _ _ _ h.x]; rfl
theorem BxFx.x1 (h : BxFx w0 A n c F m d W E A' n' c' F' m' d' O L gx Ax cx Fx dx O2 L2 y) : y.cell? ⟨gx, 1, none⟩ = some (.slice Fx m' dx) := by rw [cell_of_row _ _ _ _ _ _ h.x]; rfl
end
/-- .. and a second one. -/
structure BxFy (w0 : World) (A : Option Addr) (n c : Nat) (F : Option Addr) (m d : Nat) (W : List Int) (E : List (Int × Int)) (A' : Option Addr) (n' c' : Nat) (F' : Option Addr) (m' d' : Nat) (O L : List Int) (gx : Nat) (Ax : Option Addr) (cx : Nat) (Fx : Option Addr) (dx : Nat) (O2 L2 : List Int) (gy : Nat) (Ay : Option Addr) (cy : Nat) (Fy : Option Addr) (dy : Nat) (y : World) : Prop where
  f : BxFx w0 A n c F m d W E A' n' c' F' m' d' O L gx Ax cx Fx dx O2 L2 y
  hy : y.heap[gy]? = some (.cells #[.slice Ay n' cy, .slice Fy m' dy] 27 (0, 0))
  k3 : IsC y Ay n' cy Fy m' dy O2 L2
section
variable {A : Option Addr} {n c : Nat} {F : Option Addr} {m d : Nat} {W : List Int} {E : List (Int × Int)} {A' : Option Addr} {n' c' : Nat} {F' : Option Addr} {m' d' : Nat} {O L : List Int} {gx : Nat} {Ax : Option Addr} {cx : Nat} {Fx : Option Addr} {dx : Nat} {O2 L2 : List Int} {gy : Nat} {Ay : Option Addr} {cy : Nat} {Fy : Option Addr} {dy : Nat} {w0 y z : World}
theorem BxFy.next (h : BxFy w0 A n c F m d W E A' n' c' F' m' d' O L gx Ax cx Fx dx O2 L2 gy Ay cy Fy dy y) (hb : Below y.heap.size y z) : BxFy w0 A n c F m d W E A' n' c' F' m' d' O L gx Ax cx Fx dx O2 L2 gy Ay cy Fy dy z :=
  ⟨h.f.next hb, by rw [hb.block _ (Array.getElem?_eq_some_iff.1 h.hy).1]; exact h.hy, h.k3.below hb⟩
theorem BxFy.y0 (h : BxFy w0 A n c F m d W E A' n' c' F' m' d' O L gx Ax cx Fx dx O2 L2 gy Ay cy Fy dy y) : y.cell? ⟨gy, 0, none⟩ = some (.slice Ay n' cy) := by rw [cell_of_row _ _ _ _ _ _ h.hy]; rfl
theorem BxFy.y1 (h : BxFy w0 A n c F m d W E A' n' c' F' m' d' O L gx Ax cx Fx dx O2 L2 gy Ay cy Fy dy y) : y.cell? ⟨gy, 1, none⟩ = some (.slice Fy m' dy) := by rw [cell_of_row _ _ _ _ _ _ h.hy]; rfl
end
def GSl (k : Nat) (v : Value) (_ : World) : Prop := ∃ A c, v = .slice A k c
/-- The lists of what is left are the same. -/
theorem left_same {A A' : Option Addr} {n n' c c' m d d' : Nat} {F F' : Option Addr} {O O' L : List Int} (w : World) (h : IsC w A n c F m d O L) (h' : IsC w A' n' c' F' m d' O' L) :
    Calls Tryd.prog 22 #[.slice F m d, .slice F' m d'] w fun e w' => e = .returned (.bool true) ∧ Below w.heap.size w w' := by
  have k := ints_any w.heap.size F F' d d' L L w (by rw [h.hm]; have := h.lm; omega) (by rw [h.hm]; have := h.lm; omega) h.left h'.left
  rw [h.hm] at k
  refine k.mono ?_
  rintro e w' ⟨rfl, N, rfl⟩
  exact ⟨by simp, below_drewN (Below.refl _ _) N⟩
theorem has_at {A : Option Addr} {n c m d : Nat} {F : Option Addr} {O L : List Int} (w : World) (h : IsC w A n c F m d O L) {x : Int} (hx : x ∉ O) (hl : n ≤ 12) :
    Calls Tryd.prog 35 #[.slice A n c, .int .i64 x] w fun e w' => e = .returned (.bool false) ∧ Below w.heap.size w w' := by
  refine (has_any A c O x w n h.hn (by omega) h.on).mono ?_
  rintro e w' ⟨rfl, rfl⟩
  exact ⟨by rw [decide_eq_false hx], Below.refl _ _⟩
theorem has_is {A : Option Addr} {c len : Nat} {zs : List Int} {x : Int} (w : World) (hI : Ints w w.heap.size A zs) (hn : zs.length = len) (hl : len ≤ 400) (b : Bool) (hb : x ∈ zs ↔ b = true) :
    Calls Tryd.prog 35 #[.slice A len c, .int .i64 x] w fun e w' => e = .returned (.bool b) ∧ Below w.heap.size w w' := by
  refine (has_any A c zs x w len hn (by omega) hI).mono ?_
  rintro e w' ⟨rfl, rfl⟩
  refine ⟨?_, Below.refl _ _⟩
  cases b with
  | true => rw [decide_eq_true (hb.mpr rfl)]
  | false => rw [decide_eq_false (fun h => by have := hb.mp h; cases this)]
/-- What a tick does to a node. -/
theorem tick_node {O L : List Int} {k : Nat} {z : Int} (h : L[k]? = some z) : (leftT O L)[k]? = some (z - if (k : Int) ∈ O then 1 else 0) ∧ ((k : Int) ∈ nums (doneT O L) ↔ (k : Int) ∈ O ∧ z = 1) := by
  obtain ⟨hk, hz⟩ := List.getElem?_eq_some_iff.1 h
  have h1 : leftC L (k : Int) = z := by rw [leftC_nat, List.getD_eq_getElem?_getD, h]; rfl
  refine ⟨?_, ?_⟩
  · have h2 := leftT_at (O := O) hk
    rw [leftC_nat, List.getD_eq_getElem?_getD, List.getElem?_eq_getElem (by rw [leftT_len]; exact hk)] at h2
    rw [List.getElem?_eq_getElem (by rw [leftT_len]; exact hk), ← h1]
    exact congrArg some h2
  · rw [mem_nums, mem_doneT, h1]
    exact ⟨fun q => q.2, fun q => ⟨hk, q⟩⟩
/-- What a tick does to a core. -/
theorem tick_core {n : Nat} {E : List (Int × Int)} {O L : List Int} {i : Nat} {y : Int} (hc : CrewOk n E O L) (h : O[i]? = some y) : (onT O L)[i]? = some (if y ≠ -1 ∧ leftC L y = 1 then -1 else y) ∧ (y ∈ nums (doneT O L) ↔ y ≠ -1 ∧ leftC L y = 1) ∧ (y = -1 ∨ 0 ≤ y) := by
  obtain ⟨hk, hz⟩ := List.getElem?_eq_some_iff.1 h
  have hm : y ∈ O := List.mem_of_getElem? h
  have hg : O.getD i 0 = y := by rw [List.getD_eq_getElem?_getD, h]; rfl
  refine ⟨?_, ?_, ?_⟩
  · have h2 := onT_at (L := L) hk
    rw [hg, List.getD_eq_getElem?_getD, List.getElem?_eq_getElem (by rw [onT_len]; exact hk)] at h2
    rw [List.getElem?_eq_getElem (by rw [onT_len]; exact hk)]
    exact congrArg some h2
  · rcases hc.on y hm with rfl | ⟨⟨h0, hn⟩, _⟩
    · refine ⟨fun q => ?_, fun q => absurd rfl q.1⟩
      obtain ⟨a, _, ha⟩ := List.mem_map.mp q
      exact absurd ha (by simp [Int.ofNat_eq_natCast])
    · obtain ⟨q, rfl⟩ : ∃ q : Nat, y = q := ⟨y.toNat, by omega⟩
      rw [mem_nums, mem_doneT]
      exact ⟨fun g => ⟨by omega, g.2.2⟩, fun g => ⟨by rw [hc.ln]; omega, hm, g.2⟩⟩
  · rcases hc.on y hm with h1 | h1
    · exact .inl h1
    · exact .inr h1.1.1
/-- What Fill tells, plainly: who runs runs on; nothing is ready then, or no core is idle; filled again it is the same. -/
theorem fill_facts {n : Nat} {E : List (Int × Int)} {O L : List Int} (h : CrewOk n E O L) : (fillC n E L O).length = O.length ∧ (∀ j, O.getD j 0 ≠ -1 → (fillC n E L O).getD j 0 = O.getD j 0) ∧
    (readyU n E (fillC n E L O) L = [] ∨ (-1) ∉ fillC n E L O) ∧ CrewOk n E (fillC n E L O) L ∧ fillC n E L (fillC n E L O) = fillC n E L O :=
  ⟨fillC_len n E L O, fun j hj => by unfold fillC; exact fillK_keep hj _, fillC_full, h.fill, fillC_again fillC_full⟩
end Go.Proofs.YtmmogdccjiagnaaDoor
set_option linter.unusedVariables false
namespace Go.Proofs.YtmmogdccjiagnaaDoor
open Go Go.RowKit

section
variable {P : Program} {ops : Array Oper} {Q : Exit → Act → World → Prop}
set_option maxHeartbeats 2000000 in
theorem wp_region_stored4 (p : Nat) (ds S R : List Nat) (base : Nat) {id : Nat} {a0 : Act} {w0 : World} (hm : P.follows .mixedOrders = true) (hG : storedB ops p ds S = true) (hsz : ∀ d ∈ ds, d < a0.tmps.size ∨ 1000 ≤ d)
    (I : World → Prop) (Φ : Nat → Value → World → Prop) (Θ : (Nat → Value) → World → Prop)
    (hI : ∀ w w', I w → Below w.heap.size w w' → I w') (hΦ : ∀ k v w w', Φ k v w → Below w.heap.size w w' → Φ k v w')
    (h0 : I { w0 with drawn := w0.drawn + 1 })
    (hstep : ∀ (k : Nat) (o : Oper), k ≠ p → k ∉ S → ops[k]? = some o → ∀ (a : Act) (w : World), I w → AtDoor a0 ds a.eval → (∀ e ∈ o.after, Region.binds .any e = true → Φ e.on (a.eval (.tmp (ds.getD e.on 0))) w) →
      ∀ K : Act → World → Prop, (∀ v w', Φ k v w' → Below w.heap.size w w' → K (a.put o.dst v) w') → o.wp P a w K Q)
    (hside : ∀ (k : Nat) (o : Oper), k ∈ S → ops[k]? = some o → ∀ (ρ : Operand → Value) (w : World), base ≤ w.heap.size → AtDoor a0 ds ρ → (∀ e ∈ o.after, Region.binds .any e = true → e.on ≠ p → ∃ w1, Φ e.on (ρ (.tmp (ds.getD e.on 0))) w1 ∧ (e.on ∈ R → w1 = w)) →
      ∃ v w', (execOp ρ o).run P w = .ok (.value v) w' ∧ Φ k v w' ∧ Below w.heap.size w w')
    (hstore : ∀ (o : Oper), ops[p]? = some o → ∀ (a : Act) (w : World), I w → AtDoor a0 ds a.eval → (∀ k, k < ds.length → k ≠ p → k ∉ S → Φ k (a.eval (.tmp (ds.getD k 0))) w) →
      ∀ K : Act → World → Prop, (∀ w', Θ (fun t => a.eval (.tmp t)) w' → base ≤ w'.heap.size → (∀ k, k ∈ R → ∀ v, Φ k v w → Φ k v w') → K a w') → o.wp P a w K Q)
    (hΘ : ∀ (f g : Nat → Value) w, (∀ k, k < ds.length → k ≠ p → k ∉ S → f (ds.getD k 0) = g (ds.getD k 0)) → Θ f w → Θ g w)
    (hΘb : ∀ (f : Nat → Value) w w', Θ f w → Below w.heap.size w w' → Θ f w') (hbase : base ≤ w0.heap.size)
    (hend : ∀ (vals : Nat → Value) (w : World), Θ vals w → (∀ k, k < ds.length → k ≠ p → ∃ w', Φ k (vals (ds.getD k 0)) w' ∧ (k ∈ R → w' = w)) → Q .normal ⟨(fillA a0 ds vals).toArray, a0.defers⟩ w) :
    (Code.region id ops true).wp P Q a0 w0 := by
  have G := stored_of hG
  refine wp_region_inv (fun l a w => l.size = ds.length ∧ AtDoor a0 ds a.eval ∧ a.tmps.size = a0.tmps.size ∧ a.defers = a0.defers ∧
    (∀ (i : Nat) (o : Oper), l.getD i false = true → ops[i]? = some o → ∀ e ∈ o.after, Region.binds .any e = true → l.getD e.on false = true) ∧
    base ≤ w.heap.size ∧
    ((l.getD p false = false ∧ I w ∧ ∀ k, k < ds.length → k ≠ p → l.getD k false = true → Φ k (a.eval (.tmp (ds.getD k 0))) w) ∨
     (l.getD p false = true ∧ Θ (fun t => a.eval (.tmp t)) w ∧ ∀ k, k < ds.length → k ≠ p → l.getD k false = true → ∃ w', Φ k (a.eval (.tmp (ds.getD k 0))) w' ∧ (k ∈ R → w' = w)))) hm ?_ ?_ ?_
  · have hno : ∀ k, ¬ (Array.replicate ops.size false).getD k false = true := fun k h => by
      by_cases h2 : k < ops.size <;> simp [h2] at h
    refine ⟨by rw [Array.size_replicate]; exact G.size, atDoor_start a0 ds, rfl, rfl, fun k o h => absurd h (hno k), hbase, .inl ⟨?_, h0, fun k hk hkp h => absurd h (hno k)⟩⟩
    cases h : (Array.replicate ops.size false).getD p false with
    | false => rfl
    | true => exact absurd h (hno p)
  · rintro l a w i ⟨hls, hAD, hasz, hadf, hcl, hbw, hV⟩ hi
    obtain ⟨hun, o, ho, hpre⟩ := mem_ready.1 hi
    have hilt : i < ops.size := (Array.getElem?_eq_some_iff.1 ho).1
    have hin : i < ds.length := by rw [← G.size]; exact hilt
    have hil : i < l.size := by omega
    have hun2 : l.getD i false = false := by
      cases h : l.getD i false with
      | false => rfl
      | true => simp [hil] at h hun; rw [h] at hun; cases hun
    have hcl2 : ∀ (k : Nat) (o' : Oper), (l.setIfInBounds i true).getD k false = true → ops[k]? = some o' → ∀ e ∈ o'.after, Region.binds .any e = true → (l.setIfInBounds i true).getD e.on false = true := fun k o' hk ho' e he hb => by
      refine (getD_set_iff hil).mpr (.inr ?_)
      rcases listed_set hk with h | h
      · subst h
        rw [ho] at ho'
        obtain rfl := Option.some.inj ho'
        exact hpre e he hb
      · exact hcl k o' h ho' e he hb
    have hls2 : (l.setIfInBounds i true).size = ds.length := by rw [Array.size_setIfInBounds]; exact hls
    refine wpOp_at ho (G.guard i o ho) ?_
    by_cases hip : i = p
    · subst hip
      rcases hV with ⟨hnl, hIw, hF⟩ | ⟨hnl, _⟩
      · have hall : ∀ k, k < ds.length → k ≠ i → k ∉ S → l.getD k false = true := fun k hk hkp hkS => waits_done hcl 12 i k (G.last k hk hkp hkS) (fun o' ho' e he hb => by
          rw [ho] at ho'
          obtain rfl := Option.some.inj ho'
          exact hpre e he hb)
        refine hstore o ho a w hIw hAD (fun k hk hkp hkS => hF k hk hkp (hall k hk hkp hkS)) _ fun w' hT hbw' hkeep => ?_
        refine ⟨hls2, hAD, hasz, hadf, hcl2, hbw', .inr ⟨(getD_set_iff hil).mpr (.inl rfl), hT, fun k hk hkp hkl => ?_⟩⟩
        have hf := hF k hk hkp ((listed_set hkl).resolve_left hkp)
        by_cases hkS : k ∈ R
        · exact ⟨w', hkeep k hkS _ hf, fun _ => rfl⟩
        · exact ⟨w, hf, fun h => absurd h hkS⟩
      · rw [hun2] at hnl; cases hnl
    · obtain ⟨hd, hdl⟩ := G.dst i o hip ho
      have hdm := fds_mem hin
      have hdz : ds.getD i 0 < a.tmps.size := by
        rcases hsz _ hdm with h | h
        · rw [hasz]; exact h
        · omega
      have hpl : ∀ b, l.getD p false = b → (l.setIfInBounds i true).getD p false = b := fun b hb => by
        cases h : (l.setIfInBounds i true).getD p false with
        | true =>
          rcases listed_set h with h2 | h2
          · exact absurd h2.symm hip
          · rw [← hb, h2]
        | false =>
          cases b with
          | false => rfl
          | true =>
            have := (getD_set_iff (k := p) hil).mpr (.inr hb)
            rw [h] at this; cases this
      have hsz2 : ∀ v, (a.put (some (ds.getD i 0)) v).tmps.size = a0.tmps.size := fun v => by
        show (a.tmps.setIfInBounds _ _).size = _
        rw [Array.size_setIfInBounds]; exact hasz
      rcases hV with ⟨hnl, hIw, hF⟩ | ⟨hnl, hT, hF⟩
      · have hdep : ∀ e ∈ o.after, Region.binds .any e = true → Φ e.on (a.eval (.tmp (ds.getD e.on 0))) w := fun e he hb => hF e.on (Nat.lt_trans (G.back i o ho e he hb) hin) (fun h => by
          have := hpre e he hb
          rw [h, hnl] at this; cases this) (hpre e he hb)
        have hnext : ∀ v w', Φ i v w' → Below w.heap.size w w' → (l.setIfInBounds i true).size = ds.length ∧ AtDoor a0 ds (a.put (some (ds.getD i 0)) v).eval ∧ (a.put (some (ds.getD i 0)) v).tmps.size = a0.tmps.size ∧ (a.put (some (ds.getD i 0)) v).defers = a0.defers ∧
            (∀ (k : Nat) (o' : Oper), (l.setIfInBounds i true).getD k false = true → ops[k]? = some o' → ∀ e ∈ o'.after, Region.binds .any e = true → (l.setIfInBounds i true).getD e.on false = true) ∧ base ≤ w'.heap.size ∧
            (((l.setIfInBounds i true).getD p false = false ∧ I w' ∧ ∀ k, k < ds.length → k ≠ p → (l.setIfInBounds i true).getD k false = true → Φ k ((a.put (some (ds.getD i 0)) v).eval (.tmp (ds.getD k 0))) w') ∨
             ((l.setIfInBounds i true).getD p false = true ∧ Θ (fun t => (a.put (some (ds.getD i 0)) v).eval (.tmp t)) w' ∧ ∀ k, k < ds.length → k ≠ p → (l.setIfInBounds i true).getD k false = true → ∃ w'', Φ k ((a.put (some (ds.getD i 0)) v).eval (.tmp (ds.getD k 0))) w'' ∧ (k ∈ R → w'' = w'))) := fun v w' hphi hb => by
          refine ⟨hls2, hAD.put hdm v, hsz2 v, hadf, hcl2, Nat.le_trans hbw hb.size, .inl ⟨hpl _ hnl, hI w w' hIw hb, fun k hk hkp hkl => ?_⟩⟩
          by_cases hki : k = i
          · subst hki
            rw [eval_put_same _ _ _ hdz]
            exact hphi
          · rw [eval_put_other _ _ _ _ (fun e => hki (fds_inj G.nodup hk hin e))]
            exact hΦ k _ _ _ (hF k hk hkp ((listed_set hkl).resolve_left hki)) hb
        by_cases hiS : i ∈ S
        · obtain ⟨v, w', hr, hphi, hbel⟩ := hside i o hiS ho a.eval w hbw hAD (fun e he hb _ => ⟨w, hdep e he hb, fun _ => rfl⟩)
          unfold Oper.wp
          rw [hr, Oper.upon_value, hd]
          exact hnext v w' hphi hbel
        · refine hstep i o hip hiS ho a w hIw hAD hdep _ fun v w' hphi hb => ?_
          rw [hd]
          exact hnext v w' hphi hb
      · have hall : ∀ k, k < ds.length → k ≠ p → k ∉ S → l.getD k false = true := fun k hk hkp hkS => by
          obtain ⟨op, hop⟩ : ∃ op, ops[p]? = some op := ⟨_, Array.getElem?_eq_getElem (by rw [G.size]; exact G.lt)⟩
          exact waits_done hcl 12 p k (G.last k hk hkp hkS) (fun o' ho' e he hb => hcl p o' hnl ho' e he hb)
        have hiS : i ∈ S := Classical.byContradiction fun h => by
          have := hall i hin hip h
          rw [hun2] at this; cases this
        obtain ⟨v, w', hr, hphi, hbel⟩ := hside i o hiS ho a.eval w hbw hAD (fun e he hb hep => by
          have he2 := hpre e he hb
          have hlt := Nat.lt_trans (G.back i o ho e he hb) hin
          exact hF e.on hlt hep he2)
        unfold Oper.wp
        rw [hr, Oper.upon_value, hd]
        refine ⟨hls2, hAD.put hdm v, hsz2 v, hadf, hcl2, Nat.le_trans hbw hbel.size, .inr ⟨hpl _ hnl, ?_, fun k hk hkp hkl => ?_⟩⟩
        · refine hΘb _ w w' (hΘ _ _ w (fun k hk hkp hkS => ?_) hT) hbel
          exact (eval_put_other _ _ _ _ (fun e => hkS (by rw [fds_inj G.nodup hk hin e]; exact hiS))).symm
        · by_cases hki : k = i
          · subst hki
            rw [eval_put_same _ _ _ hdz]
            exact ⟨w', hphi, fun _ => rfl⟩
          · rw [eval_put_other _ _ _ _ (fun e => hki (fds_inj G.nodup hk hin e))]
            obtain ⟨w1, h1, h2⟩ := hF k hk hkp ((listed_set hkl).resolve_left hki)
            by_cases hkS : k ∈ R
            · obtain rfl := h2 hkS
              exact ⟨w', hΦ k _ _ _ h1 hbel, fun _ => rfl⟩
            · exact ⟨w1, h1, fun h => absurd h hkS⟩
  · rintro l a w ⟨hls, hAD, hasz, hadf, hcl, hbw, hV⟩ hr
    have hall := all_listed' (by rw [hls, G.size]) G.back hr
    have hp := hall p (by rw [G.size]; exact G.lt)
    rcases hV with ⟨hnl, _⟩ | ⟨_, hT, hF⟩
    · rw [hp] at hnl; cases hnl
    · rw [act_fill hAD hasz hadf]
      exact hend (fun t => a.eval (.tmp t)) w hT fun k hk hkp => hF k hk hkp (hall k (by rw [G.size]; exact hk))
end
end Go.Proofs.YtmmogdccjiagnaaDoor
set_option linter.unusedVariables false
namespace Go.Proofs.YtmmogdccjiagnaaDoor
open Go Go.RowKit
section
variable {P : Program} {ops : Array Oper} {Q : Exit → Act → World → Prop}
set_option maxHeartbeats 1000000 in
theorem wp_region_skips (ds : List Nat) (wt : List Bool) {id : Nat} {a0 : Act} {w0 : World} (hm : P.follows .mixedOrders = true) (hG : factsB ops ds wt = true) (hsz : ∀ d ∈ ds, d < a0.tmps.size)
    (I : World → Prop) (Φ : Nat → Value → World → Prop)
    (hI : ∀ w w', I w → Below w.heap.size w w' → I w') (hΦ : ∀ k v w w', Φ k v w → Below w.heap.size w w' → Φ k v w')
    (h0 : I { w0 with drawn := w0.drawn + 1 })
    (hW : ∀ (k : Nat) (o : Oper) (g : Nat) (b : Bool), ops[k]? = some o → o.guard = some (g, b) → ∀ v w, Φ g v w → v = .bool (if wt.getD k true = true then b else !b) ∨ (wt.getD k true = false ∧ v = undef))
    (hskip : ∀ k, wt.getD k true = false → ∀ w, Φ k undef w)
    (hstep : ∀ (k : Nat) (o : Oper), ops[k]? = some o → wt.getD k true = true → ∀ (a : Act) (w : World), I w → AtDoor a0 ds a.eval → (∀ e ∈ o.after, Region.binds .any e = true → Φ e.on (a.eval (.tmp (ds.getD e.on 0))) w) →
      ∀ K : Act → World → Prop, (∀ v w', Φ k v w' → Below w.heap.size w w' → K (a.put o.dst v) w') → o.wp P a w K Q)
    (hend : ∀ (vals : Nat → Value) (w : World), I w → (∀ k, k < ds.length → Φ k (vals (ds.getD k 0)) w) → Q .normal ⟨(fillA a0 ds vals).toArray, a0.defers⟩ w) :
    (Code.region id ops true).wp P Q a0 w0 := by
  have G := facts_of hG
  refine wp_region_inv (fun l a w => l.size = ds.length ∧ I w ∧ AtDoor a0 ds a.eval ∧ a.tmps.size = a0.tmps.size ∧ a.defers = a0.defers ∧ (∀ k, k < ds.length → l.getD k false = true → Φ k (a.eval (.tmp (ds.getD k 0))) w)) hm ?_ ?_ ?_
  · refine ⟨by rw [Array.size_replicate]; exact G.size, h0, atDoor_start a0 ds, rfl, rfl, fun k hk h => ?_⟩
    exfalso
    by_cases h2 : k < ops.size <;> simp [h2] at h
  · rintro l a w i ⟨hls, hIw, hAD, hasz, hadf, hF⟩ hi
    obtain ⟨hun, o, ho, hpre⟩ := mem_ready.1 hi
    have hilt : i < ops.size := (Array.getElem?_eq_some_iff.1 ho).1
    have hin : i < ds.length := by rw [← G.size]; exact hilt
    have hil : i < l.size := by omega
    have hdep : ∀ e ∈ o.after, Region.binds .any e = true → Φ e.on (a.eval (.tmp (ds.getD e.on 0))) w := fun e he hb => hF e.on (Nat.lt_trans (G.back i o ho e he) hin) (hpre e he hb)
    have hnext : ∀ v w', Φ i v w' → Below w.heap.size w w' → (l.setIfInBounds i true).size = ds.length ∧ I w' ∧ AtDoor a0 ds (a.put o.dst v).eval ∧ (a.put o.dst v).tmps.size = a0.tmps.size ∧ (a.put o.dst v).defers = a0.defers ∧ (∀ k, k < ds.length → (l.setIfInBounds i true).getD k false = true → Φ k ((a.put o.dst v).eval (.tmp (ds.getD k 0))) w') := fun v w' hphi hb => by
      rw [G.dst i o ho]
      refine ⟨by rw [Array.size_setIfInBounds]; exact hls, hI w w' hIw hb, hAD.put (fds_mem hin) v, ?_, hadf, fun k hk hkl => ?_⟩
      · show (a.tmps.setIfInBounds _ _).size = _
        rw [Array.size_setIfInBounds]; exact hasz
      · by_cases hki : k = i
        · subst hki
          rw [eval_put_same _ _ _ (by rw [hasz]; exact hsz _ (fds_mem hin))]
          exact hphi
        · rw [eval_put_other _ _ _ _ (fun e => hki (fds_inj G.nodup hk hin e))]
          exact hΦ k _ _ _ (hF k hk ((listed_set hkl).resolve_left hki)) hb
    unfold wpOp
    rw [ho]
    have hyield : ∀ g b, o.guard = some (g, b) → yielded ops a.tmps g = some (if wt.getD i true = true then b else !b) ∨ (wt.getD i true = false ∧ yielded ops a.tmps g = none) := fun g b hg => by
      obtain ⟨hgi, e, he, h1, h2⟩ := G.guard i o g b ho hg
      have hv := hW i o g b ho hg _ _ (by have := hdep e he h2; rwa [h1] at this)
      obtain ⟨og, hog⟩ : ∃ og, ops[g]? = some og := ⟨_, Array.getElem?_eq_getElem (by omega)⟩
      unfold yielded
      rw [hog, Option.bind_some, G.dst g og hog, Option.bind_some]
      have hlt : ds.getD g 0 < a.tmps.size := by rw [hasz]; exact hsz _ (fds_mem (by omega))
      rw [Array.getElem?_eq_getElem hlt]
      have hat : a.tmps[ds.getD g 0] = a.eval (.tmp (ds.getD g 0)) := by
        show _ = a.tmps.getD (ds.getD g 0) undef
        rw [Array.getD_eq_getD_getElem?, Array.getElem?_eq_getElem hlt]
        rfl
      rcases hv with hv | ⟨hf, hv⟩
      · left
        rw [hat, hv]
      · right
        rw [hat, hv]
        exact ⟨hf, rfl⟩
    cases hw : wt.getD i true with
    | true =>
      have hwant : Region.wanted o (yielded ops a.tmps) = true := by
        unfold Region.wanted
        cases hg : o.guard with
        | none => rfl
        | some gb =>
          obtain ⟨g, b⟩ := gb
          show (yielded ops a.tmps g == some b) = true
          rcases hyield g b hg with h | ⟨h, _⟩
          · rw [h, hw]; simp
          · rw [hw] at h; cases h
      simp only [hwant, if_true]
      exact .inl (hstep i o ho hw a w hIw hAD hdep _ hnext)
    | false =>
      have hwant : Region.wanted o (yielded ops a.tmps) = false := by
        unfold Region.wanted
        cases hg : o.guard with
        | none =>
          have := G.free i o ho hg
          rw [hw] at this
          cases this
        | some gb =>
          obtain ⟨g, b⟩ := gb
          show (yielded ops a.tmps g == some b) = false
          rcases hyield g b hg with h | ⟨_, h⟩
          · rw [h, hw]; cases b <;> rfl
          · rw [h]; cases b <;> rfl
      simp only [hwant]
      exact hnext undef w (hskip i hw w) (Below.refl _ _)
  · rintro l a w ⟨hls, hIw, hAD, hasz, hadf, hF⟩ hr
    have hall := all_listed (by rw [hls, G.size]) G.back hr
    rw [act_fill hAD hasz hadf]
    exact hend (fun t => a.eval (.tmp t)) w hIw fun k hk => hF k hk (hall k (by rw [G.size]; exact hk))
/-- What the guards read (what is skipped itself has them skipped), by the kernel: gv lists which operation yields which truth. -/
def guardsS (ops : Array Oper) (wt : List Bool) (gv : List (Nat × Bool)) : Bool :=
  (List.range ops.size).all fun k => (match ops[k]? with
    | some o => (match o.guard with | some (g, b) => (!wt.getD g true && !wt.getD k true) || gv.any (fun p => p.1 == g && p.2 == (if wt.getD k true = true then b else !b)) | none => true)
    | none => true)
theorem wp_region_skips' (ds : List Nat) (wt : List Bool) (gv : List (Nat × Bool)) {id : Nat} {a0 : Act} {w0 : World} (hm : P.follows .mixedOrders = true) (hG : factsB ops ds wt = true) (hgB : guardsS ops wt gv = true) (hsz : ∀ d ∈ ds, d < a0.tmps.size)
    (I : World → Prop) (Φ : Nat → Value → World → Prop)
    (hI : ∀ w w', I w → Below w.heap.size w w' → I w') (hΦ : ∀ k v w w', Φ k v w → Below w.heap.size w w' → Φ k v w')
    (h0 : I { w0 with drawn := w0.drawn + 1 })
    (hgv : ∀ p ∈ gv, ∀ v w, Φ p.1 v w → v = .bool p.2)
    (hund : ∀ k, wt.getD k true = false → ∀ v w, Φ k v w → v = undef)
    (hskip : ∀ k, wt.getD k true = false → ∀ w, Φ k undef w)
    (hstep : ∀ (k : Nat) (o : Oper), ops[k]? = some o → wt.getD k true = true → ∀ (a : Act) (w : World), I w → AtDoor a0 ds a.eval → (∀ e ∈ o.after, Region.binds .any e = true → Φ e.on (a.eval (.tmp (ds.getD e.on 0))) w) →
      ∀ K : Act → World → Prop, (∀ v w', Φ k v w' → Below w.heap.size w w' → K (a.put o.dst v) w') → o.wp P a w K Q)
    (hend : ∀ (vals : Nat → Value) (w : World), I w → (∀ k, k < ds.length → Φ k (vals (ds.getD k 0)) w) → Q .normal ⟨(fillA a0 ds vals).toArray, a0.defers⟩ w) :
    (Code.region id ops true).wp P Q a0 w0 :=
  wp_region_skips ds wt hm hG hsz I Φ hI hΦ h0 (fun k o g b ho hg v w hv => by
    have hk : k < ops.size := (Array.getElem?_eq_some_iff.1 ho).1
    have := List.all_eq_true.1 hgB k (List.mem_range.2 hk)
    rw [ho] at this
    simp only [hg] at this
    rw [Bool.or_eq_true] at this
    rcases this with h | h
    · rw [Bool.and_eq_true, Bool.not_eq_true', Bool.not_eq_true'] at h
      exact .inr ⟨h.2, hund g h.1 v w hv⟩
    · obtain ⟨p, hp, h2⟩ := List.any_eq_true.1 h
      rw [Bool.and_eq_true, beq_iff_eq, beq_iff_eq] at h2
      rw [← h2.2]
      exact .inl (hgv p hp v w (by rw [h2.1]; exact hv))) hskip hstep hend
end
end Go.Proofs.YtmmogdccjiagnaaDoor
