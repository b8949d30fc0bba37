/- What layer 14's rows hand over: a shape, in the seat YtngdbbligebcbaaDoor.
   What layer 15's rows hand over: a list of shapes, in the seat YtngdbbligebcbaaDoor.
   What layer 16's rows hand over beside shapes: a list of numbers, in the seat YtngdbbligebcbaaDoor.
   The walk of the law PartRight over what its row hands over, in the seat YtngdbbligebcbaaDoor.
   No statement is proved here. -/
import Derived.Test.YtngdbbligebcbaaDoorZM1
import Derived.Lib.SmallJoins
import Derived.Test.YtngdbbligebcbaaDoorZM2
import Derived.Deep.SlicePairs
import Derived.Test.YtngdbbligebcbaaDoorZPartRightWalk
set_option linter.unusedSimpArgs false
set_option linter.unusedVariables false
namespace Go.Proofs.YtngdbbligebcbaaDoor
open Go.ChangeShapes Go.WideShapes Go.ChangeAt Go.RowKit Go.Joins Go.Deep

theorem array5 {cs : Array Value} (h : cs.size = 5) : ∃ c0 c1 c2 c3 c4, cs = #[c0, c1, c2, c3, c4] := by
  obtain ⟨l⟩ := cs
  match l, h with
  | [c0, c1, c2, c3, c4], _ => exact ⟨c0, c1, c2, c3, c4, rfl⟩
section
variable {H : Type} {enc : TypeId × Value → H} {W : World}
set_option maxRecDepth 100000 in
theorem open_shape {base : Nat} {v : Value} {d : DataW H} {p : List MemPlace}
    (hv : Value.okWide Tryd.prog W .any base 38 v) (h : DataW.Trod enc Tryd.prog W 0 (fun _ => true) true 38 v d p) :
    ∃ s : Shp, v = s.val := by
  obtain ⟨cs, rfl, hsz⟩ := okWide_struct Tryd.underlying38 hv
  obtain ⟨c0, c1, c2, c3, c4, rfl⟩ := array5 (hsz.trans (by kernel_rfl))
  obtain ⟨fuel, hf⟩ := h
  obtain ⟨xs, k, _, _, _, hlen, hx⟩ := DataW.trod_struct Tryd.underlying38 hf
  match xs, hlen with
  | [y0, y1, y2, y3, y4], _ =>
    have ci : Tryd.prog.cellsOf 3 = 1 := by kernel_rfl
    have ec : (Value.agg #[c0, c1, c2, c3, c4]).cells.toList = [c0, c1, c2, c3, c4] := rfl
    have h0 := hx 0 _ rfl
    have h1 := hx 1 _ rfl
    have h2 := hx 2 _ rfl
    have h3 := hx 3 _ rfl
    have h4 := hx 4 _ rfl
    simp only [ec] at h0 h1 h2 h3 h4
    obtain ⟨n0, e0, _, _⟩ := DataW.trod_int (x := y0) Tryd.underlying3 h0
    obtain ⟨n1, e1, _, _⟩ := DataW.trod_int (x := y1) Tryd.underlying3 h1
    obtain ⟨n2, e2, _, _⟩ := DataW.trod_int (x := y2) Tryd.underlying3 h2
    obtain ⟨n3, e3, _, _⟩ := DataW.trod_int (x := y3) Tryd.underlying3 h3
    obtain ⟨n4, e4, _, _⟩ := DataW.trod_int (x := y4) Tryd.underlying3 h4
    simp [ci] at e0 e1 e2 e3 e4
    subst e0 e1 e2 e3 e4
    exact ⟨⟨n0, n1, n2, n3, n4⟩, rfl⟩
end
end Go.Proofs.YtngdbbligebcbaaDoor
set_option linter.unusedVariables false
namespace Go.Proofs.YtngdbbligebcbaaDoor
open Go.ChangeShapes Go.WideShapes Go.ChangeAt Go.RowKit Go.Joins Go.Deep

instance : Inhabited Shp := ⟨⟨0, 0, 0, 0, 0⟩⟩
/-- A list of shapes as a row gives it. -/
structure InShps (w : World) (A : Option Addr) (n c : Nat) (es : List Shp) : Prop where
  hn : es.length = n
  shps : Shps w w.heap.size A es
  hA : A = none → n = 0 ∧ c = 0
  hc : n ≤ c
section
variable {H : Type} {enc : TypeId × Value → H} {W : World}
theorem spotlessS {a : Addr} {v : Value} (h : W.cell? a = some v) : ∃ b off, a = ⟨b, off, none⟩ := by
  obtain ⟨b, off, spot⟩ := a
  have hspot : spot = none := World.cell?_spot h
  exact ⟨b, off, by rw [hspot]⟩
set_option maxRecDepth 100000 in
theorem open_shps {t e : TypeId} {f0 f1 f2 f3 f4 : Field} {fuel : Nat} {cs : List Value} {x : DataW H × List MemPlace} (ht : Tryd.prog.underlying t = some (.slice e)) (he : Tryd.prog.underlying e = some (.struct #[f0, f1, f2, f3, f4]))
    (ce : Tryd.prog.cellsOf e = 5) (o0 : f0.offset = 0) (o1 : f1.offset = 1) (o2 : f2.offset = 2) (o3 : f3.offset = 3) (o4 : f4.offset = 4) (c0 : Tryd.prog.cellsOf f0.type = 1) (c1 : Tryd.prog.cellsOf f1.type = 1) (c2 : Tryd.prog.cellsOf f2.type = 1) (c3 : Tryd.prog.cellsOf f3.type = 1) (c4 : Tryd.prog.cellsOf f4.type = 1)
    (u0 : Tryd.prog.underlying f0.type = some (.int .i64)) (u1 : Tryd.prog.underlying f1.type = some (.int .i64)) (u2 : Tryd.prog.underlying f2.type = some (.int .i64)) (u3 : Tryd.prog.underlying f3.type = some (.int .i64)) (u4 : Tryd.prog.underlying f4.type = some (.int .i64))
    (h : DataW.trod enc Tryd.prog W 0 (fun _ => true) true fuel t cs = some x) :
    ∃ A n c, ∃ es : List Shp, cs = [.slice A n c] ∧ InShps W A n c es := by
  rcases open_slice ht h with ⟨h0, _⟩ | ⟨a, len, cap, m, n, D, Pl, rfl, _, hl, _, hmm, _, hx⟩
  · exact ⟨none, 0, 0, [], h0, rfl, fun hp => absurd hp (by simp), fun _ => ⟨rfl, rfl⟩, Nat.le_refl _⟩
  · have hlm : len ≤ m := by rw [hmm]; simpa using hl
    have each : ∀ i, i < m → ∃ q : Shp, (W.cell? (a.add (i * 5)) = some (.int .i64 q.t) ∧ W.cell? (a.add (i * 5 + 1)) = some (.int .i64 q.l)) ∧ W.cell? (a.add (i * 5 + 2)) = some (.int .i64 q.m) ∧ W.cell? (a.add (i * 5 + 3)) = some (.int .i64 q.d) ∧ W.cell? (a.add (i * 5 + 4)) = some (.int .i64 q.p) := by
      intro i hi
      obtain ⟨cs', h1, h2⟩ := hx i hi
      rw [ce] at h1
      obtain ⟨_, hlen, hcell⟩ := World.cells?_some h1
      obtain ⟨xs, k, _, _, _, hxl, hf⟩ := DataW.trod_struct he h2
      match xs, hxl, cs', hlen with
      | [y0, y1, y2, y3, y4], _, [v0, v1, v2, v3, v4], _ =>
        have g0 := hf 0 f0 rfl
        have g1 := hf 1 f1 rfl
        have g2 := hf 2 f2 rfl
        have g3 := hf 3 f3 rfl
        have g4 := hf 4 f4 rfl
        simp [o0, o1, o2, o3, o4, c0, c1, c2, c3, c4] at g0 g1 g2 g3 g4
        obtain ⟨z0, e0, _, _⟩ := DataW.trod_int u0 g0
        obtain ⟨z1, e1, _, _⟩ := DataW.trod_int u1 g1
        obtain ⟨z2, e2, _, _⟩ := DataW.trod_int u2 g2
        obtain ⟨z3, e3, _, _⟩ := DataW.trod_int u3 g3
        obtain ⟨z4, e4, _, _⟩ := DataW.trod_int u4 g4
        simp at e0 e1 e2 e3 e4
        subst e0 e1 e2 e3 e4
        have q0 := hcell 0 (by omega)
        have q1 := hcell 1 (by omega)
        have q2 := hcell 2 (by omega)
        have q3 := hcell 3 (by omega)
        have q4 := hcell 4 (by omega)
        rw [add_add] at q0 q1 q2 q3 q4
        exact ⟨⟨z0, z1, z2, z3, z4⟩, ⟨by simpa using q0, by simpa using q1⟩, by simpa using q2, by simpa using q3, by simpa using q4⟩
    obtain ⟨q, hq⟩ := choose_lt each
    refine ⟨some a, len, cap, (List.range len).map q, rfl, by simp, fun hp => ?_, (fun e => by cases e), hl⟩
    have hp : 0 < len := by simpa using hp
    obtain ⟨b, off, rfl⟩ := spotlessS (by simpa [Addr.add] using (hq 0 (by omega)).1.1)
    refine ⟨b, off, rfl, cell_below (hq 0 (by omega)).1.1, fun k x hx => ?_⟩
    have hk : k < len := by
      have := (List.getElem?_eq_some_iff.1 hx).1
      simpa using this
    rw [List.getElem?_map, List.getElem?_range hk] at hx
    obtain rfl : q k = x := by simpa using hx
    obtain ⟨⟨q0, q1⟩, q2, q3, q4⟩ := hq k (by omega)
    rw [addr_add] at q0 q1 q2 q3 q4
    exact ⟨⟨q0, by rw [show off + k * 5 + 1 = off + (k * 5 + 1) by omega]; exact q1⟩, by rw [show off + k * 5 + 2 = off + (k * 5 + 2) by omega]; exact q2, by rw [show off + k * 5 + 3 = off + (k * 5 + 3) by omega]; exact q3, by rw [show off + k * 5 + 4 = off + (k * 5 + 4) by omega]; exact q4⟩
theorem open_shapes {base : Nat} {v : Value} {d : DataW H} {p : List MemPlace}
    (hv : Value.okWide Tryd.prog W .any base 22 v) (h : DataW.Trod enc Tryd.prog W 0 (fun _ => true) true 22 v d p) :
    ∃ A n c es, v = .slice A n c ∧ InShps W A n c es := by
  obtain ⟨a, len, cap, rfl⟩ := okWide_slice Tryd.underlying22 hv
  obtain ⟨fuel, hf⟩ := h
  obtain ⟨A, n, c, es, hcs, hi⟩ := open_shps Tryd.underlying22 Tryd.underlying38 (by kernel_rfl) rfl rfl rfl rfl rfl (by kernel_rfl) (by kernel_rfl) (by kernel_rfl) (by kernel_rfl) (by kernel_rfl) Tryd.underlying3 Tryd.underlying3 Tryd.underlying3 Tryd.underlying3 Tryd.underlying3 hf
  simp [Value.cells] at hcs
  obtain ⟨rfl, rfl, rfl⟩ := hcs
  exact ⟨_, _, _, es, rfl, hi⟩
end
end Go.Proofs.YtngdbbligebcbaaDoor
set_option linter.unusedVariables false
namespace Go.Proofs.YtngdbbligebcbaaDoor
open Go.ChangeShapes Go.WideShapes Go.ChangeAt Go.RowKit Go.Joins Go.Deep

/-- A list of numbers as a row gives it. -/
structure InNum (w : World) (A : Option Addr) (n c : Nat) (zs : List Int) : Prop where
  hn : zs.length = n
  ints : Ints w w.heap.size A zs
  hA : A = none → n = 0 ∧ c = 0
section
variable {H : Type} {enc : TypeId × Value → H} {W : World}
set_option maxRecDepth 100000 in
theorem open_numl {base : Nat} {v : Value} {d : DataW H} {p : List MemPlace}
    (hv : Value.okWide Tryd.prog W .any base 24 v) (h : DataW.Trod enc Tryd.prog W 0 (fun _ => true) true 24 v d p) :
    ∃ A n c zs, v = .slice A n c ∧ InNum W A n c zs := by
  obtain ⟨a0, len0, cap0, rfl⟩ := okWide_slice Tryd.underlying24 hv
  obtain ⟨fuel, hf⟩ := h
  obtain ⟨A, n, c, zs, hcs, hrow⟩ : ∃ A n c zs, (Value.slice a0 len0 cap0).cells.toList = [.slice A n c] ∧ IsRow .i64 W A n c zs := by
    rcases open_ints Tryd.underlying24 Tryd.underlying3 (by kernel_rfl) hf with ⟨hcs, _⟩ | ⟨x, l, c, zs, hcs, _, hl, hm, hz, _, hcell, hwz⟩
    · exact ⟨none, 0, 0, [], hcs, .inl ⟨rfl, rfl, rfl, rfl⟩⟩
    · exact ⟨_, _, _, zs, hcs, .inr ⟨_, rfl, hl, hm, by simpa using hz, hcell, hwz⟩⟩
  obtain ⟨r1, r2, r3, r4, r5⟩ := row_ints hrow
  simp [Value.cells] at hcs
  obtain ⟨rfl, rfl, rfl⟩ := hcs
  exact ⟨_, _, _, zs.take len0, rfl, r2, r1, fun e => by have := r3 e; omega⟩
end
end Go.Proofs.YtngdbbligebcbaaDoor
set_option linter.unusedVariables false
namespace Go.Proofs.YtngdbbligebcbaaDoor
open Go Go.RowKit
theorem walk_PartRight {A : Option Addr} {n c : Nat} {es : List Shp} (w : World) (g : InShps w A n c es) (m : Int) (hm : -9223372036854775808 ≤ m ∧ m ≤ 9223372036854775807) (hT : DTab w) :
    Calls Tryd.prog 3 #[.slice A n c, .int .i64 m] w fun e w' => e = .returned (.bool true) ∧ Below w.heap.size w w' := law_PartRight m w hT g.hn g.shps g.hA hm
end Go.Proofs.YtngdbbligebcbaaDoor
