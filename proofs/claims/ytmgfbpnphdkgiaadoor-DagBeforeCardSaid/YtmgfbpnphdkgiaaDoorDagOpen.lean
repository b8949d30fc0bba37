/- A graph, an edge, as a row hands them over, in the seat YtmgfbpnphdkgiaaDoor. No statement is proved here. -/
import Derived.Test.YtmgfbpnphdkgiaaDoorPlain
import Derived.Test.YtmgfbpnphdkgiaaDoorChecksWalk
import Derived.Deep.SlicePairs
import Derived.Lib.SmallJoins
set_option linter.unusedVariables false
namespace Go.Proofs.YtmgfbpnphdkgiaaDoor
open Go.ChangeShapes Go.WideShapes Go.ChangeAt Go.RowKit Go.Joins Go.Deep

/-- What a slice of edges that came in reads as. -/
theorem edges_of {w : World} {a : Addr} {len m : Nat} {V0 V1 : Nat → Value} (hl : len ≤ m)
    (h : ∀ i, i < m → w.cell? (a.add (i * 2)) = some (V0 i) ∧ w.cell? (a.add (i * 2 + 1)) = some (V1 i) ∧ (∃ n, V0 i = .int .i64 n ∧ (Lit.int .i64 n).wf = true) ∧ (∃ n, V1 i = .int .i64 n ∧ (Lit.int .i64 n).wf = true)) :
    ∃ es : List (Int × Int), es.length = len ∧ Pairs w w.heap.size (some a) es ∧ ∀ e ∈ es, (-9223372036854775808 ≤ e.1 ∧ e.1 ≤ 9223372036854775807) ∧ (-9223372036854775808 ≤ e.2 ∧ e.2 ≤ 9223372036854775807) := by
  have e1 : IntKind.i64.min = -9223372036854775808 := by decide
  have e2 : IntKind.i64.max = 9223372036854775807 := by decide
  let f : Nat → Int × Int := fun i => (match V0 i with | .int _ n => n | _ => 0, match V1 i with | .int _ n => n | _ => 0)
  have hf : ∀ i, i < m → V0 i = .int .i64 (f i).1 ∧ V1 i = .int .i64 (f i).2 ∧ (Lit.int .i64 (f i).1).wf = true ∧ (Lit.int .i64 (f i).2).wf = true := by
    intro i hi
    obtain ⟨_, _, ⟨n0, h0, k0⟩, ⟨n1, h1, k1⟩⟩ := h i hi
    simp only [f, h0, h1]
    exact ⟨trivial, trivial, k0, k1⟩
  refine ⟨(List.range len).map f, by simp, fun hp => ?_, ?_⟩
  · have hp : 0 < len := by simpa using hp
    obtain ⟨b, off, spot⟩ := a
    have hspot : spot = none := by simpa [Addr.add] using World.cell?_spot (h 0 (by omega)).1
    subst hspot
    have hc : ∀ i, i < m → w.cell? ⟨b, off + i * 2, none⟩ = some (.int .i64 (f i).1) ∧ w.cell? ⟨b, off + i * 2 + 1, none⟩ = some (.int .i64 (f i).2) := by
      intro i hi
      obtain ⟨c0, c1, _, _⟩ := h i hi
      obtain ⟨v0, v1, _, _⟩ := hf i hi
      rw [addr_add, v0] at c0
      rw [addr_add, v1] at c1
      exact ⟨c0, by rw [show off + i * 2 + 1 = off + (i * 2 + 1) by omega]; exact c1⟩
    refine ⟨b, off, rfl, cell_below (hc 0 (by omega)).1, fun k e he => ?_⟩
    obtain ⟨i, hi, rfl⟩ := List.mem_map.mp (List.mem_of_getElem? he)
    have hk : k < len := by
      have := (List.getElem?_eq_some_iff.1 he).1
      simpa using this
    rw [List.getElem?_map, List.getElem?_range hk] at he
    have he : f k = f i := by simpa using he
    rw [← he]
    exact hc k (by omega)
  · intro e he
    obtain ⟨i, hi, rfl⟩ := List.mem_map.mp he
    have hi : i < len := by simpa using hi
    obtain ⟨_, _, k0, k1⟩ := hf i (by omega)
    simp [Lit.wf, e1, e2] at k0 k1
    omega
/-- An argument that is a graph. -/
theorem open_dag {H : Type} {enc : TypeId × Value → H} {W : World} {base : Nat} {v : Value} {d : DataW H} {p : List MemPlace}
    (hv : Value.okWide Tryd.prog W .any base 25 v) (h : DataW.Trod enc Tryd.prog W 0 (fun _ => true) true 25 v d p) :
    ∃ A n c F m dd Wl El, v = .agg #[.slice A n c, .slice F m dd] ∧ InG W A n c F m dd Wl El := by
  obtain ⟨v0, v1, y0, y1, k, rfl, _, _, h0, h1⟩ := open_agg2 Tryd.underlying25 (by kernel_rfl) (by kernel_rfl) hv h
  obtain ⟨A, n, c, zs, rfl, hrow⟩ : ∃ A n c zs, v0 = .slice A n c ∧ IsRow .i64 W A n c zs := by
    rcases open_ints Tryd.underlying22 Tryd.underlying3 (by kernel_rfl) h0 with ⟨hcs, _⟩ | ⟨x, l, c, zs, hcs, _, hl, hm, hz, _, hcell, hwz⟩
    · simp at hcs
      exact ⟨none, 0, 0, [], hcs, .inl ⟨rfl, rfl, rfl, rfl⟩⟩
    · simp at hcs
      exact ⟨_, _, _, zs, hcs, .inr ⟨_, rfl, hl, hm, by simpa using hz, hcell, hwz⟩⟩
  obtain ⟨F, m, dd, es, rfl, hm, hp, hmx, hw, hF⟩ : ∃ F m dd, ∃ es : List (Int × Int), v1 = .slice F m dd ∧ es.length = m ∧ Pairs W W.heap.size F es ∧ m ≤ 9223372036854775807 ∧
      (∀ e ∈ es, (-9223372036854775808 ≤ e.1 ∧ e.1 ≤ 9223372036854775807) ∧ (-9223372036854775808 ≤ e.2 ∧ e.2 ≤ 9223372036854775807)) ∧ (F = none → m = 0 ∧ dd = 0) := by
    rcases open_slice_pairs Tryd.underlying23 Tryd.underlying40 (by kernel_rfl) rfl rfl (by kernel_rfl) (by kernel_rfl) h1 with ⟨hcs, _⟩ | ⟨a, len, cap, m, nn, V0, V1, D0, D1, P0, P1, hcs, _, hl, hm, hmm, _, hx⟩
    · simp at hcs
      exact ⟨none, 0, 0, [], hcs, rfl, fun h => absurd h (by simp), by omega, fun e he => by simp at he, fun _ => ⟨rfl, rfl⟩⟩
    · simp at hcs
      have hlm : len ≤ m := by rw [hmm]; simpa using hl
      obtain ⟨es, k1, k2, k3⟩ := edges_of (w := W) (a := a) (len := len) (m := m) (V0 := V0) (V1 := V1) hlm (fun i hi => by
        obtain ⟨c0, c1, t0, t1⟩ := hx i hi
        obtain ⟨n0, e0, _, w0⟩ := DataW.trod_int Tryd.underlying3 t0
        obtain ⟨n1, e1, _, w1⟩ := DataW.trod_int Tryd.underlying3 t1
        simp at e0 e1
        exact ⟨c0, c1, ⟨n0, e0, w0⟩, ⟨n1, e1, w1⟩⟩)
      refine ⟨some a, len, cap, es, hcs, k1, k2, by unfold maxLen at hm; omega, k3, fun e => by cases e⟩
  obtain ⟨r1, r2, r3, r4, r5⟩ := row_ints hrow
  refine ⟨A, n, c, F, m, dd, zs.take n, es, rfl, ⟨r2, hm, r4, hmx, r1, hp, fun e => ?_, hF, row_wf hrow, hw⟩⟩
  have := r3 e
  omega
/-- An argument that is an edge. -/
theorem open_edge {H : Type} {enc : TypeId × Value → H} {W : World} {base : Nat} {v : Value} {d : DataW H} {p : List MemPlace}
    (hv : Value.okWide Tryd.prog W .any base 40 v) (h : DataW.Trod enc Tryd.prog W 0 (fun _ => true) true 40 v d p) :
    ∃ a b : Int, v = .agg #[.int .i64 a, .int .i64 b] ∧ (Lit.int .i64 a).wf = true ∧ (Lit.int .i64 b).wf = true := by
  obtain ⟨v0, v1, y0, y1, k, rfl, _, _, h0, h1⟩ := open_agg2 Tryd.underlying40 (by kernel_rfl) (by kernel_rfl) hv h
  obtain ⟨n0, e0, _, w0⟩ := DataW.trod_int Tryd.underlying3 h0
  obtain ⟨n1, e1, _, w1⟩ := DataW.trod_int Tryd.underlying3 h1
  simp at e0 e1
  subst e0 e1
  exact ⟨_, _, rfl, w0, w1⟩
end Go.Proofs.YtmgfbpnphdkgiaaDoor
