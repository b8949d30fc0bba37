/- What the walks of layer 10's laws share, in the seat YtpaambpajpmjdaaDoor.
   What layer 10's rows hand over: a graph, needs, a schedule, in the seat YtpaambpajpmjdaaDoor.
   No statement is proved here. -/
import Derived.Test.YtpaambpajpmjdaaDoorZSchedAwake
import Derived.Test.YtpaambpajpmjdaaDoorZSchedRef6
import Derived.Test.YtpaambpajpmjdaaDoorZM17
import Derived.Test.YtpaambpajpmjdaaDoorZSchedGreedy
import Derived.Test.YtpaambpajpmjdaaDoorZM18
import Derived.Deep.SlicePairs
import Derived.Lib.SmallJoins
set_option linter.unusedSimpArgs false
set_option linter.unusedVariables false
namespace Go.Proofs.YtpaambpajpmjdaaDoor
open Go.RowKit

section
variable {A : Option Addr} {n c : Nat} {F : Option Addr} {m d : Nat} {W : List Int} {E : List (Int × Int)} {N : Option Addr} {nn nc : Nat} {need : List Int} {T : Option Addr} {tn tc : Nat} {t : List (List Int)}
theorem own_g10 {w : World} (h : IsG w A n c F m d W E) :
    Calls Tryd.prog 15 #[.agg #[.slice A n c, .slice F m d]] w fun e w' => ∃ A' c' F' d', e = .returned (.agg #[.slice A' n c', .slice F' m d']) ∧ IsG w' A' n c' F' m d' W E ∧ Below w.heap.size w w' := by
  refine (own_any A F n c m d W E w h.hn (by have := h.ln; omega) h.hm (by have := h.lm; omega) h.ints h.pairs h.hA h.hF).mono ?_
  rintro e w' ⟨u, v, rfl, hu, hv, b⟩
  obtain ⟨A', c', F', d', rfl, rfl, hg⟩ := own_isG (h.tab.via b) hu hv (by rw [h.hn]; exact h.ln) (by rw [h.hm]; exact h.lm)
  rw [h.hn, h.hm] at hg ⊢
  exact ⟨A', c', F', d', rfl, hg, b⟩
/-- A graph as a row gives it: of any length. -/
structure InG (w : World) (A : Option Addr) (n c : Nat) (F : Option Addr) (m d : Nat) (W : List Int) (E : List (Int × Int)) : Prop where
  hn : W.length = n
  hm : E.length = m
  ln : n ≤ 9223372036854775807
  lm : m ≤ 9223372036854775807
  ints : Ints w w.heap.size A W
  pairs : Pairs w w.heap.size F E
  hA : A = none → n = 0 ∧ c = 0
  hF : F = none → m = 0 ∧ d = 0
theorem InG.isG {w : World} (hT : Tab64 w) (h : InG w A n c F m d W E) (hn : n ≤ 70) (hm : m ≤ 300) : IsG w A n c F m d W E := ⟨h.hn, h.hm, by omega, by omega, h.ints, h.pairs, h.hA, h.hF, hT⟩
/-- Needs and a schedule as a row gives them. -/
structure InS (w : World) (N : Option Addr) (nn nc : Nat) (T : Option Addr) (tn tc : Nat) (need : List Int) (t : List (List Int)) : Prop where
  hn : need.length = nn
  ht : t.length = tn
  ln : nn ≤ 9223372036854775807
  lt : tn ≤ 9223372036854775807
  lr : ∀ r ∈ t, r.length ≤ 9223372036854775807
  ints : Ints w w.heap.size N need
  rows : Trc w w.heap.size T t
  hN : N = none → nn = 0 ∧ nc = 0
  hT : T = none → tn = 0 ∧ tc = 0
  cT : tn ≤ tc
theorem InS.isS {w : World} (h : InS w N nn nc T tn tc need t) (hf : FewS need t) : IsS w N nn nc T tn tc need t :=
  ⟨h.hn, h.ht, by have := hf.1; have := h.hn; omega, by have := hf.2.1; have := h.ht; omega, fun r hr => by have := hf.2.2 r hr; omega, h.ints, h.rows, h.hN, h.hT⟩
theorem mkS {w0 w : World} (h : IsS w0 N nn nc T tn tc need t) {N' T' : Option Addr} {nc' tc' : Nat} (hI : Ints w w.heap.size N' need) (hN : N' = none → nn = 0 ∧ nc' = 0) (hT : Trc w w.heap.size T' t) (hT' : T' = none → tn = 0 ∧ tc' = 0) : IsS w N' nn nc' T' tn tc' need t :=
  ⟨h.hn, h.ht, h.ln, h.lt, h.lr, hI, hT, hN, hT'⟩
theorem IsS.taken {w : World} (h : IsS w N nn nc T tn tc need t) {k : Nat} (hk : k ≤ tn) : IsS w N nn nc T k tc need (t.take k) ∨ (T = none ∧ k = 0) := by
  by_cases hT : T = none
  · exact .inr ⟨hT, by have := (h.hT hT).1; omega⟩
  · exact .inl ⟨h.hn, by rw [List.length_take, h.ht]; omega, h.ln, by have := h.lt; omega, fun r hr => h.lr r (List.mem_of_mem_take hr), h.ints, h.rows.take k, h.hN, fun e => absurd e hT⟩
end
end Go.Proofs.YtpaambpajpmjdaaDoor
set_option linter.unusedVariables false
namespace Go.Proofs.YtpaambpajpmjdaaDoor
open Go.ChangeShapes Go.WideShapes Go.ChangeAt Go.RowKit Go.Joins Go.Deep

/-- Needs as a row gives them. -/
structure InN (w : World) (N : Option Addr) (nn nc : Nat) (need : List Int) : Prop where
  hn : need.length = nn
  ln : nn ≤ 9223372036854775807
  ints : Ints w w.heap.size N need
  hN : N = none → nn = 0 ∧ nc = 0
/-- A schedule as a row gives it. -/
structure InT (w : World) (T : Option Addr) (tn tc : Nat) (t : List (List Int)) : Prop where
  ht : t.length = tn
  lt : tn ≤ 9223372036854775807
  lr : ∀ r ∈ t, r.length ≤ 9223372036854775807
  rows : Trc w w.heap.size T t
  hT : T = none → tn = 0 ∧ tc = 0
  cT : tn ≤ tc
theorem InN.with {w : World} {N : Option Addr} {nn nc : Nat} {need : List Int} {T : Option Addr} {tn tc : Nat} {t : List (List Int)} (h : InN w N nn nc need) (g : InT w T tn tc t) : InS w N nn nc T tn tc need t :=
  ⟨h.hn, g.ht, h.ln, g.lt, g.lr, h.ints, g.rows, h.hN, g.hT, g.cT⟩
/-- What a slice of edges that came in reads as. -/
theorem edges_of {w : World} {a : Addr} {len m : Nat} {V0 V1 : Nat → Value} (hl : len ≤ m)
    (h : ∀ i, i < m → w.cell? (a.add (i * 2)) = some (V0 i) ∧ w.cell? (a.add (i * 2 + 1)) = some (V1 i) ∧ (∃ n, V0 i = .int .i64 n ∧ (Lit.int .i64 n).wf = true) ∧ (∃ n, V1 i = .int .i64 n ∧ (Lit.int .i64 n).wf = true)) :
    ∃ es : List (Int × Int), es.length = len ∧ Pairs w w.heap.size (some a) es ∧ ∀ e ∈ es, (-9223372036854775808 ≤ e.1 ∧ e.1 ≤ 9223372036854775807) ∧ (-9223372036854775808 ≤ e.2 ∧ e.2 ≤ 9223372036854775807) := by
  have e1 : IntKind.i64.min = -9223372036854775808 := by decide
  have e2 : IntKind.i64.max = 9223372036854775807 := by decide
  let f : Nat → Int × Int := fun i => (match V0 i with | .int _ n => n | _ => 0, match V1 i with | .int _ n => n | _ => 0)
  have hf : ∀ i, i < m → V0 i = .int .i64 (f i).1 ∧ V1 i = .int .i64 (f i).2 ∧ (Lit.int .i64 (f i).1).wf = true ∧ (Lit.int .i64 (f i).2).wf = true := by
    intro i hi
    obtain ⟨_, _, ⟨n0, h0, k0⟩, ⟨n1, h1, k1⟩⟩ := h i hi
    simp only [f, h0, h1]
    exact ⟨trivial, trivial, k0, k1⟩
  refine ⟨(List.range len).map f, by simp, fun hp => ?_, ?_⟩
  · have hp : 0 < len := by simpa using hp
    obtain ⟨b, off, spot⟩ := a
    have hspot : spot = none := by simpa [Addr.add] using World.cell?_spot (h 0 (by omega)).1
    subst hspot
    have hc : ∀ i, i < m → w.cell? ⟨b, off + i * 2, none⟩ = some (.int .i64 (f i).1) ∧ w.cell? ⟨b, off + i * 2 + 1, none⟩ = some (.int .i64 (f i).2) := by
      intro i hi
      obtain ⟨c0, c1, _, _⟩ := h i hi
      obtain ⟨v0, v1, _, _⟩ := hf i hi
      rw [addr_add, v0] at c0
      rw [addr_add, v1] at c1
      exact ⟨c0, by rw [show off + i * 2 + 1 = off + (i * 2 + 1) by omega]; exact c1⟩
    refine ⟨b, off, rfl, cell_below (hc 0 (by omega)).1, fun k e he => ?_⟩
    obtain ⟨i, hi, rfl⟩ := List.mem_map.mp (List.mem_of_getElem? he)
    have hk : k < len := by
      have := (List.getElem?_eq_some_iff.1 he).1
      simpa using this
    rw [List.getElem?_map, List.getElem?_range hk] at he
    have he : f k = f i := by simpa using he
    rw [← he]
    exact hc k (by omega)
  · intro e he
    obtain ⟨i, hi, rfl⟩ := List.mem_map.mp he
    have hi : i < len := by simpa using hi
    obtain ⟨_, _, k0, k1⟩ := hf i (by omega)
    simp [Lit.wf, e1, e2] at k0 k1
    omega
/-- An argument that is a graph. -/
theorem open_dag {H : Type} {enc : TypeId × Value → H} {W : World} {base : Nat} {v : Value} {d : DataW H} {p : List MemPlace}
    (hv : Value.okWide Tryd.prog W .any base 25 v) (h : DataW.Trod enc Tryd.prog W 0 (fun _ => true) true 25 v d p) :
    ∃ A n c F m dd Wl El, v = .agg #[.slice A n c, .slice F m dd] ∧ InG W A n c F m dd Wl El := by
  obtain ⟨v0, v1, y0, y1, k, rfl, _, _, h0, h1⟩ := open_agg2 Tryd.underlying25 (by kernel_rfl) (by kernel_rfl) hv h
  obtain ⟨A, n, c, zs, rfl, hrow⟩ : ∃ A n c zs, v0 = .slice A n c ∧ IsRow .i64 W A n c zs := by
    rcases open_ints Tryd.underlying22 Tryd.underlying3 (by kernel_rfl) h0 with ⟨hcs, _⟩ | ⟨x, l, c, zs, hcs, _, hl, hm, hz, _, hcell, hwz⟩
    · simp at hcs
      exact ⟨none, 0, 0, [], hcs, .inl ⟨rfl, rfl, rfl, rfl⟩⟩
    · simp at hcs
      exact ⟨_, _, _, zs, hcs, .inr ⟨_, rfl, hl, hm, by simpa using hz, hcell, hwz⟩⟩
  obtain ⟨F, m, dd, es, rfl, hm, hp, hmx, hw, hF⟩ : ∃ F m dd, ∃ es : List (Int × Int), v1 = .slice F m dd ∧ es.length = m ∧ Pairs W W.heap.size F es ∧ m ≤ 9223372036854775807 ∧
      (∀ e ∈ es, (-9223372036854775808 ≤ e.1 ∧ e.1 ≤ 9223372036854775807) ∧ (-9223372036854775808 ≤ e.2 ∧ e.2 ≤ 9223372036854775807)) ∧ (F = none → m = 0 ∧ dd = 0) := by
    rcases open_slice_pairs Tryd.underlying23 Tryd.underlying45 (by kernel_rfl) rfl rfl (by kernel_rfl) (by kernel_rfl) h1 with ⟨hcs, _⟩ | ⟨a, len, cap, m, nn, V0, V1, D0, D1, P0, P1, hcs, _, hl, hm, hmm, _, hx⟩
    · simp at hcs
      exact ⟨none, 0, 0, [], hcs, rfl, fun h => absurd h (by simp), by omega, fun e he => by simp at he, fun _ => ⟨rfl, rfl⟩⟩
    · simp at hcs
      have hlm : len ≤ m := by rw [hmm]; simpa using hl
      obtain ⟨es, k1, k2, k3⟩ := edges_of (w := W) (a := a) (len := len) (m := m) (V0 := V0) (V1 := V1) hlm (fun i hi => by
        obtain ⟨c0, c1, t0, t1⟩ := hx i hi
        obtain ⟨n0, e0, _, w0⟩ := DataW.trod_int Tryd.underlying3 t0
        obtain ⟨n1, e1, _, w1⟩ := DataW.trod_int Tryd.underlying3 t1
        simp at e0 e1
        exact ⟨c0, c1, ⟨n0, e0, w0⟩, ⟨n1, e1, w1⟩⟩)
      refine ⟨some a, len, cap, es, hcs, k1, k2, by unfold maxLen at hm; omega, k3, fun e => by cases e⟩
  obtain ⟨r1, r2, r3, r4, r5⟩ := row_ints hrow
  refine ⟨A, n, c, F, m, dd, zs.take n, es, rfl, ⟨r2, hm, r4, hmx, r1, hp, fun e => ?_, hF⟩⟩
  have := r3 e
  omega
section
variable {H : Type} {enc : TypeId × Value → H} {W : World}
theorem spotless {a : Addr} {v : Value} (h : W.cell? a = some v) : ∃ b off, a = ⟨b, off, none⟩ := by
  obtain ⟨b, off, spot⟩ := a
  have hspot : spot = none := World.cell?_spot h
  exact ⟨b, off, by rw [hspot]⟩
theorem open_intsS {fuel : Nat} {cs : List Value} {x : DataW H × List MemPlace} (h1 : DataW.trod enc Tryd.prog W 0 (fun _ => true) true fuel 22 cs = some x) :
    ∃ A n c, ∃ zs : List Int, cs = [.slice A n c] ∧ zs.length = n ∧ Ints W W.heap.size A zs ∧ n ≤ 9223372036854775807 ∧ n ≤ c ∧ (A = none → n = 0 ∧ c = 0) := by
  obtain ⟨A, n, c, zs, rfl, hrow⟩ : ∃ A n c zs, cs = [.slice A n c] ∧ IsRow .i64 W A n c zs := by
    rcases open_ints Tryd.underlying22 Tryd.underlying3 (by kernel_rfl) h1 with ⟨hcs, _⟩ | ⟨x, l, c, zs, hcs, _, hl, hm, hz, _, hcell, hwz⟩
    · exact ⟨none, 0, 0, [], hcs, .inl ⟨rfl, rfl, rfl, rfl⟩⟩
    · exact ⟨_, _, _, zs, hcs, .inr ⟨_, rfl, hl, hm, by simpa using hz, hcell, hwz⟩⟩
  obtain ⟨r1, r2, r3, r4, r5⟩ := row_ints hrow
  refine ⟨A, n, c, zs.take n, rfl, r2, r1, r4, r5, fun e => ?_⟩
  have := r3 e
  omega
set_option maxRecDepth 100000 in
/-- An argument that is a list of needs. -/
theorem open_need {base : Nat} {v : Value} {d : DataW H} {p : List MemPlace}
    (hv : Value.okWide Tryd.prog W .any base 22 v) (h : DataW.Trod enc Tryd.prog W 0 (fun _ => true) true 22 v d p) :
    ∃ A n c zs, v = .slice A n c ∧ InN W A n c zs := by
  obtain ⟨a0, len0, cap0, rfl⟩ := okWide_slice Tryd.underlying22 hv
  obtain ⟨fuel, hf⟩ := h
  obtain ⟨A, n, c, zs, e0, l0, m0, b0, s0, w0⟩ := open_intsS hf
  simp [Value.cells] at e0
  obtain ⟨rfl, rfl, rfl⟩ := e0
  exact ⟨_, _, _, zs, rfl, ⟨l0, b0, m0, w0⟩⟩
set_option maxRecDepth 100000 in
/-- An argument that is a schedule. -/
theorem open_trace {base : Nat} {v : Value} {d : DataW H} {p : List MemPlace}
    (hv : Value.okWide Tryd.prog W .any base 27 v) (h : DataW.Trod enc Tryd.prog W 0 (fun _ => true) true 27 v d p) :
    ∃ A n c t, v = .slice A n c ∧ InT W A n c t := by
  obtain ⟨a0, len0, cap0, rfl⟩ := okWide_slice Tryd.underlying27 hv
  obtain ⟨fuel, hf⟩ := h
  have ce : Tryd.prog.cellsOf 22 = 1 := by kernel_rfl
  rcases open_slice Tryd.underlying27 hf with ⟨h0, _⟩ | ⟨a, len, cap, m, n, D, Pl, h0, _, hl, hm, hmm, _, hx⟩
  · simp [Value.cells] at h0
    obtain ⟨rfl, rfl, rfl⟩ := h0
    exact ⟨none, 0, 0, [], rfl, ⟨rfl, by omega, fun r hr => by simp at hr, Trc.nil_ _ _ _, fun _ => ⟨rfl, rfl⟩, Nat.le_refl _⟩⟩
  · simp [Value.cells] at h0
    obtain ⟨rfl, rfl, rfl⟩ := h0
    have hlm : len0 ≤ m := by rw [hmm]; simpa using hl
    have each : ∀ i, i < m → ∃ q : List Int, ∃ A1 c1, W.cell? (a.add i) = some (.slice A1 q.length c1) ∧ Ints W W.heap.size A1 q ∧ q.length ≤ 9223372036854775807 ∧ q.length ≤ c1 ∧ (A1 = none → q.length = 0 ∧ c1 = 0) := by
      intro i hi
      obtain ⟨cs', h1, h2⟩ := hx i hi
      rw [ce] at h1
      obtain ⟨_, hlen, hcell⟩ := World.cells?_some h1
      obtain ⟨A1, n1, c1, zs, e1, l1, i1, b1, k1, s1⟩ := open_intsS h2
      subst e1
      subst l1
      have q0 := hcell 0 (by omega)
      rw [Nat.mul_one, add_add] at q0
      exact ⟨zs, A1, c1, by simpa using q0, i1, b1, k1, s1⟩
    obtain ⟨q, hq⟩ := choose_lt each
    refine ⟨some a, len0, cap0, (List.range len0).map q, rfl, ⟨by simp, by unfold maxLen at hm; omega, fun r hr => ?_, fun hp => ?_, fun e => (by cases e), hl⟩⟩
    · rw [List.mem_map] at hr
      obtain ⟨i, hi, rfl⟩ := hr
      obtain ⟨_, _, _, _, hb, _⟩ := hq i (by simp at hi; omega)
      exact hb
    · have hp : 0 < len0 := by simpa using hp
      obtain ⟨_, _, hh, _⟩ := hq 0 (by omega)
      obtain ⟨b, off, rfl⟩ := spotless (by simpa [Addr.add] using hh)
      refine ⟨b, off, rfl, cell_below hh, fun k x hx => ?_⟩
      have hk : k < len0 := by
        have := (List.getElem?_eq_some_iff.1 hx).1
        simpa using this
      rw [List.getElem?_map, List.getElem?_range hk] at hx
      obtain rfl : q k = x := by simpa using hx
      obtain ⟨A1, c1, q0, q1, q2, q3, q4⟩ := hq k (by omega)
      rw [addr_add] at q0
      exact ⟨A1, c1, q0, q1, q4, q3⟩
end
end Go.Proofs.YtpaambpajpmjdaaDoor
