/- What the proofs over the rows of the seat YtkmajhbfmdoamaaGreatDoor share, where the rows list no variables.
   What every row of the layer desc in the seat YtkmajhbfmdoamaaGreatDoor lists of package-level variables (math/bits' tables of 32 and of 64), and a world that holds them.
   A task, as a row hands it over, in the seat YtkmajhbfmdoamaaGreatDoor.
   A lowered task, a piece, as a row hands them over, in the seat YtkmajhbfmdoamaaGreatDoor.
   A memory, a part, as a row hands them over, in the seat YtkmajhbfmdoamaaGreatDoor.
   No statement is proved here. -/
import Derived.Test.YtkmajhbfmdoamaaGreatDoorRows
import Derived.Test.YtkmajhbfmdoamaaGreatDoorZM1
import Derived.ProofKit
import Derived.OpenShut
import Derived.ShutString
import Derived.ChangeOld
import Derived.ChangeMaps5
import Derived.Test.YtkmajhbfmdoamaaGreatDoorCards
import Derived.Test.YtkmajhbfmdoamaaGreatDoorTie
import Derived.Test.YtkmajhbfmdoamaaGreatDoorZM6
import Derived.Deep.DeepHandedRow
import Derived.Lib.LaidTab
import Derived.Stop.LaidErr
import Derived.Test.YtkmajhbfmdoamaaGreatDoorZM25
import Derived.Deep.SlicePairs
import Derived.Lib.SmallJoins
import Derived.Test.YtkmajhbfmdoamaaGreatDoorZM23
import Derived.Test.YtkmajhbfmdoamaaGreatDoorZM28
import Derived.Deep.Grids
set_option linter.unusedSimpArgs false
namespace Go.Proofs.YtkmajhbfmdoamaaGreatDoor
open Go.ChangeShapes Go.WideShapes Go.ChangeAt Go.RowKit

theorem own : ownKnob Tryz.prog.godebug = none := by kernel_rfl
theorem laidOut : laidOutB Tryz.prog = true := by kernel_rfl
theorem cell_below {w : World} {b off : Nat} {v : Value} (h : w.cell? ⟨b, off, none⟩ = some v) : b < w.heap.size := by
  rcases Nat.lt_or_ge b w.heap.size with hlt | hge
  · exact hlt
  · unfold World.cell? at h
    simp [Array.getElem?_eq_none hge] at h
/-- What a slice of integers that came in is: nil, or a row of cells. -/
def IsRow (k : IntKind) (w : World) (a : Option Addr) (len cap : Nat) (zs : List Int) : Prop :=
  (a = none ∧ len = 0 ∧ cap = 0 ∧ zs = []) ∨
  ∃ x, a = some x ∧ len ≤ cap ∧ cap ≤ maxLen ∧ zs.length = cap ∧ (∀ i, i < zs.length → w.cell? (x.add i) = some (.int k (zs.getD i 0))) ∧ ∀ n ∈ zs, (Lit.int k n).wf = true
theorem row_ints {w : World} {a : Option Addr} {len cap : Nat} {zs : List Int} (h : IsRow .i64 w a len cap zs) :
    Ints w w.heap.size a (zs.take len) ∧ (zs.take len).length = len ∧ (a = none → cap = 0) ∧ len ≤ 9223372036854775807 ∧ len ≤ cap := by
  rcases h with ⟨rfl, rfl, rfl, rfl⟩ | ⟨x, rfl, hl, hm, hz, hc, _⟩
  · exact ⟨Ints.nil_ _ _ _, rfl, fun _ => rfl, by omega, by omega⟩
  · have hlen : (zs.take len).length = len := by rw [List.length_take]; omega
    refine ⟨fun hn => ?_, hlen, (fun e => by cases e), by unfold maxLen at hm; omega, hl⟩
    obtain ⟨b, off, rfl, hc'⟩ := ints_at hc (by omega)
    refine ⟨b, off, rfl, cell_below (hc' 0 (by omega)), fun k hk => ?_⟩
    have hk2 : k < len := by omega
    rw [hc' k (by omega), List.getD_eq_getElem?_getD, List.getD_eq_getElem?_getD, List.getElem?_take, if_pos hk2]
theorem row_wf {w : World} {a : Option Addr} {len cap : Nat} {zs : List Int} (h : IsRow .i64 w a len cap zs) : ∀ z ∈ zs.take len, -9223372036854775808 ≤ z ∧ z ≤ 9223372036854775807 := by
  have e1 : IntKind.i64.min = -9223372036854775808 := by decide
  have e2 : IntKind.i64.max = 9223372036854775807 := by decide
  intro z hz
  rcases h with ⟨_, _, _, rfl⟩ | ⟨_, _, _, _, _, _, hw⟩
  · simp at hz
  · have hh := hw z (List.mem_of_mem_take hz)
    simp [Lit.wf, e1, e2] at hh
    omega
end Go.Proofs.YtkmajhbfmdoamaaGreatDoor
namespace Go.Proofs.YtkmajhbfmdoamaaGreatDoor
open Go.ChangeShapes Go.WideShapes Go.ChangeAt Go.RowKit

theorem gTab64 : Tryz.prog.globalNamed "math/bits.deBruijn64tab" = some 1 := by kernel_rfl
theorem gTab64Type : (Tryz.prog.globals[1]?).map (·.type) = some 170 := by kernel_rfl
theorem cells64 : Tryz.prog.cellsOf 170 = 64 := by kernel_rfl
theorem cells8 : Tryz.prog.cellsOf 5 = 1 := by kernel_rfl
theorem laidMet_tail {P : Program} {W : World} {a : String × DataW Unit} {rest : List (String × DataW Unit)} (h : laidMet P (a :: rest) W) : laidMet P rest W := by
  obtain ⟨ps, hv, hnd, hc⟩ := h
  obtain ⟨_, _, _, _, p, q, _, _, _, _, hr, rfl⟩ := hv
  exact ⟨q, hr, (List.nodup_append.mp hnd).2.1, fun b off hm => hc b off (List.mem_append_right _ hm)⟩
/-- What the rows' list gives: the table's cells hold its numbers. -/
theorem tabs_of {W : World} (h : laidMetH Tryz.prog [("math/bits.deBruijn32tab", Rows.laid_math_bits_deBruijn32tab), ("math/bits.deBruijn64tab", Rows.laid_math_bits_deBruijn64tab)] W) : DTab W := by
  have h1 : laidMet Tryz.prog [("math/bits.deBruijn32tab", Rows.laid_math_bits_deBruijn32tab), ("math/bits.deBruijn64tab", Rows.laid_math_bits_deBruijn64tab)] W := h
  have h2 := laidMet_tail h1
  have h3 : Lib.TabIs Tryz.prog W "math/bits.deBruijn64tab" .u8 (Lib.deBruijn64tab.map Int.ofNat) :=
    Lib.tabIs_of_head (rest := []) gTab64 gTab64Type Tryz.underlying170 Tryz.underlying5 cells8 cells64 h2
  intro j hj
  rw [h3.cell gTab64 j (by simpa using hj)]
  congr 2
  rw [List.getD_eq_getElem?_getD, List.getElem?_map, List.getElem?_eq_getElem hj, List.getD_eq_getElem?_getD, List.getElem?_eq_getElem hj]
  rfl
theorem wf64 {a : Int} (h : (Lit.int .i64 a).wf = true) : -9223372036854775808 ≤ a ∧ a ≤ 9223372036854775807 := by
  have e1 : IntKind.i64.min = -9223372036854775808 := by decide
  have e2 : IntKind.i64.max = 9223372036854775807 := by decide
  simp [Lit.wf, e1, e2] at h
  omega
def tab32 : List Nat := [0, 1, 28, 2, 29, 14, 24, 3, 30, 22, 20, 15, 25, 17, 4, 8, 31, 27, 13, 23, 21, 19, 16, 7, 26, 12, 18, 6, 11, 5, 10, 9]
def setTab (l : List Nat) : Obj → Obj
  | .cells _ t frozen => .cells (l.map fun n => Value.int .u8 (Int.ofNat n)).toArray t frozen
  | o => o
/-- A world for the witness: the settled one, the tables holding what their initialisers lay. -/
noncomputable def laidWorld (os : Os) : World :=
  { World.holding Tryz.prog os ⟨#[], #[], []⟩ with heap := ((World.holding Tryz.prog os ⟨#[], #[], []⟩).heap.modify 0 (setTab tab32)).modify 1 (setTab Lib.deBruijn64tab) }
end Go.Proofs.YtkmajhbfmdoamaaGreatDoor
set_option linter.unusedVariables false
namespace Go.Proofs.YtkmajhbfmdoamaaGreatDoor
open Go.ChangeShapes Go.WideShapes Go.ChangeAt Go.RowKit Go.Joins Go.Deep

section
variable {H : Type} {enc : TypeId × Value → H} {W : World}
theorem spotless {a : Addr} {v : Value} (h : W.cell? a = some v) : ∃ b off, a = ⟨b, off, none⟩ := by
  obtain ⟨b, off, spot⟩ := a
  have hspot : spot = none := World.cell?_spot h
  exact ⟨b, off, by rw [hspot]⟩
set_option maxRecDepth 100000 in
theorem open_trips {t e : TypeId} {f0 f1 f2 : Field} {fuel : Nat} {cs : List Value} {x : DataW H × List MemPlace} (ht : Tryz.prog.underlying t = some (.slice e)) (he : Tryz.prog.underlying e = some (.struct #[f0, f1, f2]))
    (ce : Tryz.prog.cellsOf e = 3) (o0 : f0.offset = 0) (o1 : f1.offset = 1) (o2 : f2.offset = 2) (c0 : Tryz.prog.cellsOf f0.type = 1) (c1 : Tryz.prog.cellsOf f1.type = 1) (c2 : Tryz.prog.cellsOf f2.type = 1)
    (u0 : Tryz.prog.underlying f0.type = some (.int .i64)) (u1 : Tryz.prog.underlying f1.type = some (.int .i64)) (u2 : Tryz.prog.underlying f2.type = some (.int .i64))
    (h : DataW.trod enc Tryz.prog W 0 (fun _ => true) true fuel t cs = some x) :
    ∃ A n c, ∃ es : List (Int × Int × Int), cs = [.slice A n c] ∧ es.length = n ∧ Trips W W.heap.size A es ∧ n ≤ c ∧ (A = none → n = 0 ∧ c = 0) := by
  rcases open_slice ht h with ⟨h0, _⟩ | ⟨a, len, cap, m, n, D, Pl, rfl, _, hl, _, hmm, _, hx⟩
  · exact ⟨none, 0, 0, [], h0, rfl, fun hp => absurd hp (by simp), Nat.le_refl _, fun _ => ⟨rfl, rfl⟩⟩
  · have hlm : len ≤ m := by rw [hmm]; simpa using hl
    have each : ∀ i, i < m → ∃ q : Int × Int × Int, W.cell? (a.add (i * 3)) = some (.int .i64 q.1) ∧ W.cell? (a.add (i * 3 + 1)) = some (.int .i64 q.2.1) ∧ W.cell? (a.add (i * 3 + 2)) = some (.int .i64 q.2.2) := by
      intro i hi
      obtain ⟨cs', h1, h2⟩ := hx i hi
      rw [ce] at h1
      obtain ⟨_, hlen, hcell⟩ := World.cells?_some h1
      obtain ⟨xs, k, _, _, _, hxl, hf⟩ := DataW.trod_struct he h2
      match xs, hxl, cs', hlen with
      | [y0, y1, y2], _, [v0, v1, v2], _ =>
        have g0 := hf 0 f0 rfl
        have g1 := hf 1 f1 rfl
        have g2 := hf 2 f2 rfl
        simp [o0, o1, o2, c0, c1, c2] at g0 g1 g2
        obtain ⟨z0, e0, _, _⟩ := DataW.trod_int u0 g0
        obtain ⟨z1, e1, _, _⟩ := DataW.trod_int u1 g1
        obtain ⟨z2, e2, _, _⟩ := DataW.trod_int u2 g2
        simp at e0 e1 e2
        subst e0 e1 e2
        have q0 := hcell 0 (by omega)
        have q1 := hcell 1 (by omega)
        have q2 := hcell 2 (by omega)
        rw [add_add] at q0 q1 q2
        exact ⟨(z0, z1, z2), by simpa using q0, by simpa using q1, by simpa using q2⟩
    obtain ⟨q, hq⟩ := choose_lt each
    refine ⟨some a, len, cap, (List.range len).map q, rfl, by simp, fun hp => ?_, hl, fun e => by cases e⟩
    have hp : 0 < len := by simpa using hp
    obtain ⟨b, off, rfl⟩ := spotless (by simpa [Addr.add] using (hq 0 (by omega)).1)
    refine ⟨b, off, rfl, cell_below (hq 0 (by omega)).1, fun k x hx => ?_⟩
    have hk : k < len := by
      have := (List.getElem?_eq_some_iff.1 hx).1
      simpa using this
    rw [List.getElem?_map, List.getElem?_range hk] at hx
    obtain rfl : q k = x := by simpa using hx
    obtain ⟨q0, q1, q2⟩ := hq k (by omega)
    rw [addr_add] at q0 q1 q2
    exact ⟨q0, by rw [show off + k * 3 + 1 = off + (k * 3 + 1) by omega]; exact q1, by rw [show off + k * 3 + 2 = off + (k * 3 + 2) by omega]; exact q2⟩
theorem open_edges {fuel : Nat} {cs : List Value} {x : DataW H × List MemPlace} (h1 : DataW.trod enc Tryz.prog W 0 (fun _ => true) true fuel 23 cs = some x) :
    ∃ A n c, ∃ es : List (Int × Int), cs = [.slice A n c] ∧ es.length = n ∧ Pairs W W.heap.size A es ∧ n ≤ c ∧ (A = none → n = 0 ∧ c = 0) := by
  rcases open_slice_pairs Tryz.underlying23 Tryz.underlying48 (by kernel_rfl) rfl rfl (by kernel_rfl) (by kernel_rfl) h1 with ⟨hcs, _⟩ | ⟨a, len, cap, m, nn, V0, V1, D0, D1, P0, P1, hcs, _, hl, hm, hmm, _, hx⟩
  · exact ⟨none, 0, 0, [], hcs, rfl, fun h => absurd h (by simp), Nat.le_refl _, fun _ => ⟨rfl, rfl⟩⟩
  · have hlm : len ≤ m := by rw [hmm]; simpa using hl
    have each : ∀ i, i < m → ∃ q : Int × Int, W.cell? (a.add (i * 2)) = some (.int .i64 q.1) ∧ W.cell? (a.add (i * 2 + 1)) = some (.int .i64 q.2) := fun i hi => by
      obtain ⟨c0, c1, t0, t1⟩ := hx i hi
      obtain ⟨n0, e0, _, w0⟩ := DataW.trod_int Tryz.underlying3 t0
      obtain ⟨n1, e1, _, w1⟩ := DataW.trod_int Tryz.underlying3 t1
      simp at e0 e1
      rw [e0] at c0
      rw [e1] at c1
      exact ⟨(n0, n1), c0, c1⟩
    obtain ⟨q, hq⟩ := choose_lt each
    refine ⟨some a, len, cap, (List.range len).map q, hcs, by simp, fun hp => ?_, hl, fun e => by cases e⟩
    have hp : 0 < len := by simpa using hp
    obtain ⟨b, off, rfl⟩ := spotless (by simpa [Addr.add] using (hq 0 (by omega)).1)
    refine ⟨b, off, rfl, cell_below (hq 0 (by omega)).1, fun k x hx => ?_⟩
    have hk : k < len := by
      have := (List.getElem?_eq_some_iff.1 hx).1
      simpa using this
    rw [List.getElem?_map, List.getElem?_range hk] at hx
    obtain rfl : q k = x := by simpa using hx
    obtain ⟨q0, q1⟩ := hq k (by omega)
    rw [addr_add] at q0 q1
    exact ⟨q0, by rw [show off + k * 2 + 1 = off + (k * 2 + 1) by omega]; exact q1⟩
theorem open_ints' {fuel : Nat} {cs : List Value} {x : DataW H × List MemPlace} (h0 : DataW.trod enc Tryz.prog W 0 (fun _ => true) true fuel 28 cs = some x) :
    ∃ A n c, ∃ zs : List Int, cs = [.slice A n c] ∧ zs.length = n ∧ Ints W W.heap.size A zs ∧ (A = none → n = 0 ∧ c = 0) := by
  obtain ⟨A, n, c, zs, hcs, hrow⟩ : ∃ A n c zs, cs = [.slice A n c] ∧ IsRow .i64 W A n c zs := by
    rcases open_ints Tryz.underlying28 Tryz.underlying3 (by kernel_rfl) h0 with ⟨hcs, _⟩ | ⟨x, l, c, zs, hcs, _, hl, hm, hz, _, hcell, hwz⟩
    · exact ⟨none, 0, 0, [], hcs, .inl ⟨rfl, rfl, rfl, rfl⟩⟩
    · exact ⟨_, _, _, zs, hcs, .inr ⟨_, rfl, hl, hm, by simpa using hz, hcell, hwz⟩⟩
  obtain ⟨r1, r2, r3, r4, r5⟩ := row_ints hrow
  refine ⟨A, n, c, zs.take n, hcs, r2, r1, fun e => ?_⟩
  have := r3 e
  omega
theorem open_bars {fuel : Nat} {cs : List Value} {x : DataW H × List MemPlace} (h1 : DataW.trod enc Tryz.prog W 0 (fun _ => true) true fuel 25 cs = some x) :
    ∃ A n c, ∃ bs : List (List Int × List Int), cs = [.slice A n c] ∧ bs.length = n ∧ Bars W W.heap.size A bs ∧ n ≤ c ∧ (A = none → n = 0 ∧ c = 0) := by
  rcases open_slice_pairs Tryz.underlying25 Tryz.underlying69 (by kernel_rfl) rfl rfl (by kernel_rfl) (by kernel_rfl) h1 with ⟨hcs, _⟩ | ⟨a, len, cap, m, nn, V0, V1, D0, D1, P0, P1, hcs, _, hl, hm, hmm, _, hx⟩
  · exact ⟨none, 0, 0, [], hcs, rfl, fun h => absurd h (by simp), Nat.le_refl _, fun _ => ⟨rfl, rfl⟩⟩
  · have hlm : len ≤ m := by rw [hmm]; simpa using hl
    have each : ∀ i, i < m → ∃ q : List Int × List Int, ∃ A1 c1 A2 c2, W.cell? (a.add (i * 2)) = some (.slice A1 q.1.length c1) ∧ W.cell? (a.add (i * 2 + 1)) = some (.slice A2 q.2.length c2) ∧
        Ints W W.heap.size A1 q.1 ∧ Ints W W.heap.size A2 q.2 ∧ (A1 = none → q.1.length = 0 ∧ c1 = 0) ∧ (A2 = none → q.2.length = 0 ∧ c2 = 0) := fun i hi => by
      obtain ⟨c0, c1, t0, t1⟩ := hx i hi
      obtain ⟨A1, n1, k1, z1, e1, hl1, hi1, hn1⟩ := open_ints' t0
      obtain ⟨A2, n2, k2, z2, e2, hl2, hi2, hn2⟩ := open_ints' t1
      simp at e1 e2
      rw [e1] at c0
      rw [e2] at c1
      subst hl1 hl2
      exact ⟨(z1, z2), A1, k1, A2, k2, c0, c1, hi1, hi2, hn1, hn2⟩
    obtain ⟨q, hq⟩ := choose_lt each
    refine ⟨some a, len, cap, (List.range len).map q, hcs, by simp, fun hp => ?_, hl, fun e => by cases e⟩
    have hp : 0 < len := by simpa using hp
    obtain ⟨_, _, _, _, hh, _⟩ := hq 0 (by omega)
    obtain ⟨b, off, rfl⟩ := spotless (by simpa [Addr.add] using hh)
    refine ⟨b, off, rfl, cell_below hh, fun k x hx => ?_⟩
    have hk : k < len := by
      have := (List.getElem?_eq_some_iff.1 hx).1
      simpa using this
    rw [List.getElem?_map, List.getElem?_range hk] at hx
    obtain rfl : q k = x := by simpa using hx
    obtain ⟨A1, c1, A2, c2, q0, q1, rest⟩ := hq k (by omega)
    rw [addr_add] at q0 q1
    exact ⟨A1, c1, A2, c2, q0, by rw [show off + k * 2 + 1 = off + (k * 2 + 1) by omega]; exact q1, rest⟩
set_option maxRecDepth 100000 in
/-- An argument that is a task. -/
theorem open_desc {base : Nat} {v : Value} {d : DataW H} {p : List MemPlace}
    (hv : Value.okWide Tryz.prog W .any base 27 v) (h : DataW.Trod enc Tryz.prog W 0 (fun _ => true) true 27 v d p) :
    ∃ (s : Sh) (T : Task), v = s.arg T.period T.deadline ∧ InD W s T := by
  obtain ⟨cs, rfl, hsz⟩ := okWide_struct Tryz.underlying27 hv
  have hC : Tryz.prog.cellsOf 27 = 6 := by kernel_rfl
  obtain ⟨fuel, hf⟩ := h
  obtain ⟨xs, k, _, _, _, hxl, hg⟩ := DataW.trod_struct Tryz.underlying27 hf
  rw [hC] at hsz
  obtain ⟨l⟩ := cs
  match xs, hxl, l, hsz with
  | [y0, y1, y2, y3, y4, y5], _, [v0, v1, v2, v3, v4, v5], _ =>
    have g0 := hg 0 _ rfl
    have g1 := hg 1 _ rfl
    have g2 := hg 2 _ rfl
    have g3 := hg 3 _ rfl
    have g4 := hg 4 _ rfl
    have g5 := hg 5 _ rfl
    have k0 : Tryz.prog.cellsOf 3 = 1 := by kernel_rfl
    have k2 : Tryz.prog.cellsOf 22 = 1 := by kernel_rfl
    have k3 : Tryz.prog.cellsOf 23 = 1 := by kernel_rfl
    have k4 : Tryz.prog.cellsOf 24 = 1 := by kernel_rfl
    have k5 : Tryz.prog.cellsOf 25 = 1 := by kernel_rfl
    simp [Value.cells, k0, k2, k3, k4, k5] at g0 g1 g2 g3 g4 g5
    obtain ⟨z0, e0, _, _⟩ := DataW.trod_int Tryz.underlying3 g0
    obtain ⟨z1, e1, _, _⟩ := DataW.trod_int Tryz.underlying3 g1
    obtain ⟨A2, n2, c2, es2, e2, l2, m2, b2, s2⟩ := open_trips Tryz.underlying22 Tryz.underlying46 (by kernel_rfl) rfl rfl rfl (by kernel_rfl) (by kernel_rfl) (by kernel_rfl) Tryz.underlying44 Tryz.underlying3 Tryz.underlying3 g2
    obtain ⟨A3, n3, c3, es3, e3, l3, m3, b3, s3⟩ := open_edges g3
    obtain ⟨A4, n4, c4, es4, e4, l4, m4, b4, s4⟩ := open_trips Tryz.underlying24 Tryz.underlying50 (by kernel_rfl) rfl rfl rfl (by kernel_rfl) (by kernel_rfl) (by kernel_rfl) Tryz.underlying3 Tryz.underlying3 Tryz.underlying3 g4
    obtain ⟨A5, n5, c5, es5, e5, l5, m5, b5, s5⟩ := open_bars g5
    simp at e0 e1 e2 e3 e4 e5
    subst e0 e1 e2 e3 e4 e5
    exact ⟨⟨A2, n2, c2, A3, n3, c3, A4, n4, c4, A5, n5, c5⟩, ⟨z0, z1, es2, es3, es4, es5⟩, rfl, ⟨⟨l2, l3, l4, l5, m2, m3, m4, m5, s2, s3, s4, s5⟩, b3, b4⟩⟩
end
end Go.Proofs.YtkmajhbfmdoamaaGreatDoor
set_option linter.unusedVariables false
namespace Go.Proofs.YtkmajhbfmdoamaaGreatDoor
open Go.ChangeShapes Go.WideShapes Go.ChangeAt Go.RowKit Go.Joins Go.Deep

section
variable {H : Type} {enc : TypeId × Value → H} {W : World}
theorem open_ints9 {fuel : Nat} {cs : List Value} {x : DataW H × List MemPlace} (h0 : DataW.trod enc Tryz.prog W 0 (fun _ => true) true fuel 28 cs = some x) :
    ∃ A n c, ∃ zs : List Int, cs = [.slice A n c] ∧ zs.length = n ∧ Ints W W.heap.size A zs ∧ n ≤ 9223372036854775807 ∧ (A = none → n = 0 ∧ c = 0) ∧ ∀ z ∈ zs, -9223372036854775808 ≤ z ∧ z ≤ 9223372036854775807 := by
  obtain ⟨A, n, c, zs, hcs, hrow⟩ : ∃ A n c zs, cs = [.slice A n c] ∧ IsRow .i64 W A n c zs := by
    rcases open_ints Tryz.underlying28 Tryz.underlying3 (by kernel_rfl) h0 with ⟨hcs, _⟩ | ⟨x, l, c, zs, hcs, _, hl, hm, hz, _, hcell, hwz⟩
    · exact ⟨none, 0, 0, [], hcs, .inl ⟨rfl, rfl, rfl, rfl⟩⟩
    · exact ⟨_, _, _, zs, hcs, .inr ⟨_, rfl, hl, hm, by simpa using hz, hcell, hwz⟩⟩
  obtain ⟨r1, r2, r3, r4, r5⟩ := row_ints hrow
  refine ⟨A, n, c, zs.take n, hcs, r2, r1, r4, fun e => ?_, row_wf hrow⟩
  have := r3 e
  omega
end
end Go.Proofs.YtkmajhbfmdoamaaGreatDoor
set_option linter.unusedVariables false
namespace Go.Proofs.YtkmajhbfmdoamaaGreatDoor
open Go.ChangeShapes Go.WideShapes Go.ChangeAt Go.RowKit Go.Joins Go.Deep

/-- A list of integers, as it came in. -/
structure InI (w : World) (A : Option Addr) (n c : Nat) (zs : List Int) : Prop where
  hn : zs.length = n
  ln : n ≤ 9223372036854775807
  ints : Ints w w.heap.size A zs
  hA : A = none → n = 0 ∧ c = 0
  wf : ∀ z ∈ zs, -9223372036854775808 ≤ z ∧ z ≤ 9223372036854775807
theorem InI.below {w w' : World} {A : Option Addr} {n c : Nat} {zs : List Int} (h : InI w A n c zs) (hb : Below w.heap.size w w') : InI w' A n c zs := ⟨h.hn, h.ln, (h.ints.below hb).more hb.size, h.hA, h.wf⟩
/-- A memory, as it came in. -/
structure InM (w : World) (A : Option Addr) (n c : Nat) (F : Option Addr) (m d : Nat) (D : List Bool) (V : List Int) : Prop where
  hn : D.length = n
  hm : V.length = m
  ln : n ≤ 9223372036854775807
  lm : m ≤ 9223372036854775807
  bools : Bools w w.heap.size A D
  ints : Ints w w.heap.size F V
  hA : A = none → n = 0 ∧ c = 0
  hF : F = none → m = 0 ∧ d = 0
theorem InM.below {w w' : World} {A : Option Addr} {n c : Nat} {F : Option Addr} {m d : Nat} {D : List Bool} {V : List Int} (h : InM w A n c F m d D V) (hb : Below w.heap.size w w') : InM w' A n c F m d D V :=
  ⟨h.hn, h.hm, h.ln, h.lm, (h.bools.below hb).more hb.size, (h.ints.below hb).more hb.size, h.hA, h.hF⟩
section
variable {H : Type} {enc : TypeId × Value → H} {W : World}
theorem open_bools9 {fuel : Nat} {cs : List Value} {x : DataW H × List MemPlace} (h0 : DataW.trod enc Tryz.prog W 0 (fun _ => true) true fuel 29 cs = some x) :
    ∃ A n c, ∃ zs : List Bool, cs = [.slice A n c] ∧ zs.length = n ∧ Bools W W.heap.size A zs ∧ n ≤ 9223372036854775807 ∧ (A = none → n = 0 ∧ c = 0) := by
  rcases open_slice1 Tryz.underlying29 (by kernel_rfl) h0 with ⟨hcs, _⟩ | ⟨a, len, cap, m, nn, V, D, Pl, hcs, _, hl, hm, hmm, _, hx⟩
  · exact ⟨none, 0, 0, [], hcs, rfl, fun h => absurd h (by simp), by omega, fun _ => ⟨rfl, rfl⟩⟩
  · have hlm : len ≤ m := by rw [hmm]; simpa using hl
    have each : ∀ i, i < m → ∃ q : Bool, W.cell? (a.add i) = some (.bool q) := fun i hi => by
      obtain ⟨c0, t0⟩ := hx i hi
      obtain ⟨b, e0, _⟩ := DataW.trod_bool Tryz.underlying4 t0
      simp at e0
      rw [e0] at c0
      exact ⟨b, c0⟩
    obtain ⟨q, hq⟩ := choose_lt each
    refine ⟨some a, len, cap, (List.range len).map q, hcs, by simp, fun hp => ?_, by unfold maxLen at hm; omega, fun e => by cases e⟩
    have hp : 0 < len := by simpa using hp
    obtain ⟨b, off, rfl⟩ := spotless (by simpa [Addr.add] using hq 0 (by omega))
    have h0 := hq 0 (by omega)
    rw [addr_add] at h0
    refine ⟨b, off, rfl, cell_below h0, fun k hk => ?_⟩
    have hk : k < len := by simpa using hk
    have := hq k (by omega)
    rw [addr_add] at this
    rw [this, List.getD_eq_getElem?_getD, List.getElem?_map, List.getElem?_range hk]
    rfl
set_option maxRecDepth 100000 in
/-- An argument that is a memory. -/
theorem open_mem {base : Nat} {v : Value} {d : DataW H} {p : List MemPlace}
    (hv : Value.okWide Tryz.prog W .any base 31 v) (h : DataW.Trod enc Tryz.prog W 0 (fun _ => true) true 31 v d p) :
    ∃ A n c F m dd D V, v = .agg #[.slice A n c, .slice F m dd] ∧ InM W A n c F m dd D V := by
  obtain ⟨v0, v1, y0, y1, k, rfl, _, _, h0, h1⟩ := open_agg2 Tryz.underlying31 (by kernel_rfl) (by kernel_rfl) hv h
  obtain ⟨A, n, c, zs, e0, l0, m0, b0, s0⟩ := open_bools9 h0
  obtain ⟨F, m, dd, es, e1, l1, m1, b1, s1, _⟩ := open_ints9 h1
  simp at e0 e1
  subst e0 e1
  exact ⟨_, _, _, _, _, _, zs, es, rfl, ⟨l0, l1, b0, b1, m0, m1, s0, s1⟩⟩
set_option maxRecDepth 100000 in
/-- An argument that is a list of integers. -/
theorem open_intl {base : Nat} {v : Value} {d : DataW H} {p : List MemPlace}
    (hv : Value.okWide Tryz.prog W .any base 28 v) (h : DataW.Trod enc Tryz.prog W 0 (fun _ => true) true 28 v d p) :
    ∃ A n c zs, v = .slice A n c ∧ InI W A n c zs := by
  obtain ⟨a0, len0, cap0, rfl⟩ := okWide_slice Tryz.underlying28 hv
  obtain ⟨fuel, hf⟩ := h
  obtain ⟨A, n, c, zs, e0, l0, m0, b0, s0, w0⟩ := open_ints9 hf
  simp [Value.cells] at e0
  obtain ⟨rfl, rfl, rfl⟩ := e0
  exact ⟨_, _, _, zs, rfl, ⟨l0, b0, m0, s0, w0⟩⟩
end
end Go.Proofs.YtkmajhbfmdoamaaGreatDoor
