/- The contract of math/bits.TrailingZeros64 in the seat YtcjmljpfhabmnaaDoor, over a world that holds its table.
   Words for memory in the seat YtcjmljpfhabmnaaDoor: a slice that reads as a list of integers. No statement is proved here; the other texts of the claim use these lemmas.
   What the proofs over the rows of the seat YtcjmljpfhabmnaaDoor share, where the rows list no variables.
   What the walks of layer 5 ask of a world's package variables, in the seat YtcjmljpfhabmnaaDoor: math/bits' table of 64. (Copy over DTab.tpl for a landed program that reads it.)
   What every row of the layer desc in the seat YtcjmljpfhabmnaaDoor lists of package-level variables (math/bits' tables of 32 and of 64), and a world that holds them.
   Graphs (plain): edges, ways, paths, what leads round, in the seat YtcjmljpfhabmnaaDoor. No statement is proved here; it imports nothing of the program.
   No statement is proved here. -/
import Derived.Test.YtcjmljpfhabmnaaDoorChecked
import Derived.WalkKit
import Derived.Handy
import Derived.KernelRfl
import Derived.Below
import Derived.Laws.Bits64b
import Derived.Lib.TrailingZeros
import Derived.Lib.Hide
import Derived.Laws.AppendOwnNone
import Derived.Deep.AppendLies
import Derived.Maps.AppendAt
import Derived.Test.YtcjmljpfhabmnaaDoorRows
import Derived.ProofKit
import Derived.OpenShut
import Derived.ShutString
import Derived.ChangeOld
import Derived.ChangeMaps5
import Derived.Test.YtcjmljpfhabmnaaDoorCards
import Derived.Test.YtcjmljpfhabmnaaDoorTie
import Derived.Deep.DeepHandedRow
import Derived.Lib.LaidTab
import Derived.Stop.LaidErr
set_option linter.unusedSimpArgs false
set_option linter.unusedVariables false
namespace Go.Proofs.YtcjmljpfhabmnaaDoor
open Go.RowKit

/-- The table of math/bits in its variable. -/
def Tab64 (w : World) : Prop := ∀ j, j < Lib.deBruijn64tab.length → w.cell? ⟨1, j, none⟩ = some (.int .u8 (Lib.deBruijn64tab.getD j 0))
theorem Tab64.below {w w' : World} {B : Nat} (h : Tab64 w) (hb : Below B w w') (hB : 1 < B) : Tab64 w' := fun j hj => (hb.cell (p := ⟨1, j, none⟩) hB).trans (h j hj)
theorem Tab64.lt {w : World} (h : Tab64 w) : 1 < w.heap.size := World.block_lt_of_cell? _ _ (h 0 (by decide))
theorem Tab64.via {w w' : World} (h : Tab64 w) (hb : Below w.heap.size w w') : Tab64 w' := h.below hb h.lt

set_option maxHeartbeats 1000000 in
theorem tz64_core (x k idx : Nat) (w : World) (hx0 : ((x : Int) == 0) = false)
    (key : IntKind.u64.wrap (bits BinOp.and IntKind.u64 (x : Int) (IntKind.u64.wrap (-(x : Int))) * 285870213051353865) / 288230376151711744 = (idx : Int))
    (hi : idx < 64) (hk : k < 64) (hcell : w.cell? ⟨1, idx, none⟩ = some (.int .u8 k)) :
    Calls Tryd.prog 35 #[.int .u64 x] w fun e w' => e = .returned (.int .i64 k) ∧ w = w' := by
  go_enter Tryd.func35, Tryd.ntmps35
  go_wp2_with (simp only [key])
  go_ret
  exact ⟨rfl, rfl⟩
theorem tz64_at (x a : Nat) (hx : x < 18446744073709551616) (hx0 : x ≠ 0) (hlow : x &&& (18446744073709551616 - x) = a) :
    IntKind.u64.wrap (bits BinOp.and IntKind.u64 (x : Int) (IntKind.u64.wrap (-(x : Int))) * 285870213051353865) / 288230376151711744 = ((a * 285870213051353865 % 18446744073709551616 / 288230376151711744 : Nat) : Int) := by
  have e1 : IntKind.u64.wrap (-(x : Int)) = ((18446744073709551616 - x : Nat) : Int) := by rw [IntKind.wrap_u64]; omega
  rw [e1, bits_and_u64_nat x _ hx (by omega), hlow, IntKind.wrap_u64]
  omega
theorem tz64_any (x : Nat) (w : World) (hx : x < 18446744073709551616) (hx0 : x ≠ 0) (hT : Tab64 w) :
    Calls Tryd.prog 35 #[.int .u64 x] w fun e w' => e = .returned (.int .i64 (Lib.ctz 64 x)) ∧ w = w' := by
  obtain ⟨hlow, hk⟩ := Lib.lowest_bit 64 x hx0 hx
  obtain ⟨hi, htab⟩ := Lib.deBruijn64_at _ hk
  have hcell := hT _ hi
  rw [htab] at hcell
  exact tz64_core x _ _ w (by simp; omega) (tz64_at x _ hx hx0 hlow) hi hk hcell
end Go.Proofs.YtcjmljpfhabmnaaDoor
namespace Go.Proofs.YtcjmljpfhabmnaaDoor
open Go.RowKit

/-- A slice value (its address A, its length that of zs) reads as the integers zs, below block B. -/
def Ints (w : World) (B : Nat) (A : Option Addr) (zs : List Int) : Prop :=
  0 < zs.length → ∃ b off, A = some ⟨b, off, none⟩ ∧ b < B ∧ ∀ k, k < zs.length → w.cell? ⟨b, off + k, none⟩ = some (.int .i64 (zs.getD k 0))
theorem Ints.at_ {w : World} {B : Nat} {A : Option Addr} {zs : List Int} {k : Nat} (h : Ints w B A zs) (hk : k < zs.length) :
    ∃ b off z, A = some ⟨b, off, none⟩ ∧ b < B ∧ zs[k]? = some z ∧ w.cell? ⟨b, off + k, none⟩ = some (.int .i64 z) := by
  obtain ⟨b, off, e, hb, hc⟩ := h (by omega)
  exact ⟨b, off, zs[k], e, hb, List.getElem?_eq_getElem hk, by rw [hc k hk, List.getD_eq_getElem?_getD, List.getElem?_eq_getElem hk]; rfl⟩
theorem Ints.keep {w w' : World} {B : Nat} {A : Option Addr} {zs : List Int} (h : Ints w B A zs) (hk : ∀ p : Addr, p.block < B → w'.cell? p = w.cell? p) : Ints w' B A zs := fun hn => by
  obtain ⟨b, off, e, hb, hc⟩ := h hn
  exact ⟨b, off, e, hb, fun k hk' => (hk _ hb).trans (hc k hk')⟩
theorem Ints.more {w : World} {B B' : Nat} {A : Option Addr} {zs : List Int} (h : Ints w B A zs) (hB : B ≤ B') : Ints w B' A zs := fun hn => by
  obtain ⟨b, off, e, hb, hc⟩ := h hn
  exact ⟨b, off, e, by omega, hc⟩
theorem Ints.below {w w' : World} {B : Nat} {A : Option Addr} {zs : List Int} (h : Ints w B A zs) (hb : Below B w w') : Ints w' B A zs := h.keep fun _ hp => hb.cell hp
theorem Ints.alloc {w : World} {B : Nat} {A : Option Addr} {zs : List Int} (h : Ints w B A zs) (hB : B ≤ w.heap.size) (o : Obj) : Ints (w.alloc o) B A zs :=
  h.keep fun p hp => World.cell?_alloc_lt w o p (by omega)
theorem Ints.nil_ (w : World) (B : Nat) (A : Option Addr) : Ints w B A [] := fun h => absurd h (by simp)
theorem Ints.take {w : World} {B : Nat} {A : Option Addr} {zs : List Int} (h : Ints w B A zs) (i : Nat) : Ints w B A (zs.take i) := fun hn => by
  have hl : (zs.take i).length ≤ zs.length := by simp; omega
  obtain ⟨b, off, e, hb, hc⟩ := h (by omega)
  refine ⟨b, off, e, hb, fun k hk => ?_⟩
  have hk2 : k < i := by simp at hk; omega
  rw [hc k (by omega), List.getD_eq_getElem?_getD, List.getD_eq_getElem?_getD, List.getElem?_take, if_pos hk2]
theorem addr_add (b off j : Nat) : (⟨b, off, none⟩ : Addr).add j = ⟨b, off + j, none⟩ := by unfold Addr.add; by_cases h0 : j = 0 <;> simp [h0]
theorem Ints.cells {w : World} {B : Nat} {ad : Addr} {zs : List Int} (h : Ints w B (some ad) zs) : ∀ (j : Nat) (u : Value), (zs.map (Value.int .i64))[j]? = some u → w.cell? (ad.add j) = some u := by
  intro j u hu
  have hj : j < zs.length := by
    rcases Nat.lt_or_ge j zs.length with hlt | hge
    · exact hlt
    · rw [List.getElem?_eq_none (by simpa using hge)] at hu; cases hu
  obtain ⟨b, off, e, hb, hc⟩ := h (by omega)
  injection e with e
  subst e
  rw [addr_add, hc j hj]
  rw [List.getElem?_map, List.getElem?_eq_getElem hj] at hu
  rw [List.getD_eq_getElem?_getD, List.getElem?_eq_getElem hj]
  simpa using hu
theorem Ints.none_nil {w : World} {B : Nat} {zs : List Int} (h : Ints w B none zs) : zs = [] := by
  rcases Nat.eq_zero_or_pos zs.length with h0 | h0
  · exact List.eq_nil_of_length_eq_zero h0
  · obtain ⟨_, _, e, _⟩ := h h0
    cases e
theorem oneCell_ints (zs : List Int) : ∀ u ∈ zs.map (Value.int .i64), u.oneCell' = true := by
  intro u hu
  obtain ⟨n, _, rfl⟩ := List.mem_map.mp hu
  rfl
theorem Ints.of_own {w : World} {base : Nat} {e : TypeId} {v : Value} {zs : List Int} (h : w.ownsRow base e 1 v zs.length (zs.map (Value.int .i64))) :
    ∃ A c, v = .slice A zs.length c ∧ Ints w w.heap.size A zs := by
  by_cases hn : 0 < zs.length
  · obtain ⟨g, cap, hv, _, hlt⟩ := h.form hn
    refine ⟨some ⟨g, 0, none⟩, cap, hv, fun _ => ⟨g, 0, rfl, hlt, fun k hk => ?_⟩⟩
    subst hv
    have h1 : (zs.map (Value.int .i64))[k]? = some (.int .i64 (zs.getD k 0)) := by
      rw [List.getElem?_map, List.getElem?_eq_getElem hk, List.getD_eq_getElem?_getD, List.getElem?_eq_getElem hk]; rfl
    have := h.cells (g := g) rfl k _ h1
    rwa [addr_add] at this
  · obtain rfl : zs = [] := List.eq_nil_of_length_eq_zero (by omega)
    rcases h.2 with ⟨rfl, _⟩ | ⟨g, cap, cur, rfl, _⟩
    · exact ⟨none, 0, rfl, Ints.nil_ _ _ _⟩
    · exact ⟨some ⟨g, 0, none⟩, cap, rfl, Ints.nil_ _ _ _⟩
/-- A block that was just laid, of integers written out. -/
theorem Ints.new2 (w : World) (t : TypeId) (a b : Int) : Ints (w.alloc (.cells #[.int .i64 a, .int .i64 b] t)) (w.heap.size + 1) (some ⟨w.heap.size, 0, none⟩) [a, b] := fun _ => by
  refine ⟨_, _, rfl, by simp, fun k hk => ?_⟩
  match k, hk with
  | 0, _ => rw [World.cell?_alloc_at _ _ _ _ rfl]; rfl
  | 1, _ => rw [World.cell?_alloc_at _ _ _ _ rfl]; rfl
theorem Ints.new3 (w : World) (t : TypeId) (a b c : Int) : Ints (w.alloc (.cells #[.int .i64 a, .int .i64 b, .int .i64 c] t)) (w.heap.size + 1) (some ⟨w.heap.size, 0, none⟩) [a, b, c] := fun _ => by
  refine ⟨_, _, rfl, by simp, fun k hk => ?_⟩
  match k, hk with
  | 0, _ => rw [World.cell?_alloc_at _ _ _ _ rfl]; rfl
  | 1, _ => rw [World.cell?_alloc_at _ _ _ _ rfl]; rfl
  | 2, _ => rw [World.cell?_alloc_at _ _ _ _ rfl]; rfl
theorem below_alloc {w : World} (o : Obj) : Below w.heap.size w (w.alloc o) := (Below.refl _ _).alloc (Nat.le_refl _) o
/-- 'append([]int{}, l...)': a new slice of the same integers; nothing that was there has turned. -/
theorem wpList_copied {P : Program} {ops : Array Oper} {rest : List Oper} {o : Oper} {a : Act} {Q : Exit → Act → World → Prop} (hgd : o.guard = none) (s x : Operand) (t : TypeId)
    (ho : o.op = .call { callee := .builtin .append, args := #[s, x], argTypes := #[t, t] })
    (e : TypeId) (i : TypeInfo) (z : Value) (ht : P.underlying t = some (.slice e)) (hi : P.info? e = some i) (hz : i.zero = some z) (hsize : i.size = 1) (hby : i.bytes = 8) (hzs : z.cells.size = 1)
    (w1 : World) (B : Nat) (A : Option Addr) (cap len : Nat) (zs : List Int) (hlen : len = zs.length) (hl : len ≤ 1000) (hI : Ints w1 B A zs) (hB : B ≤ w1.heap.size) (hA : A = none → cap = 0)
    (hs : a.eval s = .slice (some ⟨w1.heap.size, 0, none⟩) 0 0) (hx : a.eval x = .slice A len cap)
    (h : ∀ A' c' w', Ints w' w'.heap.size A' zs → Below w1.heap.size w1 w' → wpList P ops Q rest (a.put o.dst (.slice A' len c')) w') : wpList P ops Q (o :: rest) a (w1.alloc (.cells #[] e)) := by
  have hown : (w1.alloc (.cells #[] e)).ownsRow w1.heap.size e 1 (.slice (some ⟨w1.heap.size, 0, none⟩) 0 0) 0 [] :=
    ⟨rfl, .inr ⟨w1.heap.size, 0, #[], rfl, Nat.le_refl _, heap_alloc_new w1 _, Nat.le_refl _, by simp [maxLen], rfl, rfl⟩⟩
  subst hlen
  rcases A with _ | ad
  · have e0 : zs = [] := hI.none_nil
    have e1 : cap = 0 := hA rfl
    subst e0 e1
    exact wpList_append_own_none hgd s x t ho w1.heap.size e i 1 ht hi _ 0 [] hs hown hx (h _ _ _ (Ints.nil_ _ _ _) (below_alloc _))
  · refine wpList_append_own _ hgd s x t ho w1.heap.size e i z 1 8 ht hi hz hsize hby hzs (by omega) _ 0 [] hs hown ad zs.length cap (zs.map (Value.int .i64)) hx (by simp) (hI.alloc hB _).cells (oneCell_ints zs)
      (by unfold maxLen; omega) (by omega) (by simp) ?_
    intro v' w' hown' hg _
    rw [Nat.zero_add, List.nil_append] at hown'
    obtain ⟨A', c', rfl, hI'⟩ := Ints.of_own hown'
    exact h A' c' w' hI' ((below_alloc _).grown hg (by simp) (by simp [Value.ownBlock]))
end Go.Proofs.YtcjmljpfhabmnaaDoor
namespace Go.Proofs.YtcjmljpfhabmnaaDoor
open Go.ChangeShapes Go.WideShapes Go.ChangeAt Go.RowKit

theorem own : ownKnob Tryd.prog.godebug = none := by kernel_rfl
theorem laidOut : laidOutB Tryd.prog = true := by kernel_rfl
theorem cell_below {w : World} {b off : Nat} {v : Value} (h : w.cell? ⟨b, off, none⟩ = some v) : b < w.heap.size := by
  rcases Nat.lt_or_ge b w.heap.size with hlt | hge
  · exact hlt
  · unfold World.cell? at h
    simp [Array.getElem?_eq_none hge] at h
/-- What a slice of integers that came in is: nil, or a row of cells. -/
def IsRow (k : IntKind) (w : World) (a : Option Addr) (len cap : Nat) (zs : List Int) : Prop :=
  (a = none ∧ len = 0 ∧ cap = 0 ∧ zs = []) ∨
  ∃ x, a = some x ∧ len ≤ cap ∧ cap ≤ maxLen ∧ zs.length = cap ∧ (∀ i, i < zs.length → w.cell? (x.add i) = some (.int k (zs.getD i 0))) ∧ ∀ n ∈ zs, (Lit.int k n).wf = true
theorem row_ints {w : World} {a : Option Addr} {len cap : Nat} {zs : List Int} (h : IsRow .i64 w a len cap zs) :
    Ints w w.heap.size a (zs.take len) ∧ (zs.take len).length = len ∧ (a = none → cap = 0) ∧ len ≤ 9223372036854775807 ∧ len ≤ cap := by
  rcases h with ⟨rfl, rfl, rfl, rfl⟩ | ⟨x, rfl, hl, hm, hz, hc, _⟩
  · exact ⟨Ints.nil_ _ _ _, rfl, fun _ => rfl, by omega, by omega⟩
  · have hlen : (zs.take len).length = len := by rw [List.length_take]; omega
    refine ⟨fun hn => ?_, hlen, (fun e => by cases e), by unfold maxLen at hm; omega, hl⟩
    obtain ⟨b, off, rfl, hc'⟩ := ints_at hc (by omega)
    refine ⟨b, off, rfl, cell_below (hc' 0 (by omega)), fun k hk => ?_⟩
    have hk2 : k < len := by omega
    rw [hc' k (by omega), List.getD_eq_getElem?_getD, List.getD_eq_getElem?_getD, List.getElem?_take, if_pos hk2]
theorem row_wf {w : World} {a : Option Addr} {len cap : Nat} {zs : List Int} (h : IsRow .i64 w a len cap zs) : ∀ z ∈ zs.take len, -9223372036854775808 ≤ z ∧ z ≤ 9223372036854775807 := by
  have e1 : IntKind.i64.min = -9223372036854775808 := by decide
  have e2 : IntKind.i64.max = 9223372036854775807 := by decide
  intro z hz
  rcases h with ⟨_, _, _, rfl⟩ | ⟨_, _, _, _, _, _, hw⟩
  · simp at hz
  · have hh := hw z (List.mem_of_mem_take hz)
    simp [Lit.wf, e1, e2] at hh
    omega
end Go.Proofs.YtcjmljpfhabmnaaDoor
namespace Go.Proofs.YtcjmljpfhabmnaaDoor
open Go Go.RowKit
def DTab (w : World) : Prop := Tab64 w
theorem DTab.via {w w' : World} (h : DTab w) (hb : Below w.heap.size w w') : DTab w' := Tab64.via h hb
end Go.Proofs.YtcjmljpfhabmnaaDoor
namespace Go.Proofs.YtcjmljpfhabmnaaDoor
open Go.ChangeShapes Go.WideShapes Go.ChangeAt Go.RowKit

theorem gTab64 : Tryd.prog.globalNamed "math/bits.deBruijn64tab" = some 1 := by kernel_rfl
theorem gTab64Type : (Tryd.prog.globals[1]?).map (·.type) = some 66 := by kernel_rfl
theorem cells64 : Tryd.prog.cellsOf 66 = 64 := by kernel_rfl
theorem cells8 : Tryd.prog.cellsOf 5 = 1 := by kernel_rfl
theorem laidMet_tail {P : Program} {W : World} {a : String × DataW Unit} {rest : List (String × DataW Unit)} (h : laidMet P (a :: rest) W) : laidMet P rest W := by
  obtain ⟨ps, hv, hnd, hc⟩ := h
  obtain ⟨_, _, _, _, p, q, _, _, _, _, hr, rfl⟩ := hv
  exact ⟨q, hr, (List.nodup_append.mp hnd).2.1, fun b off hm => hc b off (List.mem_append_right _ hm)⟩
/-- What the rows' list gives: the table's cells hold its numbers. -/
theorem tabs_of {W : World} (h : laidMetH Tryd.prog [("math/bits.deBruijn32tab", Rows.laid_math_bits_deBruijn32tab), ("math/bits.deBruijn64tab", Rows.laid_math_bits_deBruijn64tab)] W) : DTab W := by
  have h1 : laidMet Tryd.prog [("math/bits.deBruijn32tab", Rows.laid_math_bits_deBruijn32tab), ("math/bits.deBruijn64tab", Rows.laid_math_bits_deBruijn64tab)] W := h
  have h2 := laidMet_tail h1
  have h3 : Lib.TabIs Tryd.prog W "math/bits.deBruijn64tab" .u8 (Lib.deBruijn64tab.map Int.ofNat) :=
    Lib.tabIs_of_head (rest := []) gTab64 gTab64Type Tryd.underlying66 Tryd.underlying5 cells8 cells64 h2
  intro j hj
  rw [h3.cell gTab64 j (by simpa using hj)]
  congr 2
  rw [List.getD_eq_getElem?_getD, List.getElem?_map, List.getElem?_eq_getElem hj, List.getD_eq_getElem?_getD, List.getElem?_eq_getElem hj]
  rfl
theorem wf64 {a : Int} (h : (Lit.int .i64 a).wf = true) : -9223372036854775808 ≤ a ∧ a ≤ 9223372036854775807 := by
  have e1 : IntKind.i64.min = -9223372036854775808 := by decide
  have e2 : IntKind.i64.max = 9223372036854775807 := by decide
  simp [Lit.wf, e1, e2] at h
  omega
def tab32 : List Nat := [0, 1, 28, 2, 29, 14, 24, 3, 30, 22, 20, 15, 25, 17, 4, 8, 31, 27, 13, 23, 21, 19, 16, 7, 26, 12, 18, 6, 11, 5, 10, 9]
def setTab (l : List Nat) : Obj → Obj
  | .cells _ t frozen => .cells (l.map fun n => Value.int .u8 (Int.ofNat n)).toArray t frozen
  | o => o
/-- A world for the witness: the settled one, the tables holding what their initialisers lay. -/
noncomputable def laidWorld (os : Os) : World :=
  { World.holding Tryd.prog os ⟨#[], #[], []⟩ with heap := ((World.holding Tryd.prog os ⟨#[], #[], []⟩).heap.modify 0 (setTab tab32)).modify 1 (setTab Lib.deBruijn64tab) }
end Go.Proofs.YtcjmljpfhabmnaaDoor
set_option linter.unusedVariables false
namespace Go.Proofs.YtcjmljpfhabmnaaDoor

/-- An edge between two nodes; a way along one edge or more. -/
def ed (E : List (Int × Int)) (a b : Nat) : Prop := ((a : Int), (b : Int)) ∈ E
instance (E : List (Int × Int)) (a b : Nat) : Decidable (ed E a b) := by unfold ed; infer_instance
inductive Way (E : List (Int × Int)) : Nat → Nat → Prop
  | one {a b : Nat} : ed E a b → Way E a b
  | more {a b c : Nat} : Way E a b → ed E b c → Way E a c
def Acyc (E : List (Int × Int)) : Prop := ∀ a, ¬ Way E a a
/-- All edges lead between nodes below n. -/
def Fits (n : Nat) (E : List (Int × Int)) : Prop := ∀ e ∈ E, 0 ≤ e.1 ∧ e.1 < n ∧ 0 ≤ e.2 ∧ e.2 < n
/-- A path, its last node first. -/
def Up (E : List (Int × Int)) : List Nat → Prop
  | [] => False
  | [_] => True
  | b :: a :: r => ed E a b ∧ Up E (a :: r)

variable {E : List (Int × Int)}
theorem Way.trans {a b c : Nat} (h : Way E a b) (k : Way E b c) : Way E a c := by
  induction k with
  | one e => exact .more h e
  | more _ e ih => exact .more ih e
/-- A way's first edge. -/
theorem Way.first {a b : Nat} (h : Way E a b) : ed E a b ∨ ∃ c, ed E a c ∧ Way E c b := by
  induction h with
  | one e => exact .inl e
  | more _ e ih =>
    rcases ih with h | ⟨c, h1, h2⟩
    · exact .inr ⟨_, h, .one e⟩
    · exact .inr ⟨c, h1, .more h2 e⟩
theorem Way.last {a b : Nat} (h : Way E a b) : ∃ c, ed E c b ∧ (c = a ∨ Way E a c) := by
  cases h with
  | one e => exact ⟨a, e, .inl rfl⟩
  | more h e => exact ⟨_, e, .inr h⟩
theorem Way.mono {E' : List (Int × Int)} {a b : Nat} (h : Way E a b) (hE : ∀ a b, ed E a b → ed E' a b) : Way E' a b := by
  induction h with
  | one e => exact .one (hE _ _ e)
  | more _ e ih => exact .more ih (hE _ _ e)
theorem ed_lt {n a b : Nat} (hF : Fits n E) (h : ed E a b) : a < n ∧ b < n := by
  have := hF _ h
  simp at this
  omega
theorem Way.lt {n a b : Nat} (hF : Fits n E) (h : Way E a b) : a < n ∧ b < n := by
  induction h with
  | one e => exact ed_lt hF e
  | more _ e ih => exact ⟨ih.1, (ed_lt hF e).2⟩
theorem Up.tail {b : Nat} {r : List Nat} (h : Up E (b :: r)) (hr : r ≠ []) : Up E r := by
  cases r with
  | nil => exact absurd rfl hr
  | cons a r => exact h.2
/-- From any other node of a path a way leads to its end. -/
theorem Up.way : ∀ {r : List Nat} {b : Nat}, Up E (b :: r) → ∀ a ∈ r, Way E a b
  | [], _, _, a, ha => by simp at ha
  | c :: r, b, h, a, ha => by
    rcases List.mem_cons.mp ha with rfl | ha
    · exact .one h.1
    · exact .more (Up.way h.2 a ha) h.1
theorem Up.nodup (hA : Acyc E) : ∀ {p : List Nat}, Up E p → p.Nodup
  | [], h => h.elim
  | [b], _ => by simp
  | b :: a :: r, h => by
    rw [List.nodup_cons]
    refine ⟨fun hm => hA b (Up.way h b hm), Up.nodup hA h.2⟩
theorem Up.lt {n : Nat} (hF : Fits n E) : ∀ {p : List Nat}, Up E p → (∀ b, p = [b] → b < n) → ∀ x ∈ p, x < n
  | [], h, _, _, _ => h.elim
  | [b], _, h1, x, hx => by
    obtain rfl : x = b := by simpa using hx
    exact h1 x rfl
  | b :: a :: r, h, _, x, hx => by
    have hab := ed_lt hF h.1
    rcases List.mem_cons.mp hx with rfl | hx
    · exact hab.2
    · exact Up.lt hF h.2 (fun c hc => by injection hc with hc _; omega) x hx
/-- A way as a path. -/
theorem Way.up {a b : Nat} (h : Way E a b) : ∃ r, Up E (b :: r) ∧ r.getLast? = some a := by
  induction h with
  | one e => exact ⟨[_], ⟨e, trivial⟩, rfl⟩
  | more _ e ih =>
    obtain ⟨r, hr, hl⟩ := ih
    refine ⟨_ :: r, ⟨e, hr⟩, ?_⟩
    cases r with
    | nil => simp at hl
    | cons x r => rw [List.getLast?_cons_cons]; exact hl

/-- Numbers that are all another, each below n. -/
theorem sum_below (w : Nat → Nat) : ∀ (n : Nat) (l : List Nat), l.Nodup → (∀ x ∈ l, x < n) → (l.map w).sum ≤ ((List.range n).map w).sum
  | 0, l, _, h => by
    cases l with
    | nil => exact Nat.le_refl _
    | cons x r => exact absurd (h x (by simp)) (by omega)
  | n + 1, l, hn, h => by
    rw [List.range_succ, List.map_append, List.sum_append]
    by_cases hm : n ∈ l
    · have hp := List.perm_cons_erase hm
      have hs := (hp.map w).sum_nat
      rw [hs]
      have ih := sum_below w n (l.erase n) (hn.erase n) (fun x hx => by
        have h1 := (hn.mem_erase_iff).mp hx
        have := h x h1.2
        omega)
      simp only [List.map_cons, List.sum_cons, List.map_nil, List.sum_nil]
      omega
    · have ih := sum_below w n l hn (fun x hx => by
        have := h x hx
        have : x ≠ n := fun e => hm (e ▸ hx)
        omega)
      simp only [List.map_cons, List.sum_cons, List.map_nil, List.sum_nil]
      omega
theorem length_below (n : Nat) (l : List Nat) (hn : l.Nodup) (h : ∀ x ∈ l, x < n) : l.length ≤ n := by
  have h1 := sum_below (fun _ => 1) n l hn h
  rw [List.map_const', List.map_const', List.sum_replicate_nat, List.sum_replicate_nat, List.length_range] at h1
  omega
/-- A path, its first node first. -/
def Dn (E : List (Int × Int)) : List Nat → Prop
  | [] => False
  | [_] => True
  | a :: b :: r => ed E a b ∧ Dn E (b :: r)
theorem Dn.way : ∀ {r : List Nat} {a : Nat}, Dn E (a :: r) → ∀ b ∈ r, Way E a b
  | [], _, _, b, hb => by simp at hb
  | c :: r, a, h, b, hb => by
    rcases List.mem_cons.mp hb with rfl | hb
    · exact .one h.1
    · exact (Way.one h.1).trans (Dn.way h.2 b hb)
theorem Dn.nodup (hA : Acyc E) : ∀ {p : List Nat}, Dn E p → p.Nodup
  | [], h => h.elim
  | [b], _ => by simp
  | a :: b :: r, h => by
    rw [List.nodup_cons]
    exact ⟨fun hm => hA a (Dn.way h a hm), Dn.nodup hA h.2⟩
theorem Dn.lt {n : Nat} (hF : Fits n E) : ∀ {p : List Nat}, Dn E p → 2 ≤ p.length → ∀ x ∈ p, x < n
  | [], h, _, _, _ => h.elim
  | [b], _, h1, x, hx => by simp at h1
  | [a, b], h, _, x, hx => by
    have hab := ed_lt hF h.1
    simp at hx
    rcases hx with rfl | rfl
    · exact hab.1
    · exact hab.2
  | a :: b :: c :: r, h, _, x, hx => by
    have hab := ed_lt hF h.1
    rcases List.mem_cons.mp hx with rfl | hx
    · exact hab.1
    · exact Dn.lt hF h.2 (by simp) x hx
/-- Where nothing leads round: of any nodes that are left there is one to which no edge leads from another of them. -/
theorem source {n : Nat} (hF : Fits n E) (hA : Acyc E) (S : Nat → Prop) (u : Nat) (hu : S u) : ∃ v, S v ∧ ∀ a, ed E a v → ¬ S a := by
  apply Classical.byContradiction
  intro hno
  have hall : ∀ v, S v → ∃ a, ed E a v ∧ S a := fun v hv => Classical.byContradiction fun h => hno ⟨v, hv, fun a ha hs => h ⟨a, ha, hs⟩⟩
  have key : ∀ k : Nat, ∃ (a : Nat) (r : List Nat), r.length = k ∧ Dn E (a :: r) ∧ S a := by
    intro k
    induction k with
    | zero => exact ⟨u, [], rfl, trivial, hu⟩
    | succ k ih =>
      obtain ⟨a, r, hl, hp, ha⟩ := ih
      obtain ⟨b, hb, hs⟩ := hall a ha
      exact ⟨b, a :: r, by simp [hl], ⟨hb, hp⟩, hs⟩
  obtain ⟨a, r, hl, hp, _⟩ := key (n + 1)
  have h1 := length_below n (a :: r) (hp.nodup hA) (hp.lt hF (by simp [hl]))
  simp [hl] at h1
  omega

/-! An edge more, an edge less -/
theorem ed_snoc {a b x y : Nat} : ed (E ++ [((a : Int), (b : Int))]) x y ↔ ed E x y ∨ (x = a ∧ y = b) := by
  unfold ed
  rw [List.mem_append, List.mem_singleton, Prod.mk.injEq, Int.ofNat_inj, Int.ofNat_inj]
theorem way_snoc {a b x y : Nat} (h : Way (E ++ [((a : Int), (b : Int))]) x y) : Way E x y ∨ ((x = a ∨ Way E x a) ∧ (y = b ∨ Way E b y)) := by
  induction h with
  | one e =>
    rcases ed_snoc.mp e with e | ⟨rfl, rfl⟩
    · exact .inl (.one e)
    · exact .inr ⟨.inl rfl, .inl rfl⟩
  | more _ e ih =>
    rcases ed_snoc.mp e with e' | ⟨rfl, rfl⟩
    · rcases ih with h | ⟨h1, h2⟩
      · exact .inl (.more h e')
      · refine .inr ⟨h1, .inr ?_⟩
        rcases h2 with rfl | h2
        · exact .one e'
        · exact .more h2 e'
    · rcases ih with h | ⟨h1, _⟩
      · exact .inr ⟨.inr h, .inl rfl⟩
      · exact .inr ⟨h1, .inl rfl⟩
/-- An edge more leads round just if a way led back. -/
theorem acyc_snoc {a b : Nat} (hA : Acyc E) (hab : a ≠ b) : Acyc (E ++ [((a : Int), (b : Int))]) ↔ ¬ Way E b a := by
  constructor
  · intro h k
    refine h b ((k.mono fun x y e => ed_snoc.mpr (.inl e)).trans (.one (ed_snoc.mpr (.inr ⟨rfl, rfl⟩))))
  · intro h x hx
    rcases way_snoc hx with h1 | ⟨h1, h2⟩
    · exact hA x h1
    · rcases h1 with rfl | h1 <;> rcases h2 with h2 | h2
      · exact hab h2
      · exact h h2
      · subst h2
        exact h h1
      · exact h (h2.trans h1)
theorem Acyc.mono {E' : List (Int × Int)} (hA : Acyc E) (h : ∀ a b, ed E' a b → ed E a b) : Acyc E' := fun a hw => hA a (hw.mono h)
theorem Up.mono {E' : List (Int × Int)} (h : ∀ a b, ed E a b → ed E' a b) : ∀ {p : List Nat}, Up E p → Up E' p
  | [], k => k.elim
  | [_], _ => trivial
  | b :: a :: r, k => ⟨h _ _ k.1, Up.mono h k.2⟩

/-! The longest way -/
def wsum (W : List Int) (p : List Nat) : Int := (p.map fun x => W.getD x 0).sum
def In (n : Nat) (p : List Nat) : Prop := ∀ x ∈ p, x < n
/-- L is the greatest sum of work of the nodes on one path (0: there is no node). -/
def IsLong (W : List Int) (E : List (Int × Int)) (L : Int) : Prop :=
  (∀ p, Up E p → In W.length p → wsum W p ≤ L) ∧ ((W = [] ∧ L = 0) ∨ ∃ p, Up E p ∧ In W.length p ∧ wsum W p = L)
theorem IsLong.unique {W : List Int} {L M : Int} (h : IsLong W E L) (k : IsLong W E M) : L = M := by
  have one : ∀ {L M : Int}, IsLong W E L → IsLong W E M → L ≤ M := by
    intro L M h k
    rcases h.2 with ⟨hw, rfl⟩ | ⟨p, hp, hi, rfl⟩
    · rcases k.2 with ⟨_, rfl⟩ | ⟨p, hp, hi, _⟩
      · exact Int.le_refl _
      · subst hw
        cases p with
        | nil => exact hp.elim
        | cons x r => exact absurd (hi x (by simp)) (by simp)
    · exact k.1 p hp hi
  have := one h k
  have := one k h
  omega
theorem wsum_le {W : List Int} (hw : ∀ z ∈ W, 0 ≤ z) {p : List Nat} (hn : p.Nodup) (hi : In W.length p) : wsum W p ≤ W.sum := by
  have h := sum_below (fun x => (W.getD x 0).toNat) W.length p hn hi
  have e1 : ∀ q : List Nat, (((q.map fun x => (W.getD x 0).toNat).sum : Nat) : Int) = wsum W q := by
    intro q
    induction q with
    | nil => rfl
    | cons x q ih =>
      have h0 : 0 ≤ W.getD x 0 := by
        rw [List.getD_eq_getElem?_getD]
        cases hx : W[x]? with
        | none => exact Int.le_refl _
        | some z => exact hw z (List.mem_of_getElem? hx)
      unfold wsum at ih ⊢
      simp only [List.map_cons, List.sum_cons]
      rw [← ih]
      omega
  have e2 : wsum W (List.range W.length) = W.sum := by
    unfold wsum
    congr 1
    apply List.ext_getElem?
    intro i
    rw [List.getElem?_map]
    rcases Nat.lt_or_ge i W.length with h | h
    · rw [List.getElem?_range h]
      simp [List.getElem?_eq_getElem h]
    · rw [List.getElem?_eq_none (by simpa using h), List.getElem?_eq_none h]
      rfl
  have h2 : (((p.map fun x => (W.getD x 0).toNat).sum : Nat) : Int) ≤ (((List.range W.length).map fun x => (W.getD x 0).toNat).sum : Nat) := by exact_mod_cast h
  rw [e1, e1, e2] at h2
  exact h2
end Go.Proofs.YtcjmljpfhabmnaaDoor
