/- The contract of math/bits.TrailingZeros64 in the seat YtpaambpajpmjdaaDoor, over a world that holds its table.
   Words for memory in the seat YtpaambpajpmjdaaDoor: a slice that reads as a list of integers. No statement is proved here; the other texts of the claim use these lemmas.
   Words for memory in the seat YtpaambpajpmjdaaDoor: a block of cells that are all known, one of them written.
   Words for memory in the seat YtpaambpajpmjdaaDoor: a slice of edges that came in.
   Words for memory in the seat YtpaambpajpmjdaaDoor: a graph that came in: its works, its edges; the small functions of trefoilref04 and trefoillaw04 that only look at it.
   The contract of trefoilref04.Has in the seat YtpaambpajpmjdaaDoor.
   The contract of trefoilref02.Ints in the seat YtpaambpajpmjdaaDoor.
   That a call of a Go function enters it, in the seat YtpaambpajpmjdaaDoor.
   No statement is proved here. -/
import Derived.Test.YtpaambpajpmjdaaDoorChecked
import Derived.WalkKit
import Derived.Handy
import Derived.KernelRfl
import Derived.Below
import Derived.Laws.Bits64b
import Derived.Lib.TrailingZeros
import Derived.Lib.Hide
import Derived.Laws.AppendOwnNone
import Derived.Deep.AppendLies
import Derived.Maps.AppendAt
import Derived.WalkSmall
import Derived.Laws.Rows
import Derived.Laws.OwnMore
import Derived.Laws.MakeOwn
import Derived.BigQuiet
import Derived.Deep.QuietTactic
import Derived.Shelf.Abstract
set_option linter.unusedSimpArgs false
set_option linter.unusedVariables false
namespace Go.Proofs.YtpaambpajpmjdaaDoor
open Go.RowKit

/-- The table of math/bits in its variable. -/
def Tab64 (w : World) : Prop := ∀ j, j < Lib.deBruijn64tab.length → w.cell? ⟨0, j, none⟩ = some (.int .u8 (Lib.deBruijn64tab.getD j 0))
theorem Tab64.below {w w' : World} {B : Nat} (h : Tab64 w) (hb : Below B w w') (hB : 0 < B) : Tab64 w' := fun j hj => (hb.cell (p := ⟨0, j, none⟩) hB).trans (h j hj)
theorem Tab64.lt {w : World} (h : Tab64 w) : 0 < w.heap.size := World.block_lt_of_cell? _ _ (h 0 (by decide))
theorem Tab64.via {w w' : World} (h : Tab64 w) (hb : Below w.heap.size w w') : Tab64 w' := h.below hb h.lt

set_option maxHeartbeats 1000000 in
theorem tz64_core (x k idx : Nat) (w : World) (hx0 : ((x : Int) == 0) = false)
    (key : IntKind.u64.wrap (bits BinOp.and IntKind.u64 (x : Int) (IntKind.u64.wrap (-(x : Int))) * 285870213051353865) / 288230376151711744 = (idx : Int))
    (hi : idx < 64) (hk : k < 64) (hcell : w.cell? ⟨0, idx, none⟩ = some (.int .u8 k)) :
    Calls Tryd.prog 61 #[.int .u64 x] w fun e w' => e = .returned (.int .i64 k) ∧ w = w' := by
  go_enter Tryd.func61, Tryd.ntmps61
  go_wp2_with (simp only [key])
  go_ret
  exact ⟨rfl, rfl⟩
theorem tz64_at (x a : Nat) (hx : x < 18446744073709551616) (hx0 : x ≠ 0) (hlow : x &&& (18446744073709551616 - x) = a) :
    IntKind.u64.wrap (bits BinOp.and IntKind.u64 (x : Int) (IntKind.u64.wrap (-(x : Int))) * 285870213051353865) / 288230376151711744 = ((a * 285870213051353865 % 18446744073709551616 / 288230376151711744 : Nat) : Int) := by
  have e1 : IntKind.u64.wrap (-(x : Int)) = ((18446744073709551616 - x : Nat) : Int) := by rw [IntKind.wrap_u64]; omega
  rw [e1, bits_and_u64_nat x _ hx (by omega), hlow, IntKind.wrap_u64]
  omega
theorem tz64_any (x : Nat) (w : World) (hx : x < 18446744073709551616) (hx0 : x ≠ 0) (hT : Tab64 w) :
    Calls Tryd.prog 61 #[.int .u64 x] w fun e w' => e = .returned (.int .i64 (Lib.ctz 64 x)) ∧ w = w' := by
  obtain ⟨hlow, hk⟩ := Lib.lowest_bit 64 x hx0 hx
  obtain ⟨hi, htab⟩ := Lib.deBruijn64_at _ hk
  have hcell := hT _ hi
  rw [htab] at hcell
  exact tz64_core x _ _ w (by simp; omega) (tz64_at x _ hx hx0 hlow) hi hk hcell
end Go.Proofs.YtpaambpajpmjdaaDoor
namespace Go.Proofs.YtpaambpajpmjdaaDoor
open Go.RowKit

/-- A slice value (its address A, its length that of zs) reads as the integers zs, below block B. -/
def Ints (w : World) (B : Nat) (A : Option Addr) (zs : List Int) : Prop :=
  0 < zs.length → ∃ b off, A = some ⟨b, off, none⟩ ∧ b < B ∧ ∀ k, k < zs.length → w.cell? ⟨b, off + k, none⟩ = some (.int .i64 (zs.getD k 0))
theorem Ints.at_ {w : World} {B : Nat} {A : Option Addr} {zs : List Int} {k : Nat} (h : Ints w B A zs) (hk : k < zs.length) :
    ∃ b off z, A = some ⟨b, off, none⟩ ∧ b < B ∧ zs[k]? = some z ∧ w.cell? ⟨b, off + k, none⟩ = some (.int .i64 z) := by
  obtain ⟨b, off, e, hb, hc⟩ := h (by omega)
  exact ⟨b, off, zs[k], e, hb, List.getElem?_eq_getElem hk, by rw [hc k hk, List.getD_eq_getElem?_getD, List.getElem?_eq_getElem hk]; rfl⟩
theorem Ints.keep {w w' : World} {B : Nat} {A : Option Addr} {zs : List Int} (h : Ints w B A zs) (hk : ∀ p : Addr, p.block < B → w'.cell? p = w.cell? p) : Ints w' B A zs := fun hn => by
  obtain ⟨b, off, e, hb, hc⟩ := h hn
  exact ⟨b, off, e, hb, fun k hk' => (hk _ hb).trans (hc k hk')⟩
theorem Ints.more {w : World} {B B' : Nat} {A : Option Addr} {zs : List Int} (h : Ints w B A zs) (hB : B ≤ B') : Ints w B' A zs := fun hn => by
  obtain ⟨b, off, e, hb, hc⟩ := h hn
  exact ⟨b, off, e, by omega, hc⟩
theorem Ints.below {w w' : World} {B : Nat} {A : Option Addr} {zs : List Int} (h : Ints w B A zs) (hb : Below B w w') : Ints w' B A zs := h.keep fun _ hp => hb.cell hp
theorem Ints.alloc {w : World} {B : Nat} {A : Option Addr} {zs : List Int} (h : Ints w B A zs) (hB : B ≤ w.heap.size) (o : Obj) : Ints (w.alloc o) B A zs :=
  h.keep fun p hp => World.cell?_alloc_lt w o p (by omega)
theorem Ints.nil_ (w : World) (B : Nat) (A : Option Addr) : Ints w B A [] := fun h => absurd h (by simp)
theorem Ints.take {w : World} {B : Nat} {A : Option Addr} {zs : List Int} (h : Ints w B A zs) (i : Nat) : Ints w B A (zs.take i) := fun hn => by
  have hl : (zs.take i).length ≤ zs.length := by simp; omega
  obtain ⟨b, off, e, hb, hc⟩ := h (by omega)
  refine ⟨b, off, e, hb, fun k hk => ?_⟩
  have hk2 : k < i := by simp at hk; omega
  rw [hc k (by omega), List.getD_eq_getElem?_getD, List.getD_eq_getElem?_getD, List.getElem?_take, if_pos hk2]
theorem addr_add (b off j : Nat) : (⟨b, off, none⟩ : Addr).add j = ⟨b, off + j, none⟩ := by unfold Addr.add; by_cases h0 : j = 0 <;> simp [h0]
theorem Ints.cells {w : World} {B : Nat} {ad : Addr} {zs : List Int} (h : Ints w B (some ad) zs) : ∀ (j : Nat) (u : Value), (zs.map (Value.int .i64))[j]? = some u → w.cell? (ad.add j) = some u := by
  intro j u hu
  have hj : j < zs.length := by
    rcases Nat.lt_or_ge j zs.length with hlt | hge
    · exact hlt
    · rw [List.getElem?_eq_none (by simpa using hge)] at hu; cases hu
  obtain ⟨b, off, e, hb, hc⟩ := h (by omega)
  injection e with e
  subst e
  rw [addr_add, hc j hj]
  rw [List.getElem?_map, List.getElem?_eq_getElem hj] at hu
  rw [List.getD_eq_getElem?_getD, List.getElem?_eq_getElem hj]
  simpa using hu
theorem Ints.none_nil {w : World} {B : Nat} {zs : List Int} (h : Ints w B none zs) : zs = [] := by
  rcases Nat.eq_zero_or_pos zs.length with h0 | h0
  · exact List.eq_nil_of_length_eq_zero h0
  · obtain ⟨_, _, e, _⟩ := h h0
    cases e
theorem oneCell_ints (zs : List Int) : ∀ u ∈ zs.map (Value.int .i64), u.oneCell' = true := by
  intro u hu
  obtain ⟨n, _, rfl⟩ := List.mem_map.mp hu
  rfl
theorem Ints.of_own {w : World} {base : Nat} {e : TypeId} {v : Value} {zs : List Int} (h : w.ownsRow base e 1 v zs.length (zs.map (Value.int .i64))) :
    ∃ A c, v = .slice A zs.length c ∧ Ints w w.heap.size A zs := by
  by_cases hn : 0 < zs.length
  · obtain ⟨g, cap, hv, _, hlt⟩ := h.form hn
    refine ⟨some ⟨g, 0, none⟩, cap, hv, fun _ => ⟨g, 0, rfl, hlt, fun k hk => ?_⟩⟩
    subst hv
    have h1 : (zs.map (Value.int .i64))[k]? = some (.int .i64 (zs.getD k 0)) := by
      rw [List.getElem?_map, List.getElem?_eq_getElem hk, List.getD_eq_getElem?_getD, List.getElem?_eq_getElem hk]; rfl
    have := h.cells (g := g) rfl k _ h1
    rwa [addr_add] at this
  · obtain rfl : zs = [] := List.eq_nil_of_length_eq_zero (by omega)
    rcases h.2 with ⟨rfl, _⟩ | ⟨g, cap, cur, rfl, _⟩
    · exact ⟨none, 0, rfl, Ints.nil_ _ _ _⟩
    · exact ⟨some ⟨g, 0, none⟩, cap, rfl, Ints.nil_ _ _ _⟩
/-- A block that was just laid, of integers written out. -/
theorem Ints.new2 (w : World) (t : TypeId) (a b : Int) : Ints (w.alloc (.cells #[.int .i64 a, .int .i64 b] t)) (w.heap.size + 1) (some ⟨w.heap.size, 0, none⟩) [a, b] := fun _ => by
  refine ⟨_, _, rfl, by simp, fun k hk => ?_⟩
  match k, hk with
  | 0, _ => rw [World.cell?_alloc_at _ _ _ _ rfl]; rfl
  | 1, _ => rw [World.cell?_alloc_at _ _ _ _ rfl]; rfl
theorem Ints.new3 (w : World) (t : TypeId) (a b c : Int) : Ints (w.alloc (.cells #[.int .i64 a, .int .i64 b, .int .i64 c] t)) (w.heap.size + 1) (some ⟨w.heap.size, 0, none⟩) [a, b, c] := fun _ => by
  refine ⟨_, _, rfl, by simp, fun k hk => ?_⟩
  match k, hk with
  | 0, _ => rw [World.cell?_alloc_at _ _ _ _ rfl]; rfl
  | 1, _ => rw [World.cell?_alloc_at _ _ _ _ rfl]; rfl
  | 2, _ => rw [World.cell?_alloc_at _ _ _ _ rfl]; rfl
theorem below_alloc {w : World} (o : Obj) : Below w.heap.size w (w.alloc o) := (Below.refl _ _).alloc (Nat.le_refl _) o
/-- 'append([]int{}, l...)': a new slice of the same integers; nothing that was there has turned. -/
theorem wpList_copied {P : Program} {ops : Array Oper} {rest : List Oper} {o : Oper} {a : Act} {Q : Exit → Act → World → Prop} (hgd : o.guard = none) (s x : Operand) (t : TypeId)
    (ho : o.op = .call { callee := .builtin .append, args := #[s, x], argTypes := #[t, t] })
    (e : TypeId) (i : TypeInfo) (z : Value) (ht : P.underlying t = some (.slice e)) (hi : P.info? e = some i) (hz : i.zero = some z) (hsize : i.size = 1) (hby : i.bytes = 8) (hzs : z.cells.size = 1)
    (w1 : World) (B : Nat) (A : Option Addr) (cap len : Nat) (zs : List Int) (hlen : len = zs.length) (hl : len ≤ 1000) (hI : Ints w1 B A zs) (hB : B ≤ w1.heap.size) (hA : A = none → cap = 0)
    (hs : a.eval s = .slice (some ⟨w1.heap.size, 0, none⟩) 0 0) (hx : a.eval x = .slice A len cap)
    (h : ∀ A' c' w', Ints w' w'.heap.size A' zs → Below w1.heap.size w1 w' → wpList P ops Q rest (a.put o.dst (.slice A' len c')) w') : wpList P ops Q (o :: rest) a (w1.alloc (.cells #[] e)) := by
  have hown : (w1.alloc (.cells #[] e)).ownsRow w1.heap.size e 1 (.slice (some ⟨w1.heap.size, 0, none⟩) 0 0) 0 [] :=
    ⟨rfl, .inr ⟨w1.heap.size, 0, #[], rfl, Nat.le_refl _, heap_alloc_new w1 _, Nat.le_refl _, by simp [maxLen], rfl, rfl⟩⟩
  subst hlen
  rcases A with _ | ad
  · have e0 : zs = [] := hI.none_nil
    have e1 : cap = 0 := hA rfl
    subst e0 e1
    exact wpList_append_own_none hgd s x t ho w1.heap.size e i 1 ht hi _ 0 [] hs hown hx (h _ _ _ (Ints.nil_ _ _ _) (below_alloc _))
  · refine wpList_append_own _ hgd s x t ho w1.heap.size e i z 1 8 ht hi hz hsize hby hzs (by omega) _ 0 [] hs hown ad zs.length cap (zs.map (Value.int .i64)) hx (by simp) (hI.alloc hB _).cells (oneCell_ints zs)
      (by unfold maxLen; omega) (by omega) (by simp) ?_
    intro v' w' hown' hg _
    rw [Nat.zero_add, List.nil_append] at hown'
    obtain ⟨A', c', rfl, hI'⟩ := Ints.of_own hown'
    exact h A' c' w' hI' ((below_alloc _).grown hg (by simp) (by simp [Value.ownBlock]))
end Go.Proofs.YtpaambpajpmjdaaDoor
set_option linter.unusedVariables false
namespace Go.Proofs.YtpaambpajpmjdaaDoor
open Go.RowKit

def RowV (g : Nat) (t : TypeId) (vs : List Value) (w : World) : Prop := w.heap[g]? = some (.cells vs.toArray t (0, 0))
theorem RowV.lt {g : Nat} {t : TypeId} {vs : List Value} {w : World} (h : RowV g t vs w) : g < w.heap.size := (Array.getElem?_eq_some_iff.1 h).1
theorem RowV.new (w : World) (t : TypeId) (vs : List Value) : RowV w.heap.size t vs (w.alloc (.cells vs.toArray t)) := heap_alloc_new w _
theorem RowV.cell {g : Nat} {t : TypeId} {vs : List Value} {w : World} (h : RowV g t vs w) {j : Nat} {v : Value} (hj : vs[j]? = some v) : w.cell? ⟨g, j, none⟩ = some v := by
  rw [cell_of_row _ _ _ _ _ _ h]
  simpa using hj
theorem RowV.frozen {g : Nat} {t : TypeId} {vs : List Value} {w : World} (h : RowV g t vs w) (j : Nat) : w.frozen? ⟨g, j, none⟩ = false := frozen_of_row _ _ _ _ _ h
theorem RowV.set {g : Nat} {t : TypeId} {vs : List Value} {w : World} (h : RowV g t vs w) (j : Nat) (v : Value) : RowV g t (vs.set j v) (w.setCell ⟨g, j, none⟩ v) := by
  have := heap_setCell_same w g j _ t v h
  unfold RowV
  rw [this]
  simp
theorem RowV.below {g : Nat} {t : TypeId} {vs : List Value} {w w' : World} {B : Nat} (h : RowV g t vs w) (hb : Below B w w') (hB : g < B) : RowV g t vs w' := by
  unfold RowV
  rw [hb.block g hB]
  exact h
theorem RowV.alloc {g : Nat} {t : TypeId} {vs : List Value} {w : World} (h : RowV g t vs w) (o : Obj) : RowV g t vs (w.alloc o) := by
  unfold RowV
  rw [Below.heap_alloc w o g h.lt]
  exact h
theorem bool_cell_info : (Tryd.prog.info? 4).map (fun i => (i.zero, i.size, i.bytes)) = some (some (.bool false), 1, 1) := by kernel_rfl
theorem make_bools (n : Nat) (hn : n ≤ 1000) (W : World) : (Instr.makeSlice 79 (.int .i64 n) (.int .i64 n)).run Tryd.prog W = .ok (.slice (some ⟨W.heap.size, 0, none⟩) n n) (W.alloc (.cells (List.replicate n (Value.bool false)).toArray 4)) := by
  obtain ⟨i0, hi, hz0, hz1, hz2⟩ : ∃ i, Tryd.prog.info? 4 = some i ∧ i.zero = some (.bool false) ∧ i.size = 1 ∧ i.bytes = 1 := by
    have h := bool_cell_info
    cases hi : Tryd.prog.info? 4 with
    | none => rw [hi] at h; cases h
    | some i =>
      rw [hi] at h
      simp at h
      exact ⟨i, rfl, h.1, h.2.1, h.2.2⟩
  have h := run_make (P := Tryd.prog) W 79 4 i0 (.bool false) Tryd.underlying79 hi hz0 .i64 .i64 n n (by omega) (by omega) (by rw [hz2]; omega) (by omega)
  rw [hz1] at h
  have e : madeCells (Value.bool false).cells (((n : Int)).toNat * 1) = (List.replicate n (Value.bool false)).toArray := by
    apply Array.toList_inj.mp
    rw [show (Value.bool false).cells = #[Value.bool false] from rfl, toList_madeCells_one]
    simp
  rw [e] at h
  exact h
end Go.Proofs.YtpaambpajpmjdaaDoor
set_option linter.unusedVariables false
namespace Go.Proofs.YtpaambpajpmjdaaDoor
open Go.RowKit

/-- A slice of edges (its address A, its length that of es) reads as these edges, below block B. -/
def Pairs (w : World) (B : Nat) (A : Option Addr) (es : List (Int × Int)) : Prop :=
  0 < es.length → ∃ b off, A = some ⟨b, off, none⟩ ∧ b < B ∧ ∀ k e, es[k]? = some e → w.cell? ⟨b, off + k * 2, none⟩ = some (.int .i64 e.1) ∧ w.cell? ⟨b, off + k * 2 + 1, none⟩ = some (.int .i64 e.2)
theorem Pairs.at_ {w : World} {B : Nat} {A : Option Addr} {es : List (Int × Int)} {k : Nat} (h : Pairs w B A es) (hk : k < es.length) :
    ∃ b off e, A = some ⟨b, off, none⟩ ∧ b < B ∧ es[k]? = some e ∧ w.cell? ⟨b, off + k * 2, none⟩ = some (.int .i64 e.1) ∧ w.cell? ⟨b, off + k * 2 + 1, none⟩ = some (.int .i64 e.2) := by
  obtain ⟨b, off, e, hb, hc⟩ := h (by omega)
  have he : es[k]? = some es[k] := List.getElem?_eq_getElem hk
  exact ⟨b, off, es[k], e, hb, he, (hc k _ he).1, (hc k _ he).2⟩
theorem Pairs.keep {w w' : World} {B : Nat} {A : Option Addr} {es : List (Int × Int)} (h : Pairs w B A es) (hk : ∀ p : Addr, p.block < B → w'.cell? p = w.cell? p) : Pairs w' B A es := fun hn => by
  obtain ⟨b, off, e, hb, hc⟩ := h hn
  exact ⟨b, off, e, hb, fun k x hx => ⟨(hk _ hb).trans (hc k x hx).1, (hk _ hb).trans (hc k x hx).2⟩⟩
theorem Pairs.more {w : World} {B B' : Nat} {A : Option Addr} {es : List (Int × Int)} (h : Pairs w B A es) (hB : B ≤ B') : Pairs w B' A es := fun hn => by
  obtain ⟨b, off, e, hb, hc⟩ := h hn
  exact ⟨b, off, e, by omega, hc⟩
theorem Pairs.below {w w' : World} {B : Nat} {A : Option Addr} {es : List (Int × Int)} (h : Pairs w B A es) (hb : Below B w w') : Pairs w' B A es := h.keep fun _ hp => hb.cell hp
theorem Pairs.alloc {w : World} {B : Nat} {A : Option Addr} {es : List (Int × Int)} (h : Pairs w B A es) (hB : B ≤ w.heap.size) (o : Obj) : Pairs (w.alloc o) B A es :=
  h.keep fun p hp => World.cell?_alloc_lt w o p (by omega)
end Go.Proofs.YtpaambpajpmjdaaDoor
set_option linter.unusedVariables false
namespace Go.Proofs.YtpaambpajpmjdaaDoor
open Go.RowKit

/-- A graph as it is handed over: its two slices. -/
structure Gr where
  A : Option Addr
  n : Nat
  c : Nat
  F : Option Addr
  m : Nat
  d : Nat
def Gr.v (g : Gr) : Value := .agg #[.slice g.A g.n g.c, .slice g.F g.m g.d]
/-- It reads as these works and edges, below block B. -/
structure IsGr (w : World) (B : Nat) (g : Gr) (W : List Int) (E : List (Int × Int)) : Prop where
  hn : W.length = g.n
  hm : E.length = g.m
  ints : Ints w B g.A W
  pairs : Pairs w B g.F E
theorem IsGr.below {w w' : World} {B : Nat} {g : Gr} {W : List Int} {E : List (Int × Int)} (h : IsGr w B g W E) (hb : Below B w w') : IsGr w' B g W E := ⟨h.hn, h.hm, h.ints.below hb, h.pairs.below hb⟩
theorem IsGr.more {w : World} {B B' : Nat} {g : Gr} {W : List Int} {E : List (Int × Int)} (h : IsGr w B g W E) (hB : B ≤ B') : IsGr w B' g W E := ⟨h.hn, h.hm, h.ints.more hB, h.pairs.more hB⟩
theorem IsGr.alloc {w : World} {B : Nat} {g : Gr} {W : List Int} {E : List (Int × Int)} (h : IsGr w B g W E) (hB : B ≤ w.heap.size) (o : Obj) : IsGr (w.alloc o) B g W E := ⟨h.hn, h.hm, h.ints.alloc hB o, h.pairs.alloc hB o⟩

theorem few_yes (A F : Option Addr) (n c m d : Nat) (w : World) (h : n ≤ 70) (k : m ≤ 300) :
    Calls Tryd.prog 11 #[.agg #[.slice A n c, .slice F m d]] w fun e w' => e = .returned (.bool true) ∧ Below w.heap.size w w' := by
  have g1 : decide (n ≤ 70) = true := by simpa using h
  have g2 : decide ((n : Int) ≤ 70) = true := by rw [decide_eq_true_iff]; omega
  have g3 : decide (m ≤ 300) = true := by simpa using k
  have g4 : decide ((m : Int) ≤ 300) = true := by rw [decide_eq_true_iff]; omega
  go_enter Tryd.func11, Tryd.ntmps11
  go_wp2
  go_ret
  exact ⟨rfl, below_alloc _⟩
theorem few_no (A F : Option Addr) (n c m d : Nat) (w : World) (hn : n ≤ 9223372036854775807) (hm : m ≤ 9223372036854775807) (h : ¬ (n ≤ 70 ∧ m ≤ 300)) :
    Calls Tryd.prog 11 #[.agg #[.slice A n c, .slice F m d]] w fun e w' => e = .returned (.bool false) ∧ Below w.heap.size w w' := by
  have k : 70 < n ∨ (n ≤ 70 ∧ 300 < m) := by omega
  clear h
  rcases k with k | ⟨k, k2⟩
  · go_enter Tryd.func11, Tryd.ntmps11
    go_wp2
    go_ret
    exact ⟨rfl, below_alloc _⟩
  · have g3 : decide (m ≤ 300) = false := by rw [decide_eq_false_iff_not]; omega
    have g4 : decide ((m : Int) ≤ 300) = false := by rw [decide_eq_false_iff_not]; omega
    go_enter Tryd.func11, Tryd.ntmps11
    go_wp2
    go_ret
    exact ⟨rfl, below_alloc _⟩
theorem node_any (A F : Option Addr) (n c m d : Nat) (x : Int) (w : World) :
    Calls Tryd.prog 62 #[.agg #[.slice A n c, .slice F m d], .int .i64 x] w fun e w' => e = .returned (.bool (decide (0 ≤ x ∧ x < n))) ∧ Below w.heap.size w w' := by
  by_cases h : 0 ≤ x
  · by_cases k : x < n
    · rw [decide_eq_true (⟨h, k⟩ : 0 ≤ x ∧ x < n)]
      go_enter Tryd.func62, Tryd.ntmps62
      go_wp2
      go_ret
      exact ⟨rfl, below_alloc _⟩
    · rw [decide_eq_false (fun q : 0 ≤ x ∧ x < n => k q.2)]
      go_enter Tryd.func62, Tryd.ntmps62
      go_wp2
      go_ret
      exact ⟨rfl, below_alloc _⟩
  · rw [decide_eq_false (fun q : 0 ≤ x ∧ x < n => h q.1)]
    have h' : x < 0 := by omega
    clear h
    go_enter Tryd.func62, Tryd.ntmps62
    go_wp2
    go_ret
    exact ⟨rfl, below_alloc _⟩
end Go.Proofs.YtpaambpajpmjdaaDoor
set_option linter.unusedVariables false
namespace Go.Proofs.YtpaambpajpmjdaaDoor
open Go.RowKit

theorem mem_take_snoc {α : Type} [DecidableEq α] {l : List α} {j : Nat} {e x : α} (h : l[j]? = some e) : x ∈ l.take (j + 1) ↔ x ∈ l.take j ∨ x = e := by
  rw [List.take_add_one, h]
  simp
set_option maxHeartbeats 1000000 in
theorem has_any (A : Option Addr) (c : Nat) (zs : List Int) (x : Int) (w : World) (len : Nat) (hn : zs.length = len) (hl : len ≤ 1000) (hI : Ints w w.heap.size A zs) :
    Calls Tryd.prog 41 #[.slice A len c, .int .i64 x] w fun e w' => e = .returned (.bool (decide (x ∈ zs))) ∧ w = w' := by
  have HI := Lib.hid hI
  have HM := Lib.hid hn
  obtain ⟨r, hr⟩ : ∃ r, r = decide (x ∈ zs) := ⟨_, rfl⟩
  rw [← hr]
  have HR := Lib.hid hr
  clear hI hn hr
  go_enter Tryd.func41, Tryd.ntmps41
  go_wp2
  go_loop [5] (fun i => ∃ j : Nat, j ≤ len ∧ i = .int .i64 j ∧ Hid (x ∉ zs.take j)) (fun i => len - (intOf i).toNat)
  case atStart => exact ⟨0, Nat.zero_le _, rfl, Lib.hid (by simp)⟩
  case round =>
    obtain ⟨j, hj, rfl, HN⟩ := hrel
    by_cases hlt : j < len
    · obtain ⟨bk, o, z, rfl, hbg, hzj, hc1⟩ := HI.out.at_ (k := j) (by rw [HM.out]; exact hlt)
      have HS := Lib.hid (mem_take_snoc (x := x) hzj)
      have HZJ := Lib.hid hzj
      clear hzj
      by_cases h1 : z = x
      · have hin : x ∈ zs := by subst h1; exact List.mem_of_getElem? HZJ.out
        have HIN := Lib.hid (decide_eq_true hin)
        clear hin
        go_wp2
        go_ret
        exact ⟨by rw [HR.out, HIN.out]; rfl, rfl⟩
      · have h3 : (z == x) = false := by simpa using h1
        go_wp2
        go_round
        case rel => exact ⟨j + 1, by omega, by go_num, Lib.hid (by rw [HS.out]; rintro (h | h); exact HN.out h; exact h1 h.symm)⟩
        case measure => simp [intOf]; omega
    · obtain rfl : j = len := by omega
      have hno : x ∉ zs := by
        have h := HN.out
        rwa [List.take_of_length_le (by rw [HM.out]; omega)] at h
      have HNO := Lib.hid (decide_eq_false hno)
      clear hno
      go_wp2
      go_ret
      exact ⟨by rw [HR.out, HNO.out]; rfl, rfl⟩
end Go.Proofs.YtpaambpajpmjdaaDoor
set_option linter.unusedVariables false
namespace Go.Proofs.YtpaambpajpmjdaaDoor
open Go.RowKit

theorem take_snoc' {α : Type} {l : List α} {j : Nat} {a : α} (h : l[j]? = some a) : l.take (j + 1) = l.take j ++ [a] := by
  rw [List.take_add_one, h]
  rfl
theorem take_ext {α : Type} {xs ys : List α} (h : xs.length = ys.length) (e : xs.take xs.length = ys.take xs.length) : xs = ys := by
  rw [List.take_length, h, List.take_length] at e
  exact e
theorem take_next {α : Type} {xs ys : List α} {j : Nat} {a : α} (e : xs.take j = ys.take j) (h1 : xs[j]? = some a) (h2 : ys[j]? = some a) : xs.take (j + 1) = ys.take (j + 1) := by
  rw [take_snoc' h1, take_snoc' h2, e]
theorem take_part {α : Type} {xs ys : List α} {j : Nat} {a b : α} (h1 : xs[j]? = some a) (h2 : ys[j]? = some b) (hne : a ≠ b) : xs ≠ ys := by
  rintro rfl
  rw [h1] at h2
  exact hne (Option.some.inj h2)

theorem drews (w : World) (N n : Nat) : (w.drewN N).drewN n = w.drewN (N + n) := by simp
set_option maxHeartbeats 800000 in
theorem ints_any (B : Nat) (A1 A2 : Option Addr) (c1 c2 : Nat) (xs ys : List Int) (w : World) (hx : xs.length ≤ 1000) (hy : ys.length ≤ 1000) (h1 : Ints w B A1 xs) (h2 : Ints w B A2 ys) :
    Calls Tryd.prog 20 #[.slice A1 xs.length c1, .slice A2 ys.length c2] w fun e w' => e = .returned (.bool (decide (xs = ys))) ∧ ∃ N, w' = w.drewN N := by
  obtain ⟨n, hn⟩ : ∃ n, n = xs.length := ⟨_, rfl⟩
  obtain ⟨m, hm⟩ : ∃ m, m = ys.length := ⟨_, rfl⟩
  rw [← hn, ← hm]
  rw [← hn] at hx
  rw [← hm] at hy
  have HN := Lib.hid hn
  have HM := Lib.hid hm
  have H1 := Lib.hid h1
  have H2 := Lib.hid h2
  clear hn hm h1 h2
  by_cases hnm : n = m
  · subst hnm
    go_enter Tryd.func20, Tryd.ntmps20
    go_wp2
    go_loopw [5] (fun i wr => ∃ j N : Nat, j ≤ n ∧ i = .int .i64 j ∧ Hid (xs.take j = ys.take j) ∧ wr = w.drewN N) (fun i _ => n - (intOf i).toNat)
    case atStart => exact ⟨0, 0, Nat.zero_le _, rfl, Lib.hid rfl, rfl⟩
    case round =>
      obtain ⟨j, N, hj, rfl, HT, rfl⟩ := hrel
      by_cases hlt : j < n
      · obtain ⟨b1, o1, x, rfl, _, hx1, hc1⟩ := H1.out.at_ (k := j) (by rw [← HN.out]; exact hlt)
        obtain ⟨b2, o2, y, rfl, _, hy1, hc2⟩ := H2.out.at_ (k := j) (by rw [← HM.out]; exact hlt)
        have HX := Lib.hid hx1
        have HY := Lib.hid hy1
        clear hx1 hy1
        by_cases hxy : x = y
        · subst hxy
          go_wp2
          go_quiet (fail)
          go_wp2
          go_roundw
          case rel => exact ⟨j + 1, _, by omega, by go_num, Lib.hid (take_next HT.out HX.out HY.out), rfl⟩
          case measure => simp [intOf]; omega
        · have hb : (x != y) = true := by simpa using hxy
          have HXY := Lib.hid hxy
          clear hxy
          go_wp2
          go_quiet (fail)
          go_wp2
          go_ret
          exact ⟨by rw [decide_eq_false (take_part HX.out HY.out HXY.out)]; rfl, _, drews w N _⟩
      · obtain rfl : j = n := by omega
        go_wp2
        go_ret
        exact ⟨by rw [decide_eq_true (take_ext (by rw [← HN.out, ← HM.out]) (by rw [← HN.out]; exact HT.out))]; rfl, _, rfl⟩
  · have hb : ((n : Int) != (m : Int)) = true := by simp; omega
    go_enter Tryd.func20, Tryd.ntmps20
    go_wp2
    go_ret
    exact ⟨by rw [decide_eq_false (fun e : xs = ys => hnm (by rw [HN.out, HM.out, e]))]; rfl, 0, rfl⟩
end Go.Proofs.YtpaambpajpmjdaaDoor
namespace Go.Proofs.YtpaambpajpmjdaaDoor
open Go Go.RowKit

theorem eg_of {f : Nat} {fn : Func} {c : Code} (hf : Tryd.prog.funcs[f]? = some fn) (hname : (fn.name == "runtime.NumGoroutine") = false) (hb : fn.body = some c) : ∀ args w, (callFunc f args).run Tryd.prog w = .ok (.enter f args) w := enters_of hf hname hb
end Go.Proofs.YtpaambpajpmjdaaDoor
