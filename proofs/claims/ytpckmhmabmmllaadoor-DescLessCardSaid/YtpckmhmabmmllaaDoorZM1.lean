/- Words for memory in the seat YtpckmhmabmmllaaDoor: a slice that reads as a list of integers. No statement is proved here; the other texts of the claim use these lemmas.
   Words for memory in the seat YtpckmhmabmmllaaDoor: a slice of edges that came in.
   Words for memory in the seat YtpckmhmabmmllaaDoor: slices of three integers each, slices of two lists each; a task that came in.
   A region that draws its order, whose operations read nothing of the memory and whose callees leave what lies below a block as it was (they may make memory): one walk, in the order of the text.
   The contract of trefoilref02.Ints in the seat YtpckmhmabmmllaaDoor.
   The contract of trefoilref04.Has in the seat YtpckmhmabmmllaaDoor.
   The contract of trefoilref04.Same in the seat YtpckmhmabmmllaaDoor.
   No statement is proved here. -/
import Derived.WalkKit
import Derived.Laws.AppendOwnNone
import Derived.Deep.AppendLies
import Derived.Maps.AppendAt
import Derived.Test.YtpckmhmabmmllaaDoorChecked
import Derived.WalkSmall
import Derived.Handy
import Derived.KernelRfl
import Derived.Below
import Derived.BigQuiet
import Derived.Deep.QuietTactic
import Derived.Lib.Hide
import Derived.Laws.StructEq
namespace Go.Proofs.YtpckmhmabmmllaaDoor
open Go.RowKit

/-- A slice value (its address A, its length that of zs) reads as the integers zs, below block B. -/
def Ints (w : World) (B : Nat) (A : Option Addr) (zs : List Int) : Prop :=
  0 < zs.length → ∃ b off, A = some ⟨b, off, none⟩ ∧ b < B ∧ ∀ k, k < zs.length → w.cell? ⟨b, off + k, none⟩ = some (.int .i64 (zs.getD k 0))
theorem Ints.at_ {w : World} {B : Nat} {A : Option Addr} {zs : List Int} {k : Nat} (h : Ints w B A zs) (hk : k < zs.length) :
    ∃ b off z, A = some ⟨b, off, none⟩ ∧ b < B ∧ zs[k]? = some z ∧ w.cell? ⟨b, off + k, none⟩ = some (.int .i64 z) := by
  obtain ⟨b, off, e, hb, hc⟩ := h (by omega)
  exact ⟨b, off, zs[k], e, hb, List.getElem?_eq_getElem hk, by rw [hc k hk, List.getD_eq_getElem?_getD, List.getElem?_eq_getElem hk]; rfl⟩
theorem Ints.keep {w w' : World} {B : Nat} {A : Option Addr} {zs : List Int} (h : Ints w B A zs) (hk : ∀ p : Addr, p.block < B → w'.cell? p = w.cell? p) : Ints w' B A zs := fun hn => by
  obtain ⟨b, off, e, hb, hc⟩ := h hn
  exact ⟨b, off, e, hb, fun k hk' => (hk _ hb).trans (hc k hk')⟩
theorem Ints.more {w : World} {B B' : Nat} {A : Option Addr} {zs : List Int} (h : Ints w B A zs) (hB : B ≤ B') : Ints w B' A zs := fun hn => by
  obtain ⟨b, off, e, hb, hc⟩ := h hn
  exact ⟨b, off, e, by omega, hc⟩
theorem Ints.below {w w' : World} {B : Nat} {A : Option Addr} {zs : List Int} (h : Ints w B A zs) (hb : Below B w w') : Ints w' B A zs := h.keep fun _ hp => hb.cell hp
theorem Ints.alloc {w : World} {B : Nat} {A : Option Addr} {zs : List Int} (h : Ints w B A zs) (hB : B ≤ w.heap.size) (o : Obj) : Ints (w.alloc o) B A zs :=
  h.keep fun p hp => World.cell?_alloc_lt w o p (by omega)
theorem Ints.nil_ (w : World) (B : Nat) (A : Option Addr) : Ints w B A [] := fun h => absurd h (by simp)
theorem Ints.take {w : World} {B : Nat} {A : Option Addr} {zs : List Int} (h : Ints w B A zs) (i : Nat) : Ints w B A (zs.take i) := fun hn => by
  have hl : (zs.take i).length ≤ zs.length := by simp; omega
  obtain ⟨b, off, e, hb, hc⟩ := h (by omega)
  refine ⟨b, off, e, hb, fun k hk => ?_⟩
  have hk2 : k < i := by simp at hk; omega
  rw [hc k (by omega), List.getD_eq_getElem?_getD, List.getD_eq_getElem?_getD, List.getElem?_take, if_pos hk2]
theorem addr_add (b off j : Nat) : (⟨b, off, none⟩ : Addr).add j = ⟨b, off + j, none⟩ := by unfold Addr.add; by_cases h0 : j = 0 <;> simp [h0]
theorem Ints.cells {w : World} {B : Nat} {ad : Addr} {zs : List Int} (h : Ints w B (some ad) zs) : ∀ (j : Nat) (u : Value), (zs.map (Value.int .i64))[j]? = some u → w.cell? (ad.add j) = some u := by
  intro j u hu
  have hj : j < zs.length := by
    rcases Nat.lt_or_ge j zs.length with hlt | hge
    · exact hlt
    · rw [List.getElem?_eq_none (by simpa using hge)] at hu; cases hu
  obtain ⟨b, off, e, hb, hc⟩ := h (by omega)
  injection e with e
  subst e
  rw [addr_add, hc j hj]
  rw [List.getElem?_map, List.getElem?_eq_getElem hj] at hu
  rw [List.getD_eq_getElem?_getD, List.getElem?_eq_getElem hj]
  simpa using hu
theorem Ints.none_nil {w : World} {B : Nat} {zs : List Int} (h : Ints w B none zs) : zs = [] := by
  rcases Nat.eq_zero_or_pos zs.length with h0 | h0
  · exact List.eq_nil_of_length_eq_zero h0
  · obtain ⟨_, _, e, _⟩ := h h0
    cases e
theorem oneCell_ints (zs : List Int) : ∀ u ∈ zs.map (Value.int .i64), u.oneCell' = true := by
  intro u hu
  obtain ⟨n, _, rfl⟩ := List.mem_map.mp hu
  rfl
theorem Ints.of_own {w : World} {base : Nat} {e : TypeId} {v : Value} {zs : List Int} (h : w.ownsRow base e 1 v zs.length (zs.map (Value.int .i64))) :
    ∃ A c, v = .slice A zs.length c ∧ Ints w w.heap.size A zs := by
  by_cases hn : 0 < zs.length
  · obtain ⟨g, cap, hv, _, hlt⟩ := h.form hn
    refine ⟨some ⟨g, 0, none⟩, cap, hv, fun _ => ⟨g, 0, rfl, hlt, fun k hk => ?_⟩⟩
    subst hv
    have h1 : (zs.map (Value.int .i64))[k]? = some (.int .i64 (zs.getD k 0)) := by
      rw [List.getElem?_map, List.getElem?_eq_getElem hk, List.getD_eq_getElem?_getD, List.getElem?_eq_getElem hk]; rfl
    have := h.cells (g := g) rfl k _ h1
    rwa [addr_add] at this
  · obtain rfl : zs = [] := List.eq_nil_of_length_eq_zero (by omega)
    rcases h.2 with ⟨rfl, _⟩ | ⟨g, cap, cur, rfl, _⟩
    · exact ⟨none, 0, rfl, Ints.nil_ _ _ _⟩
    · exact ⟨some ⟨g, 0, none⟩, cap, rfl, Ints.nil_ _ _ _⟩
/-- A block that was just laid, of integers written out. -/
theorem Ints.new2 (w : World) (t : TypeId) (a b : Int) : Ints (w.alloc (.cells #[.int .i64 a, .int .i64 b] t)) (w.heap.size + 1) (some ⟨w.heap.size, 0, none⟩) [a, b] := fun _ => by
  refine ⟨_, _, rfl, by simp, fun k hk => ?_⟩
  match k, hk with
  | 0, _ => rw [World.cell?_alloc_at _ _ _ _ rfl]; rfl
  | 1, _ => rw [World.cell?_alloc_at _ _ _ _ rfl]; rfl
theorem Ints.new3 (w : World) (t : TypeId) (a b c : Int) : Ints (w.alloc (.cells #[.int .i64 a, .int .i64 b, .int .i64 c] t)) (w.heap.size + 1) (some ⟨w.heap.size, 0, none⟩) [a, b, c] := fun _ => by
  refine ⟨_, _, rfl, by simp, fun k hk => ?_⟩
  match k, hk with
  | 0, _ => rw [World.cell?_alloc_at _ _ _ _ rfl]; rfl
  | 1, _ => rw [World.cell?_alloc_at _ _ _ _ rfl]; rfl
  | 2, _ => rw [World.cell?_alloc_at _ _ _ _ rfl]; rfl
theorem below_alloc {w : World} (o : Obj) : Below w.heap.size w (w.alloc o) := (Below.refl _ _).alloc (Nat.le_refl _) o
/-- 'append([]int{}, l...)': a new slice of the same integers; nothing that was there has turned. -/
theorem wpList_copied {P : Program} {ops : Array Oper} {rest : List Oper} {o : Oper} {a : Act} {Q : Exit → Act → World → Prop} (hgd : o.guard = none) (s x : Operand) (t : TypeId)
    (ho : o.op = .call { callee := .builtin .append, args := #[s, x], argTypes := #[t, t] })
    (e : TypeId) (i : TypeInfo) (z : Value) (ht : P.underlying t = some (.slice e)) (hi : P.info? e = some i) (hz : i.zero = some z) (hsize : i.size = 1) (hby : i.bytes = 8) (hzs : z.cells.size = 1)
    (w1 : World) (B : Nat) (A : Option Addr) (cap len : Nat) (zs : List Int) (hlen : len = zs.length) (hl : len ≤ 1000) (hI : Ints w1 B A zs) (hB : B ≤ w1.heap.size) (hA : A = none → cap = 0)
    (hs : a.eval s = .slice (some ⟨w1.heap.size, 0, none⟩) 0 0) (hx : a.eval x = .slice A len cap)
    (h : ∀ A' c' w', Ints w' w'.heap.size A' zs → Below w1.heap.size w1 w' → wpList P ops Q rest (a.put o.dst (.slice A' len c')) w') : wpList P ops Q (o :: rest) a (w1.alloc (.cells #[] e)) := by
  have hown : (w1.alloc (.cells #[] e)).ownsRow w1.heap.size e 1 (.slice (some ⟨w1.heap.size, 0, none⟩) 0 0) 0 [] :=
    ⟨rfl, .inr ⟨w1.heap.size, 0, #[], rfl, Nat.le_refl _, heap_alloc_new w1 _, Nat.le_refl _, by simp [maxLen], rfl, rfl⟩⟩
  subst hlen
  rcases A with _ | ad
  · have e0 : zs = [] := hI.none_nil
    have e1 : cap = 0 := hA rfl
    subst e0 e1
    exact wpList_append_own_none hgd s x t ho w1.heap.size e i 1 ht hi _ 0 [] hs hown hx (h _ _ _ (Ints.nil_ _ _ _) (below_alloc _))
  · refine wpList_append_own _ hgd s x t ho w1.heap.size e i z 1 8 ht hi hz hsize hby hzs (by omega) _ 0 [] hs hown ad zs.length cap (zs.map (Value.int .i64)) hx (by simp) (hI.alloc hB _).cells (oneCell_ints zs)
      (by unfold maxLen; omega) (by omega) (by simp) ?_
    intro v' w' hown' hg _
    rw [Nat.zero_add, List.nil_append] at hown'
    obtain ⟨A', c', rfl, hI'⟩ := Ints.of_own hown'
    exact h A' c' w' hI' ((below_alloc _).grown hg (by simp) (by simp [Value.ownBlock]))
end Go.Proofs.YtpckmhmabmmllaaDoor
set_option linter.unusedVariables false
namespace Go.Proofs.YtpckmhmabmmllaaDoor
open Go.RowKit

/-- A slice of edges (its address A, its length that of es) reads as these edges, below block B. -/
def Pairs (w : World) (B : Nat) (A : Option Addr) (es : List (Int × Int)) : Prop :=
  0 < es.length → ∃ b off, A = some ⟨b, off, none⟩ ∧ b < B ∧ ∀ k e, es[k]? = some e → w.cell? ⟨b, off + k * 2, none⟩ = some (.int .i64 e.1) ∧ w.cell? ⟨b, off + k * 2 + 1, none⟩ = some (.int .i64 e.2)
theorem Pairs.at_ {w : World} {B : Nat} {A : Option Addr} {es : List (Int × Int)} {k : Nat} (h : Pairs w B A es) (hk : k < es.length) :
    ∃ b off e, A = some ⟨b, off, none⟩ ∧ b < B ∧ es[k]? = some e ∧ w.cell? ⟨b, off + k * 2, none⟩ = some (.int .i64 e.1) ∧ w.cell? ⟨b, off + k * 2 + 1, none⟩ = some (.int .i64 e.2) := by
  obtain ⟨b, off, e, hb, hc⟩ := h (by omega)
  have he : es[k]? = some es[k] := List.getElem?_eq_getElem hk
  exact ⟨b, off, es[k], e, hb, he, (hc k _ he).1, (hc k _ he).2⟩
theorem Pairs.keep {w w' : World} {B : Nat} {A : Option Addr} {es : List (Int × Int)} (h : Pairs w B A es) (hk : ∀ p : Addr, p.block < B → w'.cell? p = w.cell? p) : Pairs w' B A es := fun hn => by
  obtain ⟨b, off, e, hb, hc⟩ := h hn
  exact ⟨b, off, e, hb, fun k x hx => ⟨(hk _ hb).trans (hc k x hx).1, (hk _ hb).trans (hc k x hx).2⟩⟩
theorem Pairs.more {w : World} {B B' : Nat} {A : Option Addr} {es : List (Int × Int)} (h : Pairs w B A es) (hB : B ≤ B') : Pairs w B' A es := fun hn => by
  obtain ⟨b, off, e, hb, hc⟩ := h hn
  exact ⟨b, off, e, by omega, hc⟩
theorem Pairs.below {w w' : World} {B : Nat} {A : Option Addr} {es : List (Int × Int)} (h : Pairs w B A es) (hb : Below B w w') : Pairs w' B A es := h.keep fun _ hp => hb.cell hp
theorem Pairs.alloc {w : World} {B : Nat} {A : Option Addr} {es : List (Int × Int)} (h : Pairs w B A es) (hB : B ≤ w.heap.size) (o : Obj) : Pairs (w.alloc o) B A es :=
  h.keep fun p hp => World.cell?_alloc_lt w o p (by omega)
end Go.Proofs.YtpckmhmabmmllaaDoor
set_option linter.unusedVariables false
namespace Go.Proofs.YtpckmhmabmmllaaDoor
open Go.RowKit

/-- A slice of structs of three integers (its address A, its length that of es) reads as these, below block B. -/
def Trips (w : World) (B : Nat) (A : Option Addr) (es : List (Int × Int × Int)) : Prop :=
  0 < es.length → ∃ b off, A = some ⟨b, off, none⟩ ∧ b < B ∧ ∀ k e, es[k]? = some e → w.cell? ⟨b, off + k * 3, none⟩ = some (.int .i64 e.1) ∧ w.cell? ⟨b, off + k * 3 + 1, none⟩ = some (.int .i64 e.2.1) ∧ w.cell? ⟨b, off + k * 3 + 2, none⟩ = some (.int .i64 e.2.2)
theorem Trips.at_ {w : World} {B : Nat} {A : Option Addr} {es : List (Int × Int × Int)} {k : Nat} (h : Trips w B A es) (hk : k < es.length) :
    ∃ b off x y z, A = some ⟨b, off, none⟩ ∧ b < B ∧ es[k]? = some (x, y, z) ∧ w.cell? ⟨b, off + k * 3, none⟩ = some (.int .i64 x) ∧ w.cell? ⟨b, off + k * 3 + 1, none⟩ = some (.int .i64 y) ∧ w.cell? ⟨b, off + k * 3 + 2, none⟩ = some (.int .i64 z) := by
  obtain ⟨b, off, e, hb, hc⟩ := h (by omega)
  have he : es[k]? = some es[k] := List.getElem?_eq_getElem hk
  exact ⟨b, off, es[k].1, es[k].2.1, es[k].2.2, e, hb, he, hc k _ he⟩
theorem Trips.keep {w w' : World} {B : Nat} {A : Option Addr} {es : List (Int × Int × Int)} (h : Trips w B A es) (hk : ∀ p : Addr, p.block < B → w'.cell? p = w.cell? p) : Trips w' B A es := fun hn => by
  obtain ⟨b, off, e, hb, hc⟩ := h hn
  exact ⟨b, off, e, hb, fun k x hx => ⟨(hk _ hb).trans (hc k x hx).1, (hk _ hb).trans (hc k x hx).2.1, (hk _ hb).trans (hc k x hx).2.2⟩⟩
theorem Trips.more {w : World} {B B' : Nat} {A : Option Addr} {es : List (Int × Int × Int)} (h : Trips w B A es) (hB : B ≤ B') : Trips w B' A es := fun hn => by
  obtain ⟨b, off, e, hb, hc⟩ := h hn
  exact ⟨b, off, e, by omega, hc⟩
theorem Trips.below {w w' : World} {B : Nat} {A : Option Addr} {es : List (Int × Int × Int)} (h : Trips w B A es) (hb : Below B w w') : Trips w' B A es := h.keep fun _ hp => hb.cell hp
/-- A slice of structs of two lists of integers each. -/
def Bars (w : World) (B : Nat) (A : Option Addr) (bs : List (List Int × List Int)) : Prop :=
  0 < bs.length → ∃ b off, A = some ⟨b, off, none⟩ ∧ b < B ∧ ∀ k e, bs[k]? = some e → ∃ A1 c1 A2 c2, w.cell? ⟨b, off + k * 2, none⟩ = some (.slice A1 e.1.length c1) ∧ w.cell? ⟨b, off + k * 2 + 1, none⟩ = some (.slice A2 e.2.length c2) ∧
    Ints w B A1 e.1 ∧ Ints w B A2 e.2 ∧ (A1 = none → e.1.length = 0 ∧ c1 = 0) ∧ (A2 = none → e.2.length = 0 ∧ c2 = 0)
theorem Bars.at_ {w : World} {B : Nat} {A : Option Addr} {bs : List (List Int × List Int)} {k : Nat} (h : Bars w B A bs) (hk : k < bs.length) :
    ∃ b off xs ys A1 n1 c1 A2 n2 c2, A = some ⟨b, off, none⟩ ∧ b < B ∧ bs[k]? = some (xs, ys) ∧ xs.length = n1 ∧ ys.length = n2 ∧ w.cell? ⟨b, off + k * 2, none⟩ = some (.slice A1 n1 c1) ∧ w.cell? ⟨b, off + k * 2 + 1, none⟩ = some (.slice A2 n2 c2) ∧
      Ints w B A1 xs ∧ Ints w B A2 ys ∧ (A1 = none → n1 = 0 ∧ c1 = 0) ∧ (A2 = none → n2 = 0 ∧ c2 = 0) := by
  obtain ⟨b, off, e, hb, hc⟩ := h (by omega)
  have he : bs[k]? = some bs[k] := List.getElem?_eq_getElem hk
  obtain ⟨A1, c1, A2, c2, h1, h2, h3, h4, h5, h6⟩ := hc k _ he
  exact ⟨b, off, bs[k].1, bs[k].2, A1, _, c1, A2, _, c2, e, hb, he, rfl, rfl, h1, h2, h3, h4, h5, h6⟩
theorem Bars.keep {w w' : World} {B : Nat} {A : Option Addr} {bs : List (List Int × List Int)} (h : Bars w B A bs) (hk : ∀ p : Addr, p.block < B → w'.cell? p = w.cell? p) : Bars w' B A bs := fun hn => by
  obtain ⟨b, off, e, hb, hc⟩ := h hn
  refine ⟨b, off, e, hb, fun k x hx => ?_⟩
  obtain ⟨A1, c1, A2, c2, h1, h2, h3, h4, h5⟩ := hc k x hx
  exact ⟨A1, c1, A2, c2, (hk _ hb).trans h1, (hk _ hb).trans h2, h3.keep hk, h4.keep hk, h5⟩
theorem Bars.more {w : World} {B B' : Nat} {A : Option Addr} {bs : List (List Int × List Int)} (h : Bars w B A bs) (hB : B ≤ B') : Bars w B' A bs := fun hn => by
  obtain ⟨b, off, e, hb, hc⟩ := h hn
  refine ⟨b, off, e, by omega, fun k x hx => ?_⟩
  obtain ⟨A1, c1, A2, c2, h1, h2, h3, h4, h5⟩ := hc k x hx
  exact ⟨A1, c1, A2, c2, h1, h2, h3.more hB, h4.more hB, h5⟩
theorem Bars.below {w w' : World} {B : Nat} {A : Option Addr} {bs : List (List Int × List Int)} (h : Bars w B A bs) (hb : Below B w w') : Bars w' B A bs := h.keep fun _ hp => hb.cell hp

/-- A task, in plain words: its two numbers, parts (op, arg, work), edges, futures (maker, user, at), barriers (in, out). -/
structure Task where
  period : Int
  deadline : Int
  parts : List (Int × Int × Int)
  edges : List (Int × Int)
  futures : List (Int × Int × Int)
  bars : List (List Int × List Int)
deriving DecidableEq
/-- Its four slices as they are handed over. -/
structure Sh where
  P : Option Addr
  np : Nat
  pc : Nat
  E : Option Addr
  ne : Nat
  ec : Nat
  F : Option Addr
  nf : Nat
  fc : Nat
  R : Option Addr
  nr : Nat
  rc : Nat
/-- A task that lies below block B. -/
structure IsT (w : World) (B : Nat) (s : Sh) (T : Task) : Prop where
  hp : T.parts.length = s.np
  he : T.edges.length = s.ne
  hf : T.futures.length = s.nf
  hr : T.bars.length = s.nr
  parts : Trips w B s.P T.parts
  edges : Pairs w B s.E T.edges
  futures : Trips w B s.F T.futures
  bars : Bars w B s.R T.bars
  nP : s.P = none → s.np = 0 ∧ s.pc = 0
  nE : s.E = none → s.ne = 0 ∧ s.ec = 0
  nF : s.F = none → s.nf = 0 ∧ s.fc = 0
  nR : s.R = none → s.nr = 0 ∧ s.rc = 0
theorem IsT.below {w w' : World} {B : Nat} {s : Sh} {T : Task} (h : IsT w B s T) (hb : Below B w w') : IsT w' B s T :=
  ⟨h.hp, h.he, h.hf, h.hr, h.parts.below hb, h.edges.below hb, h.futures.below hb, h.bars.below hb, h.nP, h.nE, h.nF, h.nR⟩
theorem IsT.more {w : World} {B B' : Nat} {s : Sh} {T : Task} (h : IsT w B s T) (hB : B ≤ B') : IsT w B' s T :=
  ⟨h.hp, h.he, h.hf, h.hr, h.parts.more hB, h.edges.more hB, h.futures.more hB, h.bars.more hB, h.nP, h.nE, h.nF, h.nR⟩

section
variable {P : Option Addr} {np pc : Nat} {E : Option Addr} {ne ec : Nat} {F : Option Addr} {nf fc : Nat} {R : Option Addr} {nr rc : Nat} {p q : Int}
theorem dpart_any (x : Int) (w : World) :
    Calls Tryd.prog 21 #[.agg #[.int .i64 p, .int .i64 q, .slice P np pc, .slice E ne ec, .slice F nf fc, .slice R nr rc], .int .i64 x] w fun e w' => e = .returned (.bool (decide (0 ≤ x ∧ x < np))) ∧ Below w.heap.size w w' := by
  by_cases h : 0 ≤ x
  · by_cases k : x < np
    · rw [decide_eq_true (⟨h, k⟩ : 0 ≤ x ∧ x < np)]
      go_enter Tryd.func21, Tryd.ntmps21
      go_wp2
      go_ret
      exact ⟨rfl, below_alloc _⟩
    · rw [decide_eq_false (fun q : 0 ≤ x ∧ x < np => k q.2)]
      go_enter Tryd.func21, Tryd.ntmps21
      go_wp2
      go_ret
      exact ⟨rfl, below_alloc _⟩
  · rw [decide_eq_false (fun q : 0 ≤ x ∧ x < np => h q.1)]
    have h' : x < 0 := by omega
    clear h
    go_enter Tryd.func21, Tryd.ntmps21
    go_wp2
    go_ret
    exact ⟨rfl, below_alloc _⟩
end
end Go.Proofs.YtpckmhmabmmllaaDoor
namespace Go.Proofs.YtpckmhmabmmllaaDoor
open Go.RowKit

/-- A world in which nothing below the block B has turned. -/
structure Near (B : Nat) (w : World) where
  W : World
  h : Below B w W
instance (B : Nat) (w : World) : Nonempty (Near B w) := ⟨⟨w, Below.refl _ _⟩⟩
theorem wp_region_near {P : Program} (B : Nat) {id : Nat} {Q : Exit → Act → World → Prop} {a : Act} {w : World} {l : List Oper} (hm : P.follows .mixedOrders = true) (hB : Region.lexB .any l.toArray = true)
    (_ : B ≤ w.heap.size)
    (h : wpQuiet P l.toArray (fun W => ∃ x : Near B w, W = x.W) (fun a' => ∀ W, Below B w W → Q .normal a' W) l a) : (Code.region id l.toArray true).wp P Q a w := by
  refine wp_region_quiet (C := fun W => ∃ x : Near B w, W = x.W) hm hB ⟨⟨_, ?_⟩, rfl⟩ ?_
  · exact below_drewN (Below.refl B w) 1
  · have e : (fun a' => ∀ W, Below B w W → Q Exit.normal a' W) = (fun a' => ∀ W, (∃ x : Near B w, W = x.W) → Q Exit.normal a' W) := by
      funext a'
      apply propext
      constructor
      · rintro k W ⟨x, rfl⟩
        exact k _ x.h
      · intro k W hW
        exact k W ⟨⟨W, hW⟩, rfl⟩
    rw [e] at h
    simpa using h
theorem near_of {P : Program} {f : FuncId} {args : Array Value} {B : Nat} {w : World} {x : Near B w} {v : Value}
    (h : Calls P f args x.W fun e w' => e = .returned v ∧ Below x.W.heap.size x.W w') (hb : B ≤ w.heap.size) : Calls P f args x.W fun e w'' => e = .returned v ∧ ∃ y : Near B w, w'' = y.W :=
  h.mono fun _ w' ⟨he, hm⟩ => ⟨he, ⟨w', x.h.trans (hm.mono (Nat.le_trans hb x.h.size))⟩, rfl⟩
theorem near_same {P : Program} {f : FuncId} {args : Array Value} {B : Nat} {w : World} {x : Near B w} {v : Value}
    (h : Calls P f args x.W fun e w' => e = .returned v ∧ x.W = w') : Calls P f args x.W fun e w'' => e = .returned v ∧ ∃ y : Near B w, w'' = y.W :=
  h.mono fun _ _ ⟨he, hm⟩ => ⟨he, x, hm.symm⟩
end Go.Proofs.YtpckmhmabmmllaaDoor
set_option linter.unusedVariables false
namespace Go.Proofs.YtpckmhmabmmllaaDoor
open Go.RowKit

theorem take_snoc' {α : Type} {l : List α} {j : Nat} {a : α} (h : l[j]? = some a) : l.take (j + 1) = l.take j ++ [a] := by
  rw [List.take_add_one, h]
  rfl
theorem take_ext {α : Type} {xs ys : List α} (h : xs.length = ys.length) (e : xs.take xs.length = ys.take xs.length) : xs = ys := by
  rw [List.take_length, h, List.take_length] at e
  exact e
theorem take_next {α : Type} {xs ys : List α} {j : Nat} {a : α} (e : xs.take j = ys.take j) (h1 : xs[j]? = some a) (h2 : ys[j]? = some a) : xs.take (j + 1) = ys.take (j + 1) := by
  rw [take_snoc' h1, take_snoc' h2, e]
theorem take_part {α : Type} {xs ys : List α} {j : Nat} {a b : α} (h1 : xs[j]? = some a) (h2 : ys[j]? = some b) (hne : a ≠ b) : xs ≠ ys := by
  rintro rfl
  rw [h1] at h2
  exact hne (Option.some.inj h2)

theorem drews (w : World) (N n : Nat) : (w.drewN N).drewN n = w.drewN (N + n) := by simp
set_option maxHeartbeats 800000 in
theorem ints_any (B : Nat) (A1 A2 : Option Addr) (c1 c2 : Nat) (xs ys : List Int) (w : World) (hx : xs.length ≤ 1000) (hy : ys.length ≤ 1000) (h1 : Ints w B A1 xs) (h2 : Ints w B A2 ys) :
    Calls Tryd.prog 18 #[.slice A1 xs.length c1, .slice A2 ys.length c2] w fun e w' => e = .returned (.bool (decide (xs = ys))) ∧ ∃ N, w' = w.drewN N := by
  obtain ⟨n, hn⟩ : ∃ n, n = xs.length := ⟨_, rfl⟩
  obtain ⟨m, hm⟩ : ∃ m, m = ys.length := ⟨_, rfl⟩
  rw [← hn, ← hm]
  rw [← hn] at hx
  rw [← hm] at hy
  have HN := Lib.hid hn
  have HM := Lib.hid hm
  have H1 := Lib.hid h1
  have H2 := Lib.hid h2
  clear hn hm h1 h2
  by_cases hnm : n = m
  · subst hnm
    go_enter Tryd.func18, Tryd.ntmps18
    go_wp2
    go_loopw [5] (fun i wr => ∃ j N : Nat, j ≤ n ∧ i = .int .i64 j ∧ Hid (xs.take j = ys.take j) ∧ wr = w.drewN N) (fun i _ => n - (intOf i).toNat)
    case atStart => exact ⟨0, 0, Nat.zero_le _, rfl, Lib.hid rfl, rfl⟩
    case round =>
      obtain ⟨j, N, hj, rfl, HT, rfl⟩ := hrel
      by_cases hlt : j < n
      · obtain ⟨b1, o1, x, rfl, _, hx1, hc1⟩ := H1.out.at_ (k := j) (by rw [← HN.out]; exact hlt)
        obtain ⟨b2, o2, y, rfl, _, hy1, hc2⟩ := H2.out.at_ (k := j) (by rw [← HM.out]; exact hlt)
        have HX := Lib.hid hx1
        have HY := Lib.hid hy1
        clear hx1 hy1
        by_cases hxy : x = y
        · subst hxy
          go_wp2
          go_quiet (fail)
          go_wp2
          go_roundw
          case rel => exact ⟨j + 1, _, by omega, by go_num, Lib.hid (take_next HT.out HX.out HY.out), rfl⟩
          case measure => simp [intOf]; omega
        · have hb : (x != y) = true := by simpa using hxy
          have HXY := Lib.hid hxy
          clear hxy
          go_wp2
          go_quiet (fail)
          go_wp2
          go_ret
          exact ⟨by rw [decide_eq_false (take_part HX.out HY.out HXY.out)]; rfl, _, drews w N _⟩
      · obtain rfl : j = n := by omega
        go_wp2
        go_ret
        exact ⟨by rw [decide_eq_true (take_ext (by rw [← HN.out, ← HM.out]) (by rw [← HN.out]; exact HT.out))]; rfl, _, rfl⟩
  · have hb : ((n : Int) != (m : Int)) = true := by simp; omega
    go_enter Tryd.func18, Tryd.ntmps18
    go_wp2
    go_ret
    exact ⟨by rw [decide_eq_false (fun e : xs = ys => hnm (by rw [HN.out, HM.out, e]))]; rfl, 0, rfl⟩
end Go.Proofs.YtpckmhmabmmllaaDoor
set_option linter.unusedVariables false
namespace Go.Proofs.YtpckmhmabmmllaaDoor
open Go.RowKit

theorem mem_take_snoc {α : Type} [DecidableEq α] {l : List α} {j : Nat} {e x : α} (h : l[j]? = some e) : x ∈ l.take (j + 1) ↔ x ∈ l.take j ∨ x = e := by
  rw [List.take_add_one, h]
  simp
set_option maxHeartbeats 1000000 in
theorem has_any (A : Option Addr) (c : Nat) (zs : List Int) (x : Int) (w : World) (len : Nat) (hn : zs.length = len) (hl : len ≤ 1000) (hI : Ints w w.heap.size A zs) :
    Calls Tryd.prog 60 #[.slice A len c, .int .i64 x] w fun e w' => e = .returned (.bool (decide (x ∈ zs))) ∧ w = w' := by
  have HI := Lib.hid hI
  have HM := Lib.hid hn
  obtain ⟨r, hr⟩ : ∃ r, r = decide (x ∈ zs) := ⟨_, rfl⟩
  rw [← hr]
  have HR := Lib.hid hr
  clear hI hn hr
  go_enter Tryd.func60, Tryd.ntmps60
  go_wp2
  go_loop [5] (fun i => ∃ j : Nat, j ≤ len ∧ i = .int .i64 j ∧ Hid (x ∉ zs.take j)) (fun i => len - (intOf i).toNat)
  case atStart => exact ⟨0, Nat.zero_le _, rfl, Lib.hid (by simp)⟩
  case round =>
    obtain ⟨j, hj, rfl, HN⟩ := hrel
    by_cases hlt : j < len
    · obtain ⟨bk, o, z, rfl, hbg, hzj, hc1⟩ := HI.out.at_ (k := j) (by rw [HM.out]; exact hlt)
      have HS := Lib.hid (mem_take_snoc (x := x) hzj)
      have HZJ := Lib.hid hzj
      clear hzj
      by_cases h1 : z = x
      · have hin : x ∈ zs := by subst h1; exact List.mem_of_getElem? HZJ.out
        have HIN := Lib.hid (decide_eq_true hin)
        clear hin
        go_wp2
        go_ret
        exact ⟨by rw [HR.out, HIN.out]; rfl, rfl⟩
      · have h3 : (z == x) = false := by simpa using h1
        go_wp2
        go_round
        case rel => exact ⟨j + 1, by omega, by go_num, Lib.hid (by rw [HS.out]; rintro (h | h); exact HN.out h; exact h1 h.symm)⟩
        case measure => simp [intOf]; omega
    · obtain rfl : j = len := by omega
      have hno : x ∉ zs := by
        have h := HN.out
        rwa [List.take_of_length_le (by rw [HM.out]; omega)] at h
      have HNO := Lib.hid (decide_eq_false hno)
      clear hno
      go_wp2
      go_ret
      exact ⟨by rw [HR.out, HNO.out]; rfl, rfl⟩
end Go.Proofs.YtpckmhmabmmllaaDoor
set_option linter.unusedVariables false
namespace Go.Proofs.YtpckmhmabmmllaaDoor
open Go.RowKit

theorem below_alloc2 {w : World} (o o2 : Obj) : Below w.heap.size w ((w.alloc o).alloc o2) := (below_alloc o).alloc (by simp) o2
theorem edge_fields : (Tryd.prog.fieldsOf 44).toList.map (fun f => (f.name, f.type, f.offset)) = [("From", 3, 0), ("To", 3, 1)] := by kernel_rfl
theorem part_int (x y : Int) (W : World) : (part 3 #[.int .i64 x, .int .i64 y] 0).run Tryd.prog W = .ok (.int .i64 x) W ∧ (part 3 #[.int .i64 x, .int .i64 y] 1).run Tryd.prog W = .ok (.int .i64 y) W := ⟨by kernel_rfl, by kernel_rfl⟩
theorem edge_eq (x y u v : Int) (W : World) : (Op.equalIn 10000 44 (.agg #[.int .i64 x, .int .i64 y]) (.agg #[.int .i64 u, .int .i64 v])).run Tryd.prog W = .ok (x == u && y == v) W := by
  have hf := edge_fields
  rw [run_equalIn_agg (d := 9999) W 44 _ _ (by kernel_rfl) (by kernel_rfl)]
  generalize (Tryd.prog.fieldsOf 44).toList = fs at hf
  match fs, hf with
  | [], hf => simp at hf
  | [_], hf => simp at hf
  | _ :: _ :: _ :: _, hf => simp at hf
  | [f, g], hf =>
    simp only [List.map_cons, List.map_nil, List.cons.injEq, Prod.mk.injEq, and_true] at hf
    obtain ⟨⟨n1, t1, o1⟩, n2, t2, o2⟩ := hf
    have e1 := fun a b W => run_equalIn_int (P := Tryd.prog) W 9998 3 .i64 .i64 a b Tryd.underlying3
    have p1 := fun a b W => (part_int a b W).1
    have p2 := fun a b W => (part_int a b W).2
    simp only [Op.eqFields, n1, n2, t1, t2, o1, o2]
    by_cases h1 : x = u
    · subst h1
      by_cases h2 : y = v
      · simp [p1, p2, e1, h2]
      · simp [p1, p2, e1, h2]
    · simp [p1, p2, e1, h1]
theorem edge_neq_run (x y u v : Int) (W : World) : (binOp .neq 44 (.agg #[.int .i64 x, .int .i64 y]) (.agg #[.int .i64 u, .int .i64 v])).run Tryd.prog W = .ok (.bool (!(x == u && y == v))) W := by
  rw [run_neq_struct, edge_eq]
  rfl
theorem edge_eql_run (x y u v : Int) (W : World) : (binOp .eql 44 (.agg #[.int .i64 x, .int .i64 y]) (.agg #[.int .i64 u, .int .i64 v])).run Tryd.prog W = .ok (.bool (x == u && y == v)) W := by
  rw [run_eql_struct, edge_eq]
  rfl
set_option maxRecDepth 100000 in
set_option maxHeartbeats 2000000 in
theorem same_any (A F A' F' : Option Addr) (n c m d n' c' m' d' : Nat) (W W' : List Int) (E E' : List (Int × Int)) (w : World) (hn : W.length = n) (hm : E.length = m) (hn' : W'.length = n') (hm' : E'.length = m')
    (l1 : n ≤ 1000) (l2 : m ≤ 1000) (l3 : n' ≤ 1000) (l4 : m' ≤ 1000) (hI : Ints w w.heap.size A W) (hP : Pairs w w.heap.size F E) (hI' : Ints w w.heap.size A' W') (hP' : Pairs w w.heap.size F' E') :
    Calls Tryd.prog 39 #[.agg #[.slice A n c, .slice F m d], .agg #[.slice A' n' c', .slice F' m' d']] w fun e w' => e = .returned (.bool (decide (W = W' ∧ E = E'))) ∧ Below w.heap.size w w' := by
  have HI := Lib.hid hI
  have HN := Lib.hid hn
  have HP := Lib.hid hP
  have HM := Lib.hid hm
  have HI' := Lib.hid hI'
  have HN' := Lib.hid hn'
  have HP' := Lib.hid hP'
  have HM' := Lib.hid hm'
  obtain ⟨r, hr⟩ : ∃ r, r = decide (W = W' ∧ E = E') := ⟨_, rfl⟩
  rw [← hr]
  have HR := Lib.hid hr
  clear hI hn hP hm hI' hn' hP' hm' hr
  by_cases h1 : n = n'
  · subst h1
    by_cases h2 : m = m'
    · subst h2
      go_enter Tryd.func39, Tryd.ntmps39
      go_wp2
      go_loopw [5] (fun i wr => ∃ j N : Nat, j ≤ n ∧ i = .int .i64 j ∧ Hid (W.take j = W'.take j) ∧ wr = ((w.alloc (.cells #[.slice A n c, .slice F m d] 58)).alloc (.cells #[.slice A' n c', .slice F' m d'] 58)).drewN N) (fun i _ => n - (intOf i).toNat)
      case atStart => exact ⟨0, 0, Nat.zero_le _, rfl, Lib.hid rfl, rfl⟩
      case round =>
        obtain ⟨j, N, hj, rfl, HT, rfl⟩ := hrel
        by_cases hlt : j < n
        · obtain ⟨b1, o1, x, rfl, hb1, hx1, hc1⟩ := HI.out.at_ (k := j) (by rw [HN.out]; exact hlt)
          obtain ⟨b2, o2, y, rfl, hb2, hy1, hc2⟩ := HI'.out.at_ (k := j) (by rw [HN'.out]; exact hlt)
          have HX := Lib.hid hx1
          have HY := Lib.hid hy1
          clear hx1 hy1
          by_cases hxy : x = y
          · subst hxy
            go_wp2
            go_quiet (fail)
            go_wp2
            go_roundw
            case rel => exact ⟨j + 1, _, by omega, by go_num, Lib.hid (take_next HT.out HX.out HY.out), rfl⟩
            case measure => simp [intOf]; omega
          · have hb : (x != y) = true := by simpa using hxy
            have HXY := Lib.hid hxy
            clear hxy
            go_wp2
            go_quiet (fail)
            go_wp2
            go_ret
            exact ⟨by rw [HR.out, decide_eq_false (fun e : W = W' ∧ E = E' => take_part HX.out HY.out HXY.out e.1)]; rfl, below_drewN (below_drewN (below_alloc2 _ _) N) _⟩
        · obtain rfl : j = n := by omega
          have HWW := Lib.hid (take_ext (by rw [HN.out, HN'.out]) (by rw [HN.out]; exact HT.out) : W = W')
          go_wp2
          go_loopw [6] (fun i wr => ∃ k M : Nat, k ≤ m ∧ i = .int .i64 k ∧ Hid (E.take k = E'.take k) ∧ wr = ((w.alloc (.cells #[.slice A j c, .slice F m d] 58)).alloc (.cells #[.slice A' j c', .slice F' m d'] 58)).drewN M) (fun i _ => m - (intOf i).toNat)
          case atStart => exact ⟨0, N, Nat.zero_le _, rfl, Lib.hid rfl, rfl⟩
          case round =>
            obtain ⟨k, M, hk, rfl, HU, rfl⟩ := hrel
            by_cases hlt2 : k < m
            · obtain ⟨b1, o1, ⟨x1, x2⟩, rfl, hb1, hx1, hc1, hc2⟩ := HP.out.at_ (k := k) (by rw [HM.out]; exact hlt2)
              obtain ⟨b2, o2, ⟨y1, y2⟩, rfl, hb2, hy1, hd1, hd2⟩ := HP'.out.at_ (k := k) (by rw [HM'.out]; exact hlt2)
              simp only at hc1 hc2 hd1 hd2
              have HX := Lib.hid hx1
              have HY := Lib.hid hy1
              clear hx1 hy1
              have hrun := fun W => edge_neq_run x1 x2 y1 y2 W
              by_cases hxy : (x1, x2) = (y1, y2)
              · injection hxy with h1 h2
                subst h1 h2
                have hb : (x1 == x1 && x2 == x2) = true := by simp
                simp only [hb] at hrun
                go_wp2
                go_quiet (fail)
                go_wp2
                go_roundw
                case rel => exact ⟨k + 1, _, by omega, by go_num, Lib.hid (take_next HU.out HX.out HY.out), rfl⟩
                case measure => simp [intOf]; omega
              · have hb : (x1 == y1 && x2 == y2) = false := by
                  rw [Bool.and_eq_false_iff]
                  by_cases h1 : x1 = y1
                  · exact .inr (by simpa using fun h2 => hxy (by rw [h1, h2]))
                  · exact .inl (by simpa using h1)
                simp only [hb] at hrun
                have HXY := Lib.hid hxy
                clear hxy
                go_wp2
                go_quiet (fail)
                go_wp2
                go_ret
                exact ⟨by rw [HR.out, decide_eq_false (fun e : W = W' ∧ E = E' => take_part HX.out HY.out HXY.out e.2)]; rfl, below_drewN (below_drewN (below_alloc2 _ _) M) _⟩
            · obtain rfl : k = m := by omega
              have HEE := Lib.hid (take_ext (by rw [HM.out, HM'.out]) (by rw [HM.out]; exact HU.out) : E = E')
              go_wp2
              go_ret
              exact ⟨by rw [HR.out, decide_eq_true (⟨HWW.out, HEE.out⟩ : W = W' ∧ E = E')]; rfl, below_drewN (below_alloc2 _ _) M⟩
    · have hb : ((m : Int) != (m' : Int)) = true := by simp; omega
      have HNO := Lib.hid (fun e : W = W' ∧ E = E' => h2 (by rw [← HM.out, ← HM'.out, e.2]))
      clear h2
      go_enter Tryd.func39, Tryd.ntmps39
      go_wp2
      go_ret
      exact ⟨by rw [HR.out, decide_eq_false HNO.out]; rfl, below_alloc2 _ _⟩
  · have hb : ((n : Int) != (n' : Int)) = true := by simp; omega
    have HNO := Lib.hid (fun e : W = W' ∧ E = E' => h1 (by rw [← HN.out, ← HN'.out, e.1]))
    clear h1
    go_enter Tryd.func39, Tryd.ntmps39
    go_wp2
    go_ret
    exact ⟨by rw [HR.out, decide_eq_false HNO.out]; rfl, below_alloc2 _ _⟩
end Go.Proofs.YtpckmhmabmmllaaDoor
