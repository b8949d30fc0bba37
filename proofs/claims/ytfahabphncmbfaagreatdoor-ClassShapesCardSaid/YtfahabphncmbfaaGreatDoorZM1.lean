/- The contract of math/bits.TrailingZeros64 in the seat YtfahabphncmbfaaGreatDoor, over a world that holds its table.
   Words for memory in the seat YtfahabphncmbfaaGreatDoor: a slice that reads as a list of integers. No statement is proved here; the other texts of the claim use these lemmas.
   What the proofs over the rows of the seat YtfahabphncmbfaaGreatDoor share, where the rows list no variables.
   What the walks of layer 5 ask of a world's package variables, in the seat YtfahabphncmbfaaGreatDoor: math/bits' table of 64. (Copy over DTab.tpl for a landed program that reads it.)
   What every row of the layer desc in the seat YtfahabphncmbfaaGreatDoor lists of package-level variables (math/bits' tables of 32 and of 64), and a world that holds them.
   The plain arithmetic of the layer num in the seat YtfahabphncmbfaaGreatDoor: what each call comes to, as functions of integers. No statement is proved here; it imports nothing of the program.
   What the shape of a task is, and what it tells: plain mathematics, in the seat YtfahabphncmbfaaGreatDoor.
   The contract of num.Check, in the seat YtfahabphncmbfaaGreatDoor (out of NumFirst).
   The contracts of num.Check, of the closure in firstFault, of slices.IndexFunc and slices.ContainsFunc at it, and of firstFault, in the seat YtfahabphncmbfaaGreatDoor.
   The contracts of num.Add, Sub, Mul, Down and Up in the seat YtfahabphncmbfaaGreatDoor: each comes to what the plain arithmetic says, and nothing that was there has turned.
   No statement is proved here. -/
import Derived.Test.YtfahabphncmbfaaGreatDoorChecked
import Derived.WalkKit
import Derived.Handy
import Derived.KernelRfl
import Derived.Below
import Derived.Laws.Bits64b
import Derived.Lib.TrailingZeros
import Derived.Lib.Hide
import Derived.Laws.AppendOwnNone
import Derived.Deep.AppendLies
import Derived.Maps.AppendAt
import Derived.Test.YtfahabphncmbfaaGreatDoorRows
import Derived.ProofKit
import Derived.OpenShut
import Derived.ShutString
import Derived.ChangeOld
import Derived.ChangeMaps5
import Derived.Test.YtfahabphncmbfaaGreatDoorCards
import Derived.Test.YtfahabphncmbfaaGreatDoorTie
import Derived.Deep.DeepHandedRow
import Derived.Lib.LaidTab
import Derived.Stop.LaidErr
set_option linter.unusedSimpArgs false
set_option linter.unusedVariables false
namespace Go.Proofs.YtfahabphncmbfaaGreatDoor
open Go.RowKit

/-- The table of math/bits in its variable. -/
def Tab64 (w : World) : Prop := ∀ j, j < Lib.deBruijn64tab.length → w.cell? ⟨0, j, none⟩ = some (.int .u8 (Lib.deBruijn64tab.getD j 0))
theorem Tab64.below {w w' : World} {B : Nat} (h : Tab64 w) (hb : Below B w w') (hB : 0 < B) : Tab64 w' := fun j hj => (hb.cell (p := ⟨0, j, none⟩) hB).trans (h j hj)
theorem Tab64.lt {w : World} (h : Tab64 w) : 0 < w.heap.size := World.block_lt_of_cell? _ _ (h 0 (by decide))
theorem Tab64.via {w w' : World} (h : Tab64 w) (hb : Below w.heap.size w w') : Tab64 w' := h.below hb h.lt

set_option maxHeartbeats 1000000 in
theorem tz64_core (x k idx : Nat) (w : World) (hx0 : ((x : Int) == 0) = false)
    (key : IntKind.u64.wrap (bits BinOp.and IntKind.u64 (x : Int) (IntKind.u64.wrap (-(x : Int))) * 285870213051353865) / 288230376151711744 = (idx : Int))
    (hi : idx < 64) (hk : k < 64) (hcell : w.cell? ⟨0, idx, none⟩ = some (.int .u8 k)) :
    Calls Tryz.prog 170 #[.int .u64 x] w fun e w' => e = .returned (.int .i64 k) ∧ w = w' := by
  go_enter Tryz.func170, Tryz.ntmps170
  go_wp2_with (simp only [key])
  go_ret
  exact ⟨rfl, rfl⟩
theorem tz64_at (x a : Nat) (hx : x < 18446744073709551616) (hx0 : x ≠ 0) (hlow : x &&& (18446744073709551616 - x) = a) :
    IntKind.u64.wrap (bits BinOp.and IntKind.u64 (x : Int) (IntKind.u64.wrap (-(x : Int))) * 285870213051353865) / 288230376151711744 = ((a * 285870213051353865 % 18446744073709551616 / 288230376151711744 : Nat) : Int) := by
  have e1 : IntKind.u64.wrap (-(x : Int)) = ((18446744073709551616 - x : Nat) : Int) := by rw [IntKind.wrap_u64]; omega
  rw [e1, bits_and_u64_nat x _ hx (by omega), hlow, IntKind.wrap_u64]
  omega
theorem tz64_any (x : Nat) (w : World) (hx : x < 18446744073709551616) (hx0 : x ≠ 0) (hT : Tab64 w) :
    Calls Tryz.prog 170 #[.int .u64 x] w fun e w' => e = .returned (.int .i64 (Lib.ctz 64 x)) ∧ w = w' := by
  obtain ⟨hlow, hk⟩ := Lib.lowest_bit 64 x hx0 hx
  obtain ⟨hi, htab⟩ := Lib.deBruijn64_at _ hk
  have hcell := hT _ hi
  rw [htab] at hcell
  exact tz64_core x _ _ w (by simp; omega) (tz64_at x _ hx hx0 hlow) hi hk hcell
end Go.Proofs.YtfahabphncmbfaaGreatDoor
namespace Go.Proofs.YtfahabphncmbfaaGreatDoor
open Go.RowKit

/-- A slice value (its address A, its length that of zs) reads as the integers zs, below block B. -/
def Ints (w : World) (B : Nat) (A : Option Addr) (zs : List Int) : Prop :=
  0 < zs.length → ∃ b off, A = some ⟨b, off, none⟩ ∧ b < B ∧ ∀ k, k < zs.length → w.cell? ⟨b, off + k, none⟩ = some (.int .i64 (zs.getD k 0))
theorem Ints.at_ {w : World} {B : Nat} {A : Option Addr} {zs : List Int} {k : Nat} (h : Ints w B A zs) (hk : k < zs.length) :
    ∃ b off z, A = some ⟨b, off, none⟩ ∧ b < B ∧ zs[k]? = some z ∧ w.cell? ⟨b, off + k, none⟩ = some (.int .i64 z) := by
  obtain ⟨b, off, e, hb, hc⟩ := h (by omega)
  exact ⟨b, off, zs[k], e, hb, List.getElem?_eq_getElem hk, by rw [hc k hk, List.getD_eq_getElem?_getD, List.getElem?_eq_getElem hk]; rfl⟩
theorem Ints.keep {w w' : World} {B : Nat} {A : Option Addr} {zs : List Int} (h : Ints w B A zs) (hk : ∀ p : Addr, p.block < B → w'.cell? p = w.cell? p) : Ints w' B A zs := fun hn => by
  obtain ⟨b, off, e, hb, hc⟩ := h hn
  exact ⟨b, off, e, hb, fun k hk' => (hk _ hb).trans (hc k hk')⟩
theorem Ints.more {w : World} {B B' : Nat} {A : Option Addr} {zs : List Int} (h : Ints w B A zs) (hB : B ≤ B') : Ints w B' A zs := fun hn => by
  obtain ⟨b, off, e, hb, hc⟩ := h hn
  exact ⟨b, off, e, by omega, hc⟩
theorem Ints.below {w w' : World} {B : Nat} {A : Option Addr} {zs : List Int} (h : Ints w B A zs) (hb : Below B w w') : Ints w' B A zs := h.keep fun _ hp => hb.cell hp
theorem Ints.alloc {w : World} {B : Nat} {A : Option Addr} {zs : List Int} (h : Ints w B A zs) (hB : B ≤ w.heap.size) (o : Obj) : Ints (w.alloc o) B A zs :=
  h.keep fun p hp => World.cell?_alloc_lt w o p (by omega)
theorem Ints.nil_ (w : World) (B : Nat) (A : Option Addr) : Ints w B A [] := fun h => absurd h (by simp)
theorem Ints.take {w : World} {B : Nat} {A : Option Addr} {zs : List Int} (h : Ints w B A zs) (i : Nat) : Ints w B A (zs.take i) := fun hn => by
  have hl : (zs.take i).length ≤ zs.length := by simp; omega
  obtain ⟨b, off, e, hb, hc⟩ := h (by omega)
  refine ⟨b, off, e, hb, fun k hk => ?_⟩
  have hk2 : k < i := by simp at hk; omega
  rw [hc k (by omega), List.getD_eq_getElem?_getD, List.getD_eq_getElem?_getD, List.getElem?_take, if_pos hk2]
theorem addr_add (b off j : Nat) : (⟨b, off, none⟩ : Addr).add j = ⟨b, off + j, none⟩ := by unfold Addr.add; by_cases h0 : j = 0 <;> simp [h0]
theorem Ints.cells {w : World} {B : Nat} {ad : Addr} {zs : List Int} (h : Ints w B (some ad) zs) : ∀ (j : Nat) (u : Value), (zs.map (Value.int .i64))[j]? = some u → w.cell? (ad.add j) = some u := by
  intro j u hu
  have hj : j < zs.length := by
    rcases Nat.lt_or_ge j zs.length with hlt | hge
    · exact hlt
    · rw [List.getElem?_eq_none (by simpa using hge)] at hu; cases hu
  obtain ⟨b, off, e, hb, hc⟩ := h (by omega)
  injection e with e
  subst e
  rw [addr_add, hc j hj]
  rw [List.getElem?_map, List.getElem?_eq_getElem hj] at hu
  rw [List.getD_eq_getElem?_getD, List.getElem?_eq_getElem hj]
  simpa using hu
theorem Ints.none_nil {w : World} {B : Nat} {zs : List Int} (h : Ints w B none zs) : zs = [] := by
  rcases Nat.eq_zero_or_pos zs.length with h0 | h0
  · exact List.eq_nil_of_length_eq_zero h0
  · obtain ⟨_, _, e, _⟩ := h h0
    cases e
theorem oneCell_ints (zs : List Int) : ∀ u ∈ zs.map (Value.int .i64), u.oneCell' = true := by
  intro u hu
  obtain ⟨n, _, rfl⟩ := List.mem_map.mp hu
  rfl
theorem Ints.of_own {w : World} {base : Nat} {e : TypeId} {v : Value} {zs : List Int} (h : w.ownsRow base e 1 v zs.length (zs.map (Value.int .i64))) :
    ∃ A c, v = .slice A zs.length c ∧ Ints w w.heap.size A zs := by
  by_cases hn : 0 < zs.length
  · obtain ⟨g, cap, hv, _, hlt⟩ := h.form hn
    refine ⟨some ⟨g, 0, none⟩, cap, hv, fun _ => ⟨g, 0, rfl, hlt, fun k hk => ?_⟩⟩
    subst hv
    have h1 : (zs.map (Value.int .i64))[k]? = some (.int .i64 (zs.getD k 0)) := by
      rw [List.getElem?_map, List.getElem?_eq_getElem hk, List.getD_eq_getElem?_getD, List.getElem?_eq_getElem hk]; rfl
    have := h.cells (g := g) rfl k _ h1
    rwa [addr_add] at this
  · obtain rfl : zs = [] := List.eq_nil_of_length_eq_zero (by omega)
    rcases h.2 with ⟨rfl, _⟩ | ⟨g, cap, cur, rfl, _⟩
    · exact ⟨none, 0, rfl, Ints.nil_ _ _ _⟩
    · exact ⟨some ⟨g, 0, none⟩, cap, rfl, Ints.nil_ _ _ _⟩
/-- A block that was just laid, of integers written out. -/
theorem Ints.new2 (w : World) (t : TypeId) (a b : Int) : Ints (w.alloc (.cells #[.int .i64 a, .int .i64 b] t)) (w.heap.size + 1) (some ⟨w.heap.size, 0, none⟩) [a, b] := fun _ => by
  refine ⟨_, _, rfl, by simp, fun k hk => ?_⟩
  match k, hk with
  | 0, _ => rw [World.cell?_alloc_at _ _ _ _ rfl]; rfl
  | 1, _ => rw [World.cell?_alloc_at _ _ _ _ rfl]; rfl
theorem Ints.new3 (w : World) (t : TypeId) (a b c : Int) : Ints (w.alloc (.cells #[.int .i64 a, .int .i64 b, .int .i64 c] t)) (w.heap.size + 1) (some ⟨w.heap.size, 0, none⟩) [a, b, c] := fun _ => by
  refine ⟨_, _, rfl, by simp, fun k hk => ?_⟩
  match k, hk with
  | 0, _ => rw [World.cell?_alloc_at _ _ _ _ rfl]; rfl
  | 1, _ => rw [World.cell?_alloc_at _ _ _ _ rfl]; rfl
  | 2, _ => rw [World.cell?_alloc_at _ _ _ _ rfl]; rfl
theorem below_alloc {w : World} (o : Obj) : Below w.heap.size w (w.alloc o) := (Below.refl _ _).alloc (Nat.le_refl _) o
/-- 'append([]int{}, l...)': a new slice of the same integers; nothing that was there has turned. -/
theorem wpList_copied {P : Program} {ops : Array Oper} {rest : List Oper} {o : Oper} {a : Act} {Q : Exit → Act → World → Prop} (hgd : o.guard = none) (s x : Operand) (t : TypeId)
    (ho : o.op = .call { callee := .builtin .append, args := #[s, x], argTypes := #[t, t] })
    (e : TypeId) (i : TypeInfo) (z : Value) (ht : P.underlying t = some (.slice e)) (hi : P.info? e = some i) (hz : i.zero = some z) (hsize : i.size = 1) (hby : i.bytes = 8) (hzs : z.cells.size = 1)
    (w1 : World) (B : Nat) (A : Option Addr) (cap len : Nat) (zs : List Int) (hlen : len = zs.length) (hl : len ≤ 1000) (hI : Ints w1 B A zs) (hB : B ≤ w1.heap.size) (hA : A = none → cap = 0)
    (hs : a.eval s = .slice (some ⟨w1.heap.size, 0, none⟩) 0 0) (hx : a.eval x = .slice A len cap)
    (h : ∀ A' c' w', Ints w' w'.heap.size A' zs → Below w1.heap.size w1 w' → wpList P ops Q rest (a.put o.dst (.slice A' len c')) w') : wpList P ops Q (o :: rest) a (w1.alloc (.cells #[] e)) := by
  have hown : (w1.alloc (.cells #[] e)).ownsRow w1.heap.size e 1 (.slice (some ⟨w1.heap.size, 0, none⟩) 0 0) 0 [] :=
    ⟨rfl, .inr ⟨w1.heap.size, 0, #[], rfl, Nat.le_refl _, heap_alloc_new w1 _, Nat.le_refl _, by simp [maxLen], rfl, rfl⟩⟩
  subst hlen
  rcases A with _ | ad
  · have e0 : zs = [] := hI.none_nil
    have e1 : cap = 0 := hA rfl
    subst e0 e1
    exact wpList_append_own_none hgd s x t ho w1.heap.size e i 1 ht hi _ 0 [] hs hown hx (h _ _ _ (Ints.nil_ _ _ _) (below_alloc _))
  · refine wpList_append_own _ hgd s x t ho w1.heap.size e i z 1 8 ht hi hz hsize hby hzs (by omega) _ 0 [] hs hown ad zs.length cap (zs.map (Value.int .i64)) hx (by simp) (hI.alloc hB _).cells (oneCell_ints zs)
      (by unfold maxLen; omega) (by omega) (by simp) ?_
    intro v' w' hown' hg _
    rw [Nat.zero_add, List.nil_append] at hown'
    obtain ⟨A', c', rfl, hI'⟩ := Ints.of_own hown'
    exact h A' c' w' hI' ((below_alloc _).grown hg (by simp) (by simp [Value.ownBlock]))
end Go.Proofs.YtfahabphncmbfaaGreatDoor
namespace Go.Proofs.YtfahabphncmbfaaGreatDoor
open Go.ChangeShapes Go.WideShapes Go.ChangeAt Go.RowKit

theorem own : ownKnob Tryz.prog.godebug = none := by kernel_rfl
theorem laidOut : laidOutB Tryz.prog = true := by kernel_rfl
theorem cell_below {w : World} {b off : Nat} {v : Value} (h : w.cell? ⟨b, off, none⟩ = some v) : b < w.heap.size := by
  rcases Nat.lt_or_ge b w.heap.size with hlt | hge
  · exact hlt
  · unfold World.cell? at h
    simp [Array.getElem?_eq_none hge] at h
/-- What a slice of integers that came in is: nil, or a row of cells. -/
def IsRow (k : IntKind) (w : World) (a : Option Addr) (len cap : Nat) (zs : List Int) : Prop :=
  (a = none ∧ len = 0 ∧ cap = 0 ∧ zs = []) ∨
  ∃ x, a = some x ∧ len ≤ cap ∧ cap ≤ maxLen ∧ zs.length = cap ∧ (∀ i, i < zs.length → w.cell? (x.add i) = some (.int k (zs.getD i 0))) ∧ ∀ n ∈ zs, (Lit.int k n).wf = true
theorem row_ints {w : World} {a : Option Addr} {len cap : Nat} {zs : List Int} (h : IsRow .i64 w a len cap zs) :
    Ints w w.heap.size a (zs.take len) ∧ (zs.take len).length = len ∧ (a = none → cap = 0) ∧ len ≤ 9223372036854775807 ∧ len ≤ cap := by
  rcases h with ⟨rfl, rfl, rfl, rfl⟩ | ⟨x, rfl, hl, hm, hz, hc, _⟩
  · exact ⟨Ints.nil_ _ _ _, rfl, fun _ => rfl, by omega, by omega⟩
  · have hlen : (zs.take len).length = len := by rw [List.length_take]; omega
    refine ⟨fun hn => ?_, hlen, (fun e => by cases e), by unfold maxLen at hm; omega, hl⟩
    obtain ⟨b, off, rfl, hc'⟩ := ints_at hc (by omega)
    refine ⟨b, off, rfl, cell_below (hc' 0 (by omega)), fun k hk => ?_⟩
    have hk2 : k < len := by omega
    rw [hc' k (by omega), List.getD_eq_getElem?_getD, List.getD_eq_getElem?_getD, List.getElem?_take, if_pos hk2]
theorem row_wf {w : World} {a : Option Addr} {len cap : Nat} {zs : List Int} (h : IsRow .i64 w a len cap zs) : ∀ z ∈ zs.take len, -9223372036854775808 ≤ z ∧ z ≤ 9223372036854775807 := by
  have e1 : IntKind.i64.min = -9223372036854775808 := by decide
  have e2 : IntKind.i64.max = 9223372036854775807 := by decide
  intro z hz
  rcases h with ⟨_, _, _, rfl⟩ | ⟨_, _, _, _, _, _, hw⟩
  · simp at hz
  · have hh := hw z (List.mem_of_mem_take hz)
    simp [Lit.wf, e1, e2] at hh
    omega
end Go.Proofs.YtfahabphncmbfaaGreatDoor
namespace Go.Proofs.YtfahabphncmbfaaGreatDoor
open Go Go.RowKit
def DTab (w : World) : Prop := Tab64 w
theorem DTab.via {w w' : World} (h : DTab w) (hb : Below w.heap.size w w') : DTab w' := Tab64.via h hb
end Go.Proofs.YtfahabphncmbfaaGreatDoor
namespace Go.Proofs.YtfahabphncmbfaaGreatDoor
open Go.ChangeShapes Go.WideShapes Go.ChangeAt Go.RowKit

theorem gTab64 : Tryz.prog.globalNamed "math/bits.deBruijn64tab" = some 0 := by kernel_rfl
theorem gTab64Type : (Tryz.prog.globals[0]?).map (·.type) = some 242 := by kernel_rfl
theorem cells64 : Tryz.prog.cellsOf 242 = 64 := by kernel_rfl
theorem cells8 : Tryz.prog.cellsOf 5 = 1 := by kernel_rfl
theorem laidMet_tail {P : Program} {W : World} {a : String × DataW Unit} {rest : List (String × DataW Unit)} (h : laidMet P (a :: rest) W) : laidMet P rest W := by
  obtain ⟨ps, hv, hnd, hc⟩ := h
  obtain ⟨_, _, _, _, p, q, _, _, _, _, hr, rfl⟩ := hv
  exact ⟨q, hr, (List.nodup_append.mp hnd).2.1, fun b off hm => hc b off (List.mem_append_right _ hm)⟩
/-- What the rows' list gives: the table's cells hold its numbers. -/
theorem tabs_of {W : World} (h : laidMetH Tryz.prog [("math/bits.deBruijn32tab", Rows.laid_math_bits_deBruijn32tab), ("math/bits.deBruijn64tab", Rows.laid_math_bits_deBruijn64tab)] W) : DTab W := by
  have h1 : laidMet Tryz.prog [("math/bits.deBruijn32tab", Rows.laid_math_bits_deBruijn32tab), ("math/bits.deBruijn64tab", Rows.laid_math_bits_deBruijn64tab)] W := h
  have h2 := laidMet_tail h1
  have h3 : Lib.TabIs Tryz.prog W "math/bits.deBruijn64tab" .u8 (Lib.deBruijn64tab.map Int.ofNat) :=
    Lib.tabIs_of_head (rest := []) gTab64 gTab64Type Tryz.underlying242 Tryz.underlying5 cells8 cells64 h2
  intro j hj
  rw [h3.cell gTab64 j (by simpa using hj)]
  congr 2
  rw [List.getD_eq_getElem?_getD, List.getElem?_map, List.getElem?_eq_getElem hj, List.getD_eq_getElem?_getD, List.getElem?_eq_getElem hj]
  rfl
theorem wf64 {a : Int} (h : (Lit.int .i64 a).wf = true) : -9223372036854775808 ≤ a ∧ a ≤ 9223372036854775807 := by
  have e1 : IntKind.i64.min = -9223372036854775808 := by decide
  have e2 : IntKind.i64.max = 9223372036854775807 := by decide
  simp [Lit.wf, e1, e2] at h
  omega
def tab32 : List Nat := [0, 1, 28, 2, 29, 14, 24, 3, 30, 22, 20, 15, 25, 17, 4, 8, 31, 27, 13, 23, 21, 19, 16, 7, 26, 12, 18, 6, 11, 5, 10, 9]
def setTab (l : List Nat) : Obj → Obj
  | .cells _ t frozen => .cells (l.map fun n => Value.int .u8 (Int.ofNat n)).toArray t frozen
  | o => o
/-- A world for the witness: the settled one, the tables holding what their initialisers lay. -/
noncomputable def laidWorld (os : Os) : World :=
  { World.holding Tryz.prog os ⟨#[], #[], []⟩ with heap := ((World.holding Tryz.prog os ⟨#[], #[], []⟩).heap.modify 1 (setTab tab32)).modify 0 (setTab Lib.deBruijn64tab) }
end Go.Proofs.YtfahabphncmbfaaGreatDoor
namespace Go.Proofs.YtfahabphncmbfaaGreatDoor

/-- The error of one number: 10 below 0, 11 above 2^40 - 1, else 0. -/
def chk (n : Int) : Int := if n < 0 then 10 else if 1099511627775 < n then 11 else 0
/-- The first error of some. -/
def ff : List Int → Int
  | [] => 0
  | n :: l => if chk n = 0 then ff l else chk n
def total : List Int → Int
  | [] => 0
  | n :: l => n + total l

theorem chk_low {n : Int} (h : n < 0) : chk n = 10 := by unfold chk; rw [if_pos h]
theorem chk_high {n : Int} (h : 1099511627775 < n) : chk n = 11 := by unfold chk; rw [if_neg (by omega), if_pos h]
theorem chk_ok {n : Int} (h0 : 0 ≤ n) (h1 : n ≤ 1099511627775) : chk n = 0 := by unfold chk; rw [if_neg (by omega), if_neg (by omega)]
theorem chk_zero {n : Int} (h : chk n = 0) : 0 ≤ n ∧ n ≤ 1099511627775 := by
  by_cases h1 : n < 0
  · rw [chk_low h1] at h; omega
  · by_cases h2 : 1099511627775 < n
    · rw [chk_high h2] at h; omega
    · omega
theorem chk_vals (n : Int) : chk n = 0 ∨ chk n = 10 ∨ chk n = 11 := by
  by_cases h1 : n < 0
  · rw [chk_low h1]; omega
  · by_cases h2 : 1099511627775 < n
    · rw [chk_high h2]; omega
    · rw [chk_ok (by omega) (by omega)]; omega
theorem ff_vals (l : List Int) : ff l = 0 ∨ ff l = 10 ∨ ff l = 11 := by
  induction l with
  | nil => exact .inl rfl
  | cons n l ih =>
    unfold ff
    by_cases h : chk n = 0
    · rw [if_pos h]; exact ih
    · rw [if_neg h]; exact chk_vals n
theorem ff_append (l r : List Int) : ff (l ++ r) = if ff l = 0 then ff r else ff l := by
  induction l with
  | nil => simp [ff]
  | cons n l ih =>
    by_cases h : chk n = 0
    · have e1 : ff (n :: l) = ff l := if_pos h
      have e2 : ff (n :: l ++ r) = ff (l ++ r) := if_pos h
      rw [e1, e2, ih]
    · have e1 : ff (n :: l) = chk n := if_neg h
      have e2 : ff (n :: l ++ r) = chk n := if_neg h
      rw [e1, e2, if_neg h]
theorem take_snoc {zs : List Int} {k : Nat} {z : Int} (h : zs[k]? = some z) : zs.take (k + 1) = zs.take k ++ [z] := by
  rw [List.take_add_one, h]; rfl
theorem ff_step {zs : List Int} {k : Nat} {z : Int} (h : zs[k]? = some z) (h0 : ff (zs.take k) = 0) : ff (zs.take (k + 1)) = chk z := by
  rw [take_snoc h, ff_append, if_pos h0]
  show (if chk z = 0 then ff [] else chk z) = chk z
  by_cases hc : chk z = 0
  · rw [if_pos hc, hc]; rfl
  · rw [if_neg hc]
theorem ff_early {zs : List Int} {k : Nat} {z : Int} (h : zs[k]? = some z) (h0 : ff (zs.take k) = 0) (hc : chk z ≠ 0) : ff zs = chk z := by
  have h1 := ff_step h h0
  have h2 := ff_append (zs.take (k + 1)) (zs.drop (k + 1))
  rw [List.take_append_drop, h1, if_neg hc] at h2
  exact h2
theorem ff_prefix {zs : List Int} (k : Nat) (h : ff zs = 0) : ff (zs.take k) = 0 := by
  have h2 := ff_append (zs.take k) (zs.drop k)
  rw [List.take_append_drop, h] at h2
  by_cases h0 : ff (zs.take k) = 0
  · exact h0
  · rw [if_neg h0] at h2; omega
theorem ff_mem {zs : List Int} (h : ff zs = 0) {k : Nat} {z : Int} (hz : zs[k]? = some z) : 0 ≤ z ∧ z ≤ 1099511627775 := by
  have h1 := ff_step hz (ff_prefix k h)
  rw [ff_prefix (k + 1) h] at h1
  exact chk_zero h1.symm
theorem ff_pair (a b : Int) : ff [a, b] = if chk a = 0 then chk b else chk a := by
  show (if chk a = 0 then (if chk b = 0 then 0 else chk b) else chk a) = _
  by_cases h : chk b = 0
  · rw [if_pos h, h]
  · rw [if_neg h]
theorem ff_pair_zero {a b : Int} (h : ff [a, b] = 0) : (0 ≤ a ∧ a ≤ 1099511627775) ∧ 0 ≤ b ∧ b ≤ 1099511627775 := by
  exact ⟨ff_mem h (k := 0) rfl, ff_mem h (k := 1) rfl⟩
theorem ff_pair_ok {a b : Int} (a0 : 0 ≤ a) (a1 : a ≤ 1099511627775) (b0 : 0 ≤ b) (b1 : b ≤ 1099511627775) : ff [a, b] = 0 := by
  rw [ff_pair, chk_ok a0 a1, if_pos rfl, chk_ok b0 b1]

theorem total_append (l r : List Int) : total (l ++ r) = total l + total r := by
  induction l with
  | nil => simp [total]
  | cons n l ih => simp only [List.cons_append, total]; omega
theorem total_step {zs : List Int} {k : Nat} {z : Int} (h : zs[k]? = some z) : total (zs.take (k + 1)) = total (zs.take k) + z := by
  rw [take_snoc h, total_append]; simp [total]
theorem total_pos {zs : List Int} (h : ff zs = 0) : 0 ≤ total zs := by
  induction zs with
  | nil => exact Int.le_refl _
  | cons n l ih =>
    unfold ff at h
    by_cases hc : chk n = 0
    · rw [if_pos hc] at h
      have := chk_zero hc
      have := ih h
      simp only [total]; omega
    · rw [if_neg hc] at h; exact absurd h hc
theorem ff_drop {zs : List Int} (k : Nat) (h : ff zs = 0) : ff (zs.drop k) = 0 := by
  have h2 := ff_append (zs.take k) (zs.drop k)
  rw [List.take_append_drop, h, ff_prefix k h, if_pos rfl] at h2
  exact h2.symm
theorem total_prefix {zs : List Int} (k : Nat) (h : ff zs = 0) : total (zs.take k) ≤ total zs := by
  have h2 := total_append (zs.take k) (zs.drop k)
  rw [List.take_append_drop] at h2
  have := total_pos (ff_drop k h)
  omega

/-- What the calls come to: the number, and the error. -/
def addS (l : List Int) : Int := if ff l = 0 then (if 1099511627775 < total l then 0 else total l) else 0
def addE (l : List Int) : Int := if ff l = 0 then (if 1099511627775 < total l then 11 else 0) else ff l
def subS (a b : Int) : Int := if ff [a, b] = 0 then (if a < b then 0 else a - b) else 0
def subE (a b : Int) : Int := if ff [a, b] = 0 then (if a < b then 10 else 0) else ff [a, b]
def mulS (a b : Int) : Int := if ff [a, b] = 0 then (if 1099511627775 < a * b then 0 else a * b) else 0
def mulE (a b : Int) : Int := if ff [a, b] = 0 then (if 1099511627775 < a * b then 11 else 0) else ff [a, b]
def downS (a b : Int) : Int := if ff [a, b] = 0 then (if b = 0 then 0 else a / b) else 0
def downE (a b : Int) : Int := if ff [a, b] = 0 then (if b = 0 then 12 else 0) else ff [a, b]
def upS (a b : Int) : Int := if ff [a, b] = 0 then (if b = 0 then 0 else if a / b * b < a then a / b + 1 else a / b) else 0

theorem addS_bad {l : List Int} (h : ff l ≠ 0) : addS l = 0 := if_neg h
theorem addE_bad {l : List Int} (h : ff l ≠ 0) : addE l = ff l := if_neg h
theorem addS_over {l : List Int} (h : ff l = 0) (h1 : 1099511627775 < total l) : addS l = 0 := by unfold addS; rw [if_pos h, if_pos h1]
theorem addE_over {l : List Int} (h : ff l = 0) (h1 : 1099511627775 < total l) : addE l = 11 := by unfold addE; rw [if_pos h, if_pos h1]
theorem addS_fine {l : List Int} (h : ff l = 0) (h1 : total l ≤ 1099511627775) : addS l = total l := by unfold addS; rw [if_pos h, if_neg (by omega)]
theorem addE_fine {l : List Int} (h : ff l = 0) (h1 : total l ≤ 1099511627775) : addE l = 0 := by unfold addE; rw [if_pos h, if_neg (by omega)]
theorem subS_bad {a b : Int} (h : ff [a, b] ≠ 0) : subS a b = 0 := if_neg h
theorem subE_bad {a b : Int} (h : ff [a, b] ≠ 0) : subE a b = ff [a, b] := if_neg h
theorem subS_low {a b : Int} (h : ff [a, b] = 0) (h1 : a < b) : subS a b = 0 := by unfold subS; rw [if_pos h, if_pos h1]
theorem subE_low {a b : Int} (h : ff [a, b] = 0) (h1 : a < b) : subE a b = 10 := by unfold subE; rw [if_pos h, if_pos h1]
theorem subS_fine {a b : Int} (h : ff [a, b] = 0) (h1 : b ≤ a) : subS a b = a - b := by unfold subS; rw [if_pos h, if_neg (by omega)]
theorem subE_fine {a b : Int} (h : ff [a, b] = 0) (h1 : b ≤ a) : subE a b = 0 := by unfold subE; rw [if_pos h, if_neg (by omega)]
theorem mulS_bad {a b : Int} (h : ff [a, b] ≠ 0) : mulS a b = 0 := if_neg h
theorem mulE_bad {a b : Int} (h : ff [a, b] ≠ 0) : mulE a b = ff [a, b] := if_neg h
theorem mulS_over {a b : Int} (h : ff [a, b] = 0) (h1 : 1099511627775 < a * b) : mulS a b = 0 := by unfold mulS; rw [if_pos h, if_pos h1]
theorem mulE_over {a b : Int} (h : ff [a, b] = 0) (h1 : 1099511627775 < a * b) : mulE a b = 11 := by unfold mulE; rw [if_pos h, if_pos h1]
theorem mulS_fine {a b : Int} (h : ff [a, b] = 0) (h1 : a * b ≤ 1099511627775) : mulS a b = a * b := by unfold mulS; rw [if_pos h, if_neg (by omega)]
theorem mulE_fine {a b : Int} (h : ff [a, b] = 0) (h1 : a * b ≤ 1099511627775) : mulE a b = 0 := by unfold mulE; rw [if_pos h, if_neg (by omega)]
theorem downS_bad {a b : Int} (h : ff [a, b] ≠ 0) : downS a b = 0 := if_neg h
theorem downE_bad {a b : Int} (h : ff [a, b] ≠ 0) : downE a b = ff [a, b] := if_neg h
theorem downS_zero {a b : Int} (h : ff [a, b] = 0) (h1 : b = 0) : downS a b = 0 := by unfold downS; rw [if_pos h, if_pos h1]
theorem downE_zero {a b : Int} (h : ff [a, b] = 0) (h1 : b = 0) : downE a b = 12 := by unfold downE; rw [if_pos h, if_pos h1]
theorem downS_fine {a b : Int} (h : ff [a, b] = 0) (h1 : b ≠ 0) : downS a b = a / b := by unfold downS; rw [if_pos h, if_neg h1]
theorem downE_fine {a b : Int} (h : ff [a, b] = 0) (h1 : b ≠ 0) : downE a b = 0 := by unfold downE; rw [if_pos h, if_neg h1]
theorem upS_bad {a b : Int} (h : ff [a, b] ≠ 0) : upS a b = 0 := if_neg h
theorem upS_zero {a b : Int} (h : ff [a, b] = 0) (h1 : b = 0) : upS a b = 0 := by unfold upS; rw [if_pos h, if_pos h1]
theorem upS_more {a b : Int} (h : ff [a, b] = 0) (h1 : b ≠ 0) (h2 : a / b * b < a) : upS a b = a / b + 1 := by unfold upS; rw [if_pos h, if_neg h1, if_pos h2]
theorem upS_even {a b : Int} (h : ff [a, b] = 0) (h1 : b ≠ 0) (h2 : ¬ a / b * b < a) : upS a b = a / b := by unfold upS; rw [if_pos h, if_neg h1, if_neg h2]
/-- The guard of the product: asked by a quotient. -/
theorem mul_guard {a b : Int} (hb : 0 < b) : 1099511627775 / b < a ↔ 1099511627775 < a * b := by
  constructor
  · intro h
    exact (Int.ediv_lt_iff_lt_mul hb).mp h
  · intro h
    exact (Int.ediv_lt_iff_lt_mul hb).mpr h
theorem div_bounds {a b : Int} (ha : 0 ≤ a) (ha1 : a ≤ 1099511627775) (hb : 0 < b) : 0 ≤ a / b ∧ a / b ≤ 1099511627775 ∧ 0 ≤ a / b * b ∧ a / b * b ≤ a ∧ a - a / b * b < b := by
  have h1 : 0 ≤ a / b := Int.ediv_nonneg ha (by omega)
  have h2 : a / b ≤ a := Int.ediv_le_self b ha
  have h3 : a / b * b ≤ a := Int.ediv_mul_le a (by omega)
  have h4 : 0 ≤ a / b * b := Int.mul_nonneg h1 (by omega)
  have h5 : a < (a / b + 1) * b := Int.lt_ediv_add_one_mul_self a hb
  have h6 : (a / b + 1) * b = a / b * b + b := by rw [Int.add_mul, Int.one_mul]
  omega
end Go.Proofs.YtfahabphncmbfaaGreatDoor
namespace Go.Proofs.YtfahabphncmbfaaGreatDoor
open Go Go.RowKit

structure Shp where
  t : Int
  l : Int
  m : Int
  d : Int
  p : Int
def Shp.val (s : Shp) : Value := .agg #[.int .i64 s.t, .int .i64 s.l, .int .i64 s.m, .int .i64 s.d, .int .i64 s.p]
def isP (n : Int) : Bool := (List.range 13).any fun k => decide (n = ((2 ^ k : Nat) : Int))
theorem isP_iff {n : Int} : isP n = true ↔ ∃ k : Nat, k < 13 ∧ n = ((2 ^ k : Nat) : Int) := by
  unfold isP
  rw [List.any_eq_true]
  constructor
  · rintro ⟨k, hk, e⟩
    exact ⟨k, List.mem_range.mp hk, of_decide_eq_true e⟩
  · rintro ⟨k, hk, e⟩
    exact ⟨k, List.mem_range.mpr hk, decide_eq_true e⟩
theorem isP_le {n : Int} (h : isP n = true) : 1 ≤ n ∧ n ≤ 4096 := by
  obtain ⟨k, hk, rfl⟩ := isP_iff.mp h
  have : k = 0 ∨ k = 1 ∨ k = 2 ∨ k = 3 ∨ k = 4 ∨ k = 5 ∨ k = 6 ∨ k = 7 ∨ k = 8 ∨ k = 9 ∨ k = 10 ∨ k = 11 ∨ k = 12 := by omega
  rcases this with rfl | rfl | rfl | rfl | rfl | rfl | rfl | rfl | rfl | rfl | rfl | rfl | rfl <;> decide
/-- Of a power of two: it may be a period just if it is at most 4096. -/
theorem isP_pow {k : Nat} : isP ((2 ^ k : Nat) : Int) = decide (((2 ^ k : Nat) : Int) ≤ 4096) := by
  by_cases h : k < 13
  · have h1 := isP_iff.mpr ⟨k, h, rfl⟩
    rw [h1, decide_eq_true (isP_le h1).2]
  · have h2 : (2 : Nat) ^ 13 ≤ 2 ^ k := Nat.pow_le_pow_right (by omega) (by omega)
    have h3 : ¬ (((2 ^ k : Nat) : Int) ≤ 4096) := by
      have : (2 : Nat) ^ 13 = 8192 := by decide
      omega
    rw [decide_eq_false h3]
    by_cases q : isP ((2 ^ k : Nat) : Int) = true
    · exact absurd (isP_le q).2 h3
    · simpa using q
theorem isP_no {n : Int} (h : ∀ k : Nat, k < 40 → n ≠ ((2 ^ k : Nat) : Int)) : isP n = false := by
  by_cases q : isP n = true
  · obtain ⟨k, hk, e⟩ := isP_iff.mp q
    exact absurd e (h k (by omega))
  · simpa using q
def Shp.Ok (s : Shp) : Prop := (1 ≤ s.t ∧ s.t ≤ 4096) ∧ (1 ≤ s.l ∧ s.l ≤ s.t) ∧ (1 ≤ s.m ∧ s.m ≤ s.l) ∧ isP s.p = true ∧ 1 ≤ s.d ∧ s.d ≤ s.p
instance (s : Shp) : Decidable s.Ok := by unfold Shp.Ok; infer_instance
theorem Shp.Ok.le {s : Shp} (h : s.Ok) : s.p ≤ 4096 := (isP_le h.2.2.2.1).2
def chkS (s : Shp) : Int := if s.Ok then 0 else 140
theorem chkS_ok {s : Shp} (h : s.Ok) : chkS s = 0 := if_pos h
theorem chkS_no {s : Shp} (h : ¬ s.Ok) : chkS s = 140 := if_neg h
/-- How many cores, by the quotient; and what it tells. -/
def manyS (s : Shp) : Int := upS (s.t - s.l) (s.d - s.l)
def coresH (s : Shp) : Int := if s.d ≤ s.l then 0 else if 8 < manyS s then 0 else manyS s
def faultH (s : Shp) : Int := if s.d ≤ s.l then 141 else if 8 < manyS s then 142 else 0
def coresS (s : Shp) : Int := if ¬ s.Ok then 0 else if s.d < s.t then coresH s else 1
def faultS (s : Shp) : Int := if ¬ s.Ok then 140 else if s.d < s.t then faultH s else 0
def boundS (s : Shp) (m : Int) : Int := if s.Ok ∧ 1 ≤ m ∧ m ≤ 8 then (s.t + (m - 1) * s.l) / m else 0
def heavyS (s : Shp) : Bool := decide (s.Ok ∧ s.d < s.t)
/-- The quotient is the least number of cores. -/
theorem many_spec {s : Shp} (h : s.Ok) (hd : s.d < s.t) (hl : s.l < s.d) :
    2 ≤ manyS s ∧ s.t - s.l ≤ manyS s * (s.d - s.l) ∧ (manyS s - 1) * (s.d - s.l) < s.t - s.l := by
  obtain ⟨⟨t0, t1⟩, ⟨l0, l1⟩, ⟨m0, m1⟩, -, d0, d1⟩ := h
  have hf : ff [s.t - s.l, s.d - s.l] = 0 := ff_pair_ok (by omega) (by omega) (by omega) (by omega)
  have hb0 : s.d - s.l ≠ 0 := by omega
  obtain ⟨a, ha⟩ : ∃ a, a = s.t - s.l := ⟨_, rfl⟩
  obtain ⟨b, hb⟩ : ∃ b, b = s.d - s.l := ⟨_, rfl⟩
  unfold manyS
  rw [← ha, ← hb] at hf ⊢
  rw [← hb] at hb0
  have hab : b < a := by omega
  have hbp : 0 < b := by omega
  obtain ⟨q0, q1, q2, q3, q4⟩ := div_bounds (a := a) (b := b) (by omega) (by omega) hbp
  by_cases hm : a / b * b < a
  · rw [upS_more hf hb0 hm]
    have e1 : (a / b + 1) * b = a / b * b + b := by rw [Int.add_mul, Int.one_mul]
    have q5 : 1 ≤ a / b := by
      by_cases hq : 1 ≤ a / b
      · exact hq
      · have : a / b = 0 := by omega
        rw [this] at q4
        omega
    refine ⟨by omega, by omega, ?_⟩
    have e2 : a / b + 1 - 1 = a / b := by omega
    rw [e2]
    exact hm
  · rw [upS_even hf hb0 hm]
    have e3 : a / b * b = a := by omega
    have q5 : 2 ≤ a / b := by
      by_cases hq : 2 ≤ a / b
      · exact hq
      · have : a / b = 0 ∨ a / b = 1 := by omega
        rcases this with h0 | h0 <;> rw [h0] at e3 <;> omega
    refine ⟨q5, by omega, ?_⟩
    rw [Int.sub_mul, Int.one_mul]
    omega
end Go.Proofs.YtfahabphncmbfaaGreatDoor
namespace Go.Proofs.YtfahabphncmbfaaGreatDoor
open Go.RowKit

theorem check_any (n : Int) (w : World) : Calls Tryz.prog 180 #[.int .i64 n] w fun e w' => e = .returned (.int .i64 (chk n)) ∧ w = w' := by
  by_cases h1 : n < 0
  · rw [chk_low h1]
    go_enter Tryz.func180, Tryz.ntmps180
    go_wp2
    go_ret
    exact ⟨rfl, rfl⟩
  · by_cases h2 : 1099511627775 < n
    · rw [chk_high h2]
      go_enter Tryz.func180, Tryz.ntmps180
      go_wp2
      go_ret
      exact ⟨rfl, rfl⟩
    · rw [chk_ok (by omega) (by omega)]
      go_enter Tryz.func180, Tryz.ntmps180
      go_wp2
      go_ret
      exact ⟨rfl, rfl⟩

end Go.Proofs.YtfahabphncmbfaaGreatDoor
namespace Go.Proofs.YtfahabphncmbfaaGreatDoor
open Go.RowKit

/-- The closure looks at a number, and leaves its error in what it captured. -/
theorem look_ok (g : Nat) (n m : Int) (w : World) (h : chk n = 0) (hc : w.cell? ⟨g, 0, none⟩ = some (.int .i64 m)) (hf : w.frozen? ⟨g, 0, none⟩ = false) :
    Calls Tryz.prog 211 #[.int .i64 n, .pointer (some ⟨g, 0, none⟩)] w fun e w' => e = .returned (.bool false) ∧ w.setCell ⟨g, 0, none⟩ (.int .i64 0) = w' := by
  have H := Lib.hid h
  clear h
  go_enter Tryz.func211, Tryz.ntmps211
  go_wp2_with (go_at_call 180; refine (check_any _ _).mono ?_; rw [H.out]; rintro e w' ⟨rfl, rfl⟩)
  go_ret
  exact ⟨rfl, rfl⟩
theorem look_bad (g : Nat) (n m c : Int) (w : World) (h : chk n = c) (h0 : c ≠ 0) (hc : w.cell? ⟨g, 0, none⟩ = some (.int .i64 m)) (hf : w.frozen? ⟨g, 0, none⟩ = false) :
    Calls Tryz.prog 211 #[.int .i64 n, .pointer (some ⟨g, 0, none⟩)] w fun e w' => e = .returned (.bool true) ∧ w.setCell ⟨g, 0, none⟩ (.int .i64 c) = w' := by
  have H := Lib.hid h
  clear h
  have hb : (c != 0) = true := by simpa using h0
  clear h0
  go_enter Tryz.func211, Tryz.ntmps211
  go_wp2_with (go_at_call 180; refine (check_any _ _).mono ?_; rw [H.out]; rintro e w' ⟨rfl, rfl⟩)
  go_ret
  exact ⟨rfl, rfl⟩

/-- What IndexFunc leaves at the closure: a place or -1, the first error in the captured cell, and nothing else turned below that cell's block. -/
def IdxPost (zs : List Int) (g : Nat) (w : World) (e : Ending) (w' : World) : Prop :=
  ∃ r : Int, e = .returned (.int .i64 r) ∧ (ff zs = 0 ∧ r = -1 ∨ ff zs ≠ 0 ∧ 0 ≤ r) ∧ w'.heap[g]? = some (.cells #[.int .i64 (ff zs)] 31 (0, 0)) ∧ Below g w w'
theorem nindex_any (g : Nat) (A : Option Addr) (cap : Nat) (zs : List Int) (w : World) (hl : zs.length ≤ 1099511627775) (hI : Ints w g A zs)
    (hg : w.heap[g]? = some (.cells #[.int .i64 0] 31 (0, 0))) :
    Calls Tryz.prog 89 #[.slice A zs.length cap, .func (.func 211) #[] #[.pointer (some ⟨g, 0, none⟩)]] w (IdxPost zs g w) := by
  obtain ⟨len, hlen⟩ : ∃ len, len = zs.length := ⟨_, rfl⟩
  rw [← hlen] at hl ⊢
  have HL := Lib.hid hlen
  clear hlen
  have HG := Lib.hid hg
  clear hg
  have HI := Lib.hid hI
  clear hI
  go_enter Tryz.func89, Tryz.ntmps89
  go_wp2
  go_loopw [8] (fun i wr => ∃ k : Nat, k ≤ len ∧ i = .int .i64 k ∧ Hid (ff (zs.take k) = 0) ∧ Hid (wr.heap[g]? = some (.cells #[.int .i64 0] 31 (0, 0))) ∧ Below g w wr) (fun i _ => len - (intOf i).toNat)
  case atStart => exact ⟨0, Nat.zero_le _, rfl, Lib.hid rfl, HG, Below.refl _ _⟩
  case round =>
    obtain ⟨k, hk, rfl, hff, hgr, hbel⟩ := hrel
    by_cases hlt : k < len
    · obtain ⟨b, off, z, rfl, hbg, hz, hcell⟩ := HI.out.at_ (by rw [← HL.out]; exact hlt)
      have hcell' : wr.cell? ⟨b, off + k, none⟩ = some (.int .i64 z) := (hbel.cell hbg).trans hcell
      have HZ := Lib.hid hz
      clear hz hcell
      have hcg : wr.cell? ⟨g, 0, none⟩ = some (.int .i64 0) := cell_of_one hgr.out
      have hfg : wr.frozen? ⟨g, 0, none⟩ = false := free_of_one hgr.out
      by_cases hc : chk z = 0
      · have HC := Lib.hid hc
        clear hc
        go_wp2_with (go_at_call 211; refine (look_ok g z 0 _ HC.out hcg hfg).mono ?_; rintro e w' ⟨rfl, rfl⟩)
        go_roundw
        case rel => exact ⟨k + 1, by omega, by go_num, Lib.hid (by rw [ff_step HZ.out hff.out, HC.out]), Lib.hid (one_setCell hgr.out), hbel.setCell (Nat.le_refl _) _⟩
        case measure => simp [intOf]; omega
      · have HC := Lib.hid hc
        clear hc
        go_wp2_with (go_at_call 211; refine (look_bad g z 0 _ _ rfl HC.out hcg hfg).mono ?_; rintro e w' ⟨rfl, rfl⟩)
        go_ret
        have e1 := ff_early HZ.out hff.out HC.out
        exact ⟨k, rfl, .inr ⟨by rw [e1]; exact HC.out, by omega⟩, by rw [e1]; exact one_setCell hgr.out, hbel.setCell (Nat.le_refl _) _⟩
    · have hkl : k = len := by omega
      subst hkl
      go_wp2
      go_ret
      have e1 : ff zs = 0 := by
        have := hff.out
        rwa [HL.out, List.take_length] at this
      exact ⟨-1, rfl, .inl ⟨e1, rfl⟩, by rw [e1]; exact hgr.out, hbel⟩

theorem contains_no (g : Nat) (A : Option Addr) (cap : Nat) (zs : List Int) (w : World) (hl : zs.length ≤ 1099511627775) (hI : Ints w g A zs)
    (hg : w.heap[g]? = some (.cells #[.int .i64 0] 31 (0, 0))) (h : ff zs = 0) :
    Calls Tryz.prog 43 #[.slice A zs.length cap, .func (.func 211) #[] #[.pointer (some ⟨g, 0, none⟩)]] w fun e w' => e = .returned (.bool false) ∧ w'.heap[g]? = some (.cells #[.int .i64 0] 31 (0, 0)) ∧ Below g w w' := by
  have C := fun W : World => fun h1 h2 => nindex_any g A cap zs W hl h1 h2
  have C1 := Lib.hid (C w hI hg)
  have H := Lib.hid h
  clear C hI hg h
  go_enter Tryz.func43, Tryz.ntmps43
  go_wp2_with fail
  refine C1.out.mono ?_
  rintro e w' ⟨r, rfl, hr, hh, hb⟩
  rcases hr with ⟨_, rfl⟩ | ⟨hn, _⟩
  · rw [H.out] at hh
    have HH := Lib.hid hh
    clear hh
    go_wp2
    go_ret
    exact ⟨rfl, HH.out, hb⟩
  · exact absurd H.out hn
theorem contains_yes (g : Nat) (A : Option Addr) (cap : Nat) (zs : List Int) (w : World) (hl : zs.length ≤ 1099511627775) (hI : Ints w g A zs)
    (hg : w.heap[g]? = some (.cells #[.int .i64 0] 31 (0, 0))) (h : ff zs ≠ 0) :
    Calls Tryz.prog 43 #[.slice A zs.length cap, .func (.func 211) #[] #[.pointer (some ⟨g, 0, none⟩)]] w fun e w' => e = .returned (.bool true) ∧ w'.heap[g]? = some (.cells #[.int .i64 (ff zs)] 31 (0, 0)) ∧ Below g w w' := by
  have C := fun W : World => fun h1 h2 => nindex_any g A cap zs W hl h1 h2
  have C1 := Lib.hid (C w hI hg)
  have H := Lib.hid h
  clear C hI hg h
  go_enter Tryz.func43, Tryz.ntmps43
  go_wp2_with fail
  refine C1.out.mono ?_
  rintro e w' ⟨r, rfl, hr, hh, hb⟩
  rcases hr with ⟨hn, _⟩ | ⟨_, hn⟩
  · exact absurd hn H.out
  · have HH := Lib.hid hh
    clear hh
    go_wp2
    go_ret
    exact ⟨rfl, HH.out, hb⟩

/-- num.firstFault: the first error of the numbers; nothing that was there has turned. -/
theorem first_any (A : Option Addr) (cap : Nat) (zs : List Int) (w : World) (hl : zs.length ≤ 1099511627775) (hI : Ints w w.heap.size A zs) :
    Calls Tryz.prog 166 #[.slice A zs.length cap] w fun e w' => e = .returned (.int .i64 (ff zs)) ∧ Below w.heap.size w w' := by
  have hmf : ∀ (fn : Fn) (first cap : Array Value) (w : World), (Instr.makeFunc fn first cap).run Tryz.prog w = .ok (.func fn first cap) w := fun _ _ _ _ => rfl
  have hg : (w.alloc (.cells #[.int .i64 0] 31)).heap[w.heap.size]? = some (.cells #[.int .i64 0] 31 (0, 0)) := heap_alloc_new w _
  have hI1 := hI.alloc (Nat.le_refl _) (.cells #[.int .i64 0] 31)
  by_cases h : ff zs = 0
  · have C := Lib.hid (contains_no w.heap.size A cap zs _ hl hI1 hg h)
    rw [h]
    clear h hI hg hI1
    go_enter Tryz.func166, Tryz.ntmps166
    go_wp2_with fail
    refine C.out.mono ?_
    rintro e w' ⟨rfl, hh, hb⟩
    clear hh
    go_wp2
    go_ret
    exact ⟨rfl, (below_alloc _).trans (hb.mono (by simp))⟩
  · have C := Lib.hid (contains_yes w.heap.size A cap zs _ hl hI1 hg h)
    clear h hI hg hI1
    go_enter Tryz.func166, Tryz.ntmps166
    go_wp2_with fail
    refine C.out.mono ?_
    rintro e w' ⟨rfl, hh, hb⟩
    have hc := cell_of_one hh
    clear hh
    go_wp2
    go_ret
    exact ⟨rfl, (below_alloc _).trans (hb.mono (by simp))⟩
end Go.Proofs.YtfahabphncmbfaaGreatDoor
namespace Go.Proofs.YtfahabphncmbfaaGreatDoor
open Go.RowKit

theorem first_pair (a b : Int) (w : World) : Calls Tryz.prog 166 #[.slice (some ⟨w.heap.size, 0, none⟩) 2 2] (w.alloc (.cells #[.int .i64 a, .int .i64 b] 3)) fun e w' =>
    e = .returned (.int .i64 (ff [a, b])) ∧ Below w.heap.size w w' :=
  (first_any (some ⟨w.heap.size, 0, none⟩) 2 [a, b] (w.alloc (.cells #[.int .i64 a, .int .i64 b] 3)) (by simp) ((Ints.new2 w _ a b).more (by simp))).mono
    fun _ _ ⟨he, hb⟩ => ⟨he, (below_alloc _).trans (hb.mono (by simp))⟩

theorem sub_any (a b : Int) (w : World) : Calls Tryz.prog 290 #[.int .i64 a, .int .i64 b] w fun e w' =>
    e = .returned (.tuple #[.int .i64 (subS a b), .int .i64 (subE a b)]) ∧ Below w.heap.size w w' := by
  by_cases h : ff [a, b] = 0
  · obtain ⟨⟨a0, a1⟩, b0, b1⟩ := ff_pair_zero h
    have C := Lib.hid (first_pair a b w)
    rw [h] at C
    by_cases h1 : a < b
    · rw [subS_low h h1, subE_low h h1]
      clear h
      go_enter Tryz.func290, Tryz.ntmps290
      go_wp2_with fail
      refine C.out.mono ?_
      rintro e w' ⟨rfl, hb⟩
      go_wp2
      go_ret2
      exact ⟨rfl, hb⟩
    · have h2 : b ≤ a := by omega
      rw [subS_fine h h2, subE_fine h h2]
      clear h h1
      go_enter Tryz.func290, Tryz.ntmps290
      go_wp2_with fail
      refine C.out.mono ?_
      rintro e w' ⟨rfl, hb⟩
      go_wp2
      go_ret2
      exact ⟨rfl, hb⟩
  · rw [subS_bad h, subE_bad h]
    have C := Lib.hid (first_pair a b w)
    obtain ⟨c, hc⟩ : ∃ c, c = ff [a, b] := ⟨_, rfl⟩
    rw [← hc] at C h ⊢
    have hb : (c != 0) = true := by simpa using h
    clear h hc
    go_enter Tryz.func290, Tryz.ntmps290
    go_wp2_with fail
    refine C.out.mono ?_
    rintro e w' ⟨rfl, hbel⟩
    go_wp2
    go_ret2
    exact ⟨rfl, hbel⟩

theorem mul_any (a b : Int) (w : World) : Calls Tryz.prog 121 #[.int .i64 a, .int .i64 b] w fun e w' =>
    e = .returned (.tuple #[.int .i64 (mulS a b), .int .i64 (mulE a b)]) ∧ Below w.heap.size w w' := by
  by_cases h : ff [a, b] = 0
  · obtain ⟨⟨a0, a1⟩, b0, b1⟩ := ff_pair_zero h
    have C := Lib.hid (first_pair a b w)
    rw [h] at C
    by_cases hz : b = 0
    · have hab : a * b = 0 := by rw [hz, Int.mul_zero]
      rw [mulS_fine h (by omega), mulE_fine h (by omega), hab]
      subst hz
      clear h hab
      go_enter Tryz.func121, Tryz.ntmps121
      go_wp2_with fail
      refine C.out.mono ?_
      rintro e w' ⟨rfl, hb⟩
      go_wp2
      go_ret2
      exact ⟨by simp, hb⟩
    · have hbp : 1 ≤ b := by omega
      have hbz : (b != 0) = true := by simpa using hz
      have hq := (div_bounds (a := 1099511627775) (b := b) (by omega) (by omega) (by omega))
      obtain ⟨q0, q1, _⟩ := hq
      by_cases h1 : 1099511627775 < a * b
      · rw [mulS_over h h1, mulE_over h h1]
        have hg := (mul_guard (a := a) (b := b) (by omega)).mpr h1
        clear h h1 hz
        go_enter Tryz.func121, Tryz.ntmps121
        go_wp2_with fail
        refine C.out.mono ?_
        rintro e w' ⟨rfl, hb⟩
        go_wp2
        go_ret2
        exact ⟨rfl, hb⟩
      · have h2 : a * b ≤ 1099511627775 := by omega
        have h3 : 0 ≤ a * b := Int.mul_nonneg a0 b0
        rw [mulS_fine h h2, mulE_fine h h2]
        have hg : ¬ 1099511627775 / b < a := fun hh => h1 ((mul_guard (a := a) (b := b) (by omega)).mp hh)
        clear h h1 hz
        go_enter Tryz.func121, Tryz.ntmps121
        go_wp2_with fail
        refine C.out.mono ?_
        rintro e w' ⟨rfl, hb⟩
        go_wp2
        go_ret2
        exact ⟨rfl, hb⟩
  · rw [mulS_bad h, mulE_bad h]
    have C := Lib.hid (first_pair a b w)
    obtain ⟨c, hc⟩ : ∃ c, c = ff [a, b] := ⟨_, rfl⟩
    rw [← hc] at C h ⊢
    have hb : (c != 0) = true := by simpa using h
    clear h hc
    go_enter Tryz.func121, Tryz.ntmps121
    go_wp2_with fail
    refine C.out.mono ?_
    rintro e w' ⟨rfl, hbel⟩
    go_wp2
    go_ret2
    exact ⟨rfl, hbel⟩

theorem ndown_any (a b : Int) (w : World) : Calls Tryz.prog 123 #[.int .i64 a, .int .i64 b] w fun e w' =>
    e = .returned (.tuple #[.int .i64 (downS a b), .int .i64 (downE a b)]) ∧ Below w.heap.size w w' := by
  by_cases h : ff [a, b] = 0
  · obtain ⟨⟨a0, a1⟩, b0, b1⟩ := ff_pair_zero h
    have C := Lib.hid (first_pair a b w)
    rw [h] at C
    by_cases hz : b = 0
    · rw [downS_zero h hz, downE_zero h hz]
      subst hz
      clear h
      go_enter Tryz.func123, Tryz.ntmps123
      go_wp2_with fail
      refine C.out.mono ?_
      rintro e w' ⟨rfl, hb⟩
      go_wp2
      go_ret2
      exact ⟨rfl, hb⟩
    · have hbp : 1 ≤ b := by omega
      have hbz : (b == 0) = false := by simpa using hz
      rw [downS_fine h hz, downE_fine h hz]
      obtain ⟨q0, q1, _⟩ := div_bounds a0 a1 (b := b) (by omega)
      clear h hz
      go_enter Tryz.func123, Tryz.ntmps123
      go_wp2_with fail
      refine C.out.mono ?_
      rintro e w' ⟨rfl, hb⟩
      go_wp2
      go_ret2
      exact ⟨rfl, hb⟩
  · rw [downS_bad h, downE_bad h]
    have C := Lib.hid (first_pair a b w)
    obtain ⟨c, hc⟩ : ∃ c, c = ff [a, b] := ⟨_, rfl⟩
    rw [← hc] at C h ⊢
    have hb : (c != 0) = true := by simpa using h
    clear h hc
    go_enter Tryz.func123, Tryz.ntmps123
    go_wp2_with fail
    refine C.out.mono ?_
    rintro e w' ⟨rfl, hbel⟩
    go_wp2
    go_ret2
    exact ⟨rfl, hbel⟩

theorem up_any (a b : Int) (w : World) : Calls Tryz.prog 291 #[.int .i64 a, .int .i64 b] w fun e w' =>
    e = .returned (.tuple #[.int .i64 (upS a b), .int .i64 (downE a b)]) ∧ Below w.heap.size w w' := by
  have C := Lib.hid (ndown_any a b w)
  by_cases h : ff [a, b] = 0
  · obtain ⟨⟨a0, a1⟩, b0, b1⟩ := ff_pair_zero h
    by_cases hz : b = 0
    · rw [upS_zero h hz, downE_zero h hz]
      rw [downS_zero h hz, downE_zero h hz] at C
      clear h hz
      go_enter Tryz.func291, Tryz.ntmps291
      go_wp2_with fail
      refine C.out.mono ?_
      rintro e w' ⟨rfl, hb⟩
      go_wp2
      go_ret2
      exact ⟨rfl, hb⟩
    · have hd := div_bounds a0 a1 (b := b) (by omega)
      rw [downS_fine h hz, downE_fine h hz] at C
      by_cases h1 : a / b * b < a
      · rw [upS_more h hz h1, downE_fine h hz]
        obtain ⟨q, hq⟩ : ∃ q, q = a / b := ⟨_, rfl⟩
        rw [← hq] at C hd h1 ⊢
        obtain ⟨q0, q1, q2, q3, q4⟩ := hd
        clear h hz hq
        go_enter Tryz.func291, Tryz.ntmps291
        go_wp2_with fail
        refine C.out.mono ?_
        rintro e w' ⟨rfl, hb⟩
        go_wp2
        go_ret2
        exact ⟨rfl, hb⟩
      · rw [upS_even h hz h1, downE_fine h hz]
        obtain ⟨q, hq⟩ : ∃ q, q = a / b := ⟨_, rfl⟩
        rw [← hq] at C hd h1 ⊢
        obtain ⟨q0, q1, q2, q3, q4⟩ := hd
        clear h hz hq
        go_enter Tryz.func291, Tryz.ntmps291
        go_wp2_with fail
        refine C.out.mono ?_
        rintro e w' ⟨rfl, hb⟩
        go_wp2
        go_ret2
        exact ⟨rfl, hb⟩
  · rw [upS_bad h, downE_bad h]
    rw [downS_bad h, downE_bad h] at C
    obtain ⟨c, hc⟩ : ∃ c, c = ff [a, b] := ⟨_, rfl⟩
    rw [← hc] at C h ⊢
    have hb : (c == 0) = false := by simpa using h
    clear h hc
    go_enter Tryz.func291, Tryz.ntmps291
    go_wp2_with fail
    refine C.out.mono ?_
    rintro e w' ⟨rfl, hbel⟩
    go_wp2
    go_ret2
    exact ⟨rfl, hbel⟩
end Go.Proofs.YtfahabphncmbfaaGreatDoor
