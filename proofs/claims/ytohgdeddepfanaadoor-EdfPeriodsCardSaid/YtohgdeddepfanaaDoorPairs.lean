/- Words for memory in the seat YtohgdeddepfanaaDoor: a slice of edges that came in. No statement is proved here. -/
import Derived.Test.YtohgdeddepfanaaDoorChecked
import Derived.Test.YtohgdeddepfanaaDoorMem
import Derived.WalkKit
import Derived.WalkSmall
import Derived.Handy
import Derived.KernelRfl
import Derived.Below
import Derived.BigQuiet
import Derived.Deep.QuietTactic
import Derived.Lib.Hide
set_option linter.unusedVariables false
namespace Go.Proofs.YtohgdeddepfanaaDoor
open Go.RowKit

/-- A slice of edges (its address A, its length that of es) reads as these edges, below block B. -/
def Pairs (w : World) (B : Nat) (A : Option Addr) (es : List (Int × Int)) : Prop :=
  0 < es.length → ∃ b off, A = some ⟨b, off, none⟩ ∧ b < B ∧ ∀ k e, es[k]? = some e → w.cell? ⟨b, off + k * 2, none⟩ = some (.int .i64 e.1) ∧ w.cell? ⟨b, off + k * 2 + 1, none⟩ = some (.int .i64 e.2)
theorem Pairs.at_ {w : World} {B : Nat} {A : Option Addr} {es : List (Int × Int)} {k : Nat} (h : Pairs w B A es) (hk : k < es.length) :
    ∃ b off e, A = some ⟨b, off, none⟩ ∧ b < B ∧ es[k]? = some e ∧ w.cell? ⟨b, off + k * 2, none⟩ = some (.int .i64 e.1) ∧ w.cell? ⟨b, off + k * 2 + 1, none⟩ = some (.int .i64 e.2) := by
  obtain ⟨b, off, e, hb, hc⟩ := h (by omega)
  have he : es[k]? = some es[k] := List.getElem?_eq_getElem hk
  exact ⟨b, off, es[k], e, hb, he, (hc k _ he).1, (hc k _ he).2⟩
theorem Pairs.keep {w w' : World} {B : Nat} {A : Option Addr} {es : List (Int × Int)} (h : Pairs w B A es) (hk : ∀ p : Addr, p.block < B → w'.cell? p = w.cell? p) : Pairs w' B A es := fun hn => by
  obtain ⟨b, off, e, hb, hc⟩ := h hn
  exact ⟨b, off, e, hb, fun k x hx => ⟨(hk _ hb).trans (hc k x hx).1, (hk _ hb).trans (hc k x hx).2⟩⟩
theorem Pairs.more {w : World} {B B' : Nat} {A : Option Addr} {es : List (Int × Int)} (h : Pairs w B A es) (hB : B ≤ B') : Pairs w B' A es := fun hn => by
  obtain ⟨b, off, e, hb, hc⟩ := h hn
  exact ⟨b, off, e, by omega, hc⟩
theorem Pairs.below {w w' : World} {B : Nat} {A : Option Addr} {es : List (Int × Int)} (h : Pairs w B A es) (hb : Below B w w') : Pairs w' B A es := h.keep fun _ hp => hb.cell hp
theorem Pairs.alloc {w : World} {B : Nat} {A : Option Addr} {es : List (Int × Int)} (h : Pairs w B A es) (hB : B ≤ w.heap.size) (o : Obj) : Pairs (w.alloc o) B A es :=
  h.keep fun p hp => World.cell?_alloc_lt w o p (by omega)
end Go.Proofs.YtohgdeddepfanaaDoor
