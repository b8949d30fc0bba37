/- Words for memory in the seat YtohgdeddepfanaaDoor: a block of cells that are all known, one of them written. No statement is proved here. -/
import Derived.Test.YtohgdeddepfanaaDoorChecked
import Derived.WalkKit
import Derived.WalkSmall
import Derived.Below
import Derived.Laws.Rows
import Derived.Laws.OwnMore
import Derived.Laws.MakeOwn
set_option linter.unusedVariables false
namespace Go.Proofs.YtohgdeddepfanaaDoor
open Go.RowKit

def RowV (g : Nat) (t : TypeId) (vs : List Value) (w : World) : Prop := w.heap[g]? = some (.cells vs.toArray t (0, 0))
theorem RowV.lt {g : Nat} {t : TypeId} {vs : List Value} {w : World} (h : RowV g t vs w) : g < w.heap.size := (Array.getElem?_eq_some_iff.1 h).1
theorem RowV.new (w : World) (t : TypeId) (vs : List Value) : RowV w.heap.size t vs (w.alloc (.cells vs.toArray t)) := heap_alloc_new w _
theorem RowV.cell {g : Nat} {t : TypeId} {vs : List Value} {w : World} (h : RowV g t vs w) {j : Nat} {v : Value} (hj : vs[j]? = some v) : w.cell? ⟨g, j, none⟩ = some v := by
  rw [cell_of_row _ _ _ _ _ _ h]
  simpa using hj
theorem RowV.frozen {g : Nat} {t : TypeId} {vs : List Value} {w : World} (h : RowV g t vs w) (j : Nat) : w.frozen? ⟨g, j, none⟩ = false := frozen_of_row _ _ _ _ _ h
theorem RowV.set {g : Nat} {t : TypeId} {vs : List Value} {w : World} (h : RowV g t vs w) (j : Nat) (v : Value) : RowV g t (vs.set j v) (w.setCell ⟨g, j, none⟩ v) := by
  have := heap_setCell_same w g j _ t v h
  unfold RowV
  rw [this]
  simp
theorem RowV.below {g : Nat} {t : TypeId} {vs : List Value} {w w' : World} {B : Nat} (h : RowV g t vs w) (hb : Below B w w') (hB : g < B) : RowV g t vs w' := by
  unfold RowV
  rw [hb.block g hB]
  exact h
theorem RowV.alloc {g : Nat} {t : TypeId} {vs : List Value} {w : World} (h : RowV g t vs w) (o : Obj) : RowV g t vs (w.alloc o) := by
  unfold RowV
  rw [Below.heap_alloc w o g h.lt]
  exact h
theorem bool_cell_info : (Tryd.prog.info? 4).map (fun i => (i.zero, i.size, i.bytes)) = some (some (.bool false), 1, 1) := by kernel_rfl
end Go.Proofs.YtohgdeddepfanaaDoor
