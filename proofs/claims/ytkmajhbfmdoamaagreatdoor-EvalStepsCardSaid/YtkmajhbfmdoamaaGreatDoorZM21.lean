/- Integers as values, and 'make([]int, n)', in the seat YtkmajhbfmdoamaaGreatDoor.
   dag.Long in the seat YtkmajhbfmdoamaaGreatDoor: plain mathematics, and the contract of its closure.
   dag.Long in the seat YtkmajhbfmdoamaaGreatDoor: its contract.
   No statement is proved here. -/
import Derived.Test.YtkmajhbfmdoamaaGreatDoorZM15
import Derived.Laws.MakeOwn
import Derived.Test.YtkmajhbfmdoamaaGreatDoorZM20
import Derived.Deep.RegionWith
set_option linter.unusedSimpArgs false
set_option linter.unusedVariables false
namespace Go.Proofs.YtkmajhbfmdoamaaGreatDoor
open Go.RowKit

def intsV (l : List Int) : List Value := l.map (Value.int .i64)
theorem intsV_at {l : List Int} {j : Nat} (h : j < l.length) : (intsV l)[j]? = some (.int .i64 (l.getD j 0)) := by
  unfold intsV
  rw [List.getElem?_map, List.getElem?_eq_getElem h, List.getD_eq_getElem?_getD, List.getElem?_eq_getElem h]
  rfl
theorem intsV_set (l : List Int) (j : Nat) (z : Int) : intsV (l.set j z) = (intsV l).set j (.int .i64 z) := by unfold intsV; rw [List.map_set]
theorem make_ints (n : Nat) (hn : n ≤ 1000) (W : World) : (Instr.makeSlice 28 (.int .i64 n) (.int .i64 n)).run Tryz.prog W = .ok (.slice (some ⟨W.heap.size, 0, none⟩) n n) (W.alloc (.cells (List.replicate n (Value.int .i64 0)).toArray 3)) := by
  obtain ⟨i0, hi, hz0, hz1, hz2⟩ := info_parts int_cell_info
  have h := run_make (P := Tryz.prog) W 28 3 i0 (.int .i64 0) Tryz.underlying28 hi hz0 .i64 .i64 n n (by omega) (by omega) (by rw [hz2]; omega) (by omega)
  rw [hz1] at h
  have e : madeCells (Value.int .i64 0).cells (((n : Int)).toNat * 1) = (List.replicate n (Value.int .i64 0)).toArray := by
    apply Array.toList_inj.mp
    rw [show (Value.int .i64 0).cells = #[Value.int .i64 0] from rfl, toList_madeCells_one]
    simp
  rw [e] at h
  exact h
end Go.Proofs.YtkmajhbfmdoamaaGreatDoor
set_option linter.unusedVariables false
namespace Go.Proofs.YtkmajhbfmdoamaaGreatDoor
open Go.RowKit

section
variable {b0 gb vb ub g n c : Nat} {A A' : Option Addr} {W : List Int} {E : List (Int × Int)} {ol : List Int} {ps : List Nat} {us : List Int}
end
end Go.Proofs.YtkmajhbfmdoamaaGreatDoor
set_option linter.unusedVariables false
namespace Go.Proofs.YtkmajhbfmdoamaaGreatDoor
open Go.RowKit

section
variable {A : Option Addr} {n c : Nat} {F : Option Addr} {m d : Nat} {W : List Int} {E : List (Int × Int)}
end
end Go.Proofs.YtkmajhbfmdoamaaGreatDoor
