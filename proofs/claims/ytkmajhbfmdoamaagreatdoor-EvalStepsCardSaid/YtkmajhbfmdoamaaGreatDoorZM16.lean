/- The contract of trefoilref04.Same in the seat YtkmajhbfmdoamaaGreatDoor.
   The contract of trefoilref05.Same in the seat YtkmajhbfmdoamaaGreatDoor.
   The contract of trefoilref05.Same in the seat YtkmajhbfmdoamaaGreatDoor (printed by desc/mk_same.py).
   No statement is proved here. -/
import Derived.Test.YtkmajhbfmdoamaaGreatDoorZM1
import Derived.Laws.StructEq
import Derived.Test.YtkmajhbfmdoamaaGreatDoorZDescCheck
set_option linter.unusedSimpArgs false
set_option linter.unusedVariables false
namespace Go.Proofs.YtkmajhbfmdoamaaGreatDoor
open Go.RowKit

theorem below_alloc2 {w : World} (o o2 : Obj) : Below w.heap.size w ((w.alloc o).alloc o2) := (below_alloc o).alloc (by simp) o2
theorem edge_fields : (Tryz.prog.fieldsOf 48).toList.map (fun f => (f.name, f.type, f.offset)) = [("From", 3, 0), ("To", 3, 1)] := by kernel_rfl
theorem part_int (x y : Int) (W : World) : (part 3 #[.int .i64 x, .int .i64 y] 0).run Tryz.prog W = .ok (.int .i64 x) W ∧ (part 3 #[.int .i64 x, .int .i64 y] 1).run Tryz.prog W = .ok (.int .i64 y) W := ⟨by kernel_rfl, by kernel_rfl⟩
theorem edge_eq (x y u v : Int) (W : World) : (Op.equalIn 10000 48 (.agg #[.int .i64 x, .int .i64 y]) (.agg #[.int .i64 u, .int .i64 v])).run Tryz.prog W = .ok (x == u && y == v) W := by
  have hf := edge_fields
  rw [run_equalIn_agg (d := 9999) W 48 _ _ (by kernel_rfl) (by kernel_rfl)]
  generalize (Tryz.prog.fieldsOf 48).toList = fs at hf
  match fs, hf with
  | [], hf => simp at hf
  | [_], hf => simp at hf
  | _ :: _ :: _ :: _, hf => simp at hf
  | [f, g], hf =>
    simp only [List.map_cons, List.map_nil, List.cons.injEq, Prod.mk.injEq, and_true] at hf
    obtain ⟨⟨n1, t1, o1⟩, n2, t2, o2⟩ := hf
    have e1 := fun a b W => run_equalIn_int (P := Tryz.prog) W 9998 3 .i64 .i64 a b Tryz.underlying3
    have p1 := fun a b W => (part_int a b W).1
    have p2 := fun a b W => (part_int a b W).2
    simp only [Op.eqFields, n1, n2, t1, t2, o1, o2]
    by_cases h1 : x = u
    · subst h1
      by_cases h2 : y = v
      · simp [p1, p2, e1, h2]
      · simp [p1, p2, e1, h2]
    · simp [p1, p2, e1, h1]
theorem edge_eql_run (x y u v : Int) (W : World) : (binOp .eql 48 (.agg #[.int .i64 x, .int .i64 y]) (.agg #[.int .i64 u, .int .i64 v])).run Tryz.prog W = .ok (.bool (x == u && y == v)) W := by
  rw [run_eql_struct, edge_eq]
  rfl
end Go.Proofs.YtkmajhbfmdoamaaGreatDoor
set_option linter.unusedVariables false
namespace Go.Proofs.YtkmajhbfmdoamaaGreatDoor
open Go.RowKit

end Go.Proofs.YtkmajhbfmdoamaaGreatDoor
set_option linter.unusedVariables false
namespace Go.Proofs.YtkmajhbfmdoamaaGreatDoor
open Go.RowKit

end Go.Proofs.YtkmajhbfmdoamaaGreatDoor
