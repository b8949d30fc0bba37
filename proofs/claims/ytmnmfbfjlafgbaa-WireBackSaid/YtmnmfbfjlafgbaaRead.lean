/- The walk of wire.read in the seat Ytmnmfbfjlafgbaa. No statement is proved here. -/
import Derived.Test.YtmnmfbfjlafgbaaSpell
import Derived.Below
import Derived.Lib.EndianBits
import Derived.Laws.CopyRow
import Derived.Deep.WholeRow
set_option linter.unusedVariables false
namespace Go.Proofs.Ytmnmfbfjlafgbaa
open Go.RowKit Go.Lib

theorem slice_m (g m : Nat) (h : m = 1 ∨ m = 2 ∨ m = 4 ∨ m = 8) (W : World) : (Instr.sliceAt 45 (.pointer (some ⟨g, 0, none⟩)) none (some (.int .i64 m)) none).run Try.prog W = .ok (.slice (some ⟨g, 0, none⟩) m 8) W := by
  rcases h with rfl | rfl | rfl | rfl <;> kernel_rfl
set_option maxHeartbeats 2000000 in
theorem read_core (s : ByteArray) (m : Nat) (w : World) (x0 x1 x2 x3 x4 x5 x6 x7 n1 n2 n3 n4 n5 n6 n7 n8 : Int) (p0 : 0 ≤ x0) (q0 : x0 ≤ 255) (p1 : 0 ≤ x1) (q1 : x1 ≤ 255) (p2 : 0 ≤ x2) (q2 : x2 ≤ 255) (p3 : 0 ≤ x3) (q3 : x3 ≤ 255) (p4 : 0 ≤ x4) (q4 : x4 ≤ 255) (p5 : 0 ≤ x5) (q5 : x5 ≤ 255) (p6 : 0 ≤ x6) (q6 : x6 ≤ 255) (p7 : 0 ≤ x7) (q7 : x7 ≤ 255) (m8 : 0 ≤ n8) (r8 : n8 < 18446744073709551616)
    (k0 : bits BinOp.or IntKind.u64 0 x0 = n1) (k1 : bits BinOp.or IntKind.u64 n1 (x1 * 256) = n2) (k2 : bits BinOp.or IntKind.u64 n2 (x2 * 65536) = n3) (k3 : bits BinOp.or IntKind.u64 n3 (x3 * 16777216) = n4) (k4 : bits BinOp.or IntKind.u64 n4 (x4 * 4294967296) = n5) (k5 : bits BinOp.or IntKind.u64 n5 (x5 * 1099511627776) = n6) (k6 : bits BinOp.or IntKind.u64 n6 (x6 * 281474976710656) = n7) (k7 : bits BinOp.or IntKind.u64 n7 (x7 * 72057594037927936) = n8)
    (hcopy : ∀ ty, (Builtin.copy_ #[42, 9] ty #[.slice (some ⟨w.heap.size, 0, none⟩) m 8, .string s]).run Try.prog (w.alloc (.cells #[.int .u8 0, .int .u8 0, .int .u8 0, .int .u8 0, .int .u8 0, .int .u8 0, .int .u8 0, .int .u8 0] 45)) = .ok (goInt m) (w.alloc (.cells #[.int .u8 x0, .int .u8 x1, .int .u8 x2, .int .u8 x3, .int .u8 x4, .int .u8 x5, .int .u8 x6, .int .u8 x7] 45)))
    (hsl : ∀ W, (Instr.sliceAt 45 (.pointer (some ⟨w.heap.size, 0, none⟩)) none (some (.int .i64 m)) none).run Try.prog W = .ok (.slice (some ⟨w.heap.size, 0, none⟩) m 8) W)
    (hf : n8 ≤ 9223372036854775807) :
    Calls Try.prog 23 #[.string s, .int .i64 m] w fun e w' => e = .returned (.tuple #[.int .i64 n8, .int .i64 0]) ∧ Below w.heap.size w w' := by
  have i0 : ∀ W, (Instr.index 45 (.agg #[.int .u8 x0, .int .u8 x1, .int .u8 x2, .int .u8 x3, .int .u8 x4, .int .u8 x5, .int .u8 x6, .int .u8 x7]) (.int .i64 0)).run Try.prog W = .ok (.int .u8 x0) W := fun _ => by kernel_rfl
  have i1 : ∀ W, (Instr.index 45 (.agg #[.int .u8 x0, .int .u8 x1, .int .u8 x2, .int .u8 x3, .int .u8 x4, .int .u8 x5, .int .u8 x6, .int .u8 x7]) (.int .i64 1)).run Try.prog W = .ok (.int .u8 x1) W := fun _ => by kernel_rfl
  have i2 : ∀ W, (Instr.index 45 (.agg #[.int .u8 x0, .int .u8 x1, .int .u8 x2, .int .u8 x3, .int .u8 x4, .int .u8 x5, .int .u8 x6, .int .u8 x7]) (.int .i64 2)).run Try.prog W = .ok (.int .u8 x2) W := fun _ => by kernel_rfl
  have i3 : ∀ W, (Instr.index 45 (.agg #[.int .u8 x0, .int .u8 x1, .int .u8 x2, .int .u8 x3, .int .u8 x4, .int .u8 x5, .int .u8 x6, .int .u8 x7]) (.int .i64 3)).run Try.prog W = .ok (.int .u8 x3) W := fun _ => by kernel_rfl
  have i4 : ∀ W, (Instr.index 45 (.agg #[.int .u8 x0, .int .u8 x1, .int .u8 x2, .int .u8 x3, .int .u8 x4, .int .u8 x5, .int .u8 x6, .int .u8 x7]) (.int .i64 4)).run Try.prog W = .ok (.int .u8 x4) W := fun _ => by kernel_rfl
  have i5 : ∀ W, (Instr.index 45 (.agg #[.int .u8 x0, .int .u8 x1, .int .u8 x2, .int .u8 x3, .int .u8 x4, .int .u8 x5, .int .u8 x6, .int .u8 x7]) (.int .i64 5)).run Try.prog W = .ok (.int .u8 x5) W := fun _ => by kernel_rfl
  have i6 : ∀ W, (Instr.index 45 (.agg #[.int .u8 x0, .int .u8 x1, .int .u8 x2, .int .u8 x3, .int .u8 x4, .int .u8 x5, .int .u8 x6, .int .u8 x7]) (.int .i64 6)).run Try.prog W = .ok (.int .u8 x6) W := fun _ => by kernel_rfl
  have i7 : ∀ W, (Instr.index 45 (.agg #[.int .u8 x0, .int .u8 x1, .int .u8 x2, .int .u8 x3, .int .u8 x4, .int .u8 x5, .int .u8 x6, .int .u8 x7]) (.int .i64 7)).run Try.prog W = .ok (.int .u8 x7) W := fun _ => by kernel_rfl
  go_enter Try.func23, Try.ntmps23
  go_wp2
  refine wp_loop_rounds 9 ?_
  iterate 9 (rw [rounds_succ]; go_wp2)
  go_ret2
  exact ⟨rfl, (Below.refl _ _).alloc (Nat.le_refl _) _⟩
set_option maxHeartbeats 2000000 in
theorem read_over (s : ByteArray) (m : Nat) (w : World) (x0 x1 x2 x3 x4 x5 x6 x7 n1 n2 n3 n4 n5 n6 n7 n8 : Int) (p0 : 0 ≤ x0) (q0 : x0 ≤ 255) (p1 : 0 ≤ x1) (q1 : x1 ≤ 255) (p2 : 0 ≤ x2) (q2 : x2 ≤ 255) (p3 : 0 ≤ x3) (q3 : x3 ≤ 255) (p4 : 0 ≤ x4) (q4 : x4 ≤ 255) (p5 : 0 ≤ x5) (q5 : x5 ≤ 255) (p6 : 0 ≤ x6) (q6 : x6 ≤ 255) (p7 : 0 ≤ x7) (q7 : x7 ≤ 255) (m8 : 0 ≤ n8) (r8 : n8 < 18446744073709551616)
    (k0 : bits BinOp.or IntKind.u64 0 x0 = n1) (k1 : bits BinOp.or IntKind.u64 n1 (x1 * 256) = n2) (k2 : bits BinOp.or IntKind.u64 n2 (x2 * 65536) = n3) (k3 : bits BinOp.or IntKind.u64 n3 (x3 * 16777216) = n4) (k4 : bits BinOp.or IntKind.u64 n4 (x4 * 4294967296) = n5) (k5 : bits BinOp.or IntKind.u64 n5 (x5 * 1099511627776) = n6) (k6 : bits BinOp.or IntKind.u64 n6 (x6 * 281474976710656) = n7) (k7 : bits BinOp.or IntKind.u64 n7 (x7 * 72057594037927936) = n8)
    (hcopy : ∀ ty, (Builtin.copy_ #[42, 9] ty #[.slice (some ⟨w.heap.size, 0, none⟩) m 8, .string s]).run Try.prog (w.alloc (.cells #[.int .u8 0, .int .u8 0, .int .u8 0, .int .u8 0, .int .u8 0, .int .u8 0, .int .u8 0, .int .u8 0] 45)) = .ok (goInt m) (w.alloc (.cells #[.int .u8 x0, .int .u8 x1, .int .u8 x2, .int .u8 x3, .int .u8 x4, .int .u8 x5, .int .u8 x6, .int .u8 x7] 45)))
    (hsl : ∀ W, (Instr.sliceAt 45 (.pointer (some ⟨w.heap.size, 0, none⟩)) none (some (.int .i64 m)) none).run Try.prog W = .ok (.slice (some ⟨w.heap.size, 0, none⟩) m 8) W)
    (hf : 9223372036854775807 < n8) :
    Calls Try.prog 23 #[.string s, .int .i64 m] w fun e w' => e = .returned (.tuple #[.int .i64 0, .int .i64 20]) ∧ Below w.heap.size w w' := by
  have i0 : ∀ W, (Instr.index 45 (.agg #[.int .u8 x0, .int .u8 x1, .int .u8 x2, .int .u8 x3, .int .u8 x4, .int .u8 x5, .int .u8 x6, .int .u8 x7]) (.int .i64 0)).run Try.prog W = .ok (.int .u8 x0) W := fun _ => by kernel_rfl
  have i1 : ∀ W, (Instr.index 45 (.agg #[.int .u8 x0, .int .u8 x1, .int .u8 x2, .int .u8 x3, .int .u8 x4, .int .u8 x5, .int .u8 x6, .int .u8 x7]) (.int .i64 1)).run Try.prog W = .ok (.int .u8 x1) W := fun _ => by kernel_rfl
  have i2 : ∀ W, (Instr.index 45 (.agg #[.int .u8 x0, .int .u8 x1, .int .u8 x2, .int .u8 x3, .int .u8 x4, .int .u8 x5, .int .u8 x6, .int .u8 x7]) (.int .i64 2)).run Try.prog W = .ok (.int .u8 x2) W := fun _ => by kernel_rfl
  have i3 : ∀ W, (Instr.index 45 (.agg #[.int .u8 x0, .int .u8 x1, .int .u8 x2, .int .u8 x3, .int .u8 x4, .int .u8 x5, .int .u8 x6, .int .u8 x7]) (.int .i64 3)).run Try.prog W = .ok (.int .u8 x3) W := fun _ => by kernel_rfl
  have i4 : ∀ W, (Instr.index 45 (.agg #[.int .u8 x0, .int .u8 x1, .int .u8 x2, .int .u8 x3, .int .u8 x4, .int .u8 x5, .int .u8 x6, .int .u8 x7]) (.int .i64 4)).run Try.prog W = .ok (.int .u8 x4) W := fun _ => by kernel_rfl
  have i5 : ∀ W, (Instr.index 45 (.agg #[.int .u8 x0, .int .u8 x1, .int .u8 x2, .int .u8 x3, .int .u8 x4, .int .u8 x5, .int .u8 x6, .int .u8 x7]) (.int .i64 5)).run Try.prog W = .ok (.int .u8 x5) W := fun _ => by kernel_rfl
  have i6 : ∀ W, (Instr.index 45 (.agg #[.int .u8 x0, .int .u8 x1, .int .u8 x2, .int .u8 x3, .int .u8 x4, .int .u8 x5, .int .u8 x6, .int .u8 x7]) (.int .i64 6)).run Try.prog W = .ok (.int .u8 x6) W := fun _ => by kernel_rfl
  have i7 : ∀ W, (Instr.index 45 (.agg #[.int .u8 x0, .int .u8 x1, .int .u8 x2, .int .u8 x3, .int .u8 x4, .int .u8 x5, .int .u8 x6, .int .u8 x7]) (.int .i64 7)).run Try.prog W = .ok (.int .u8 x7) W := fun _ => by kernel_rfl
  go_enter Try.func23, Try.ntmps23
  go_wp2
  refine wp_loop_rounds 9 ?_
  iterate 9 (rw [rounds_succ]; go_wp2)
  go_ret2
  exact ⟨rfl, (Below.refl _ _).alloc (Nat.le_refl _) _⟩
/-- 'copy(places[:m], s)': the first m bytes go over. -/
theorem copy_in (s : ByteArray) (m : Nat) (w : World) (hm : m ≤ 8) (hs : m ≤ s.size) (ty : TypeId) :
    (Builtin.copy_ #[42, 9] ty #[.slice (some ⟨w.heap.size, 0, none⟩) m 8, .string s]).run Try.prog (w.alloc (.cells #[.int .u8 0, .int .u8 0, .int .u8 0, .int .u8 0, .int .u8 0, .int .u8 0, .int .u8 0, .int .u8 0] 45)) =
      .ok (goInt m) (w.alloc (.cells (((s.data.toList.take m ++ List.replicate (8 - m) 0).map fun x : UInt8 => Value.int .u8 (x.toNat : Int))).toArray 45)) := by
  have hmin : Nat.min s.size m = m := Nat.min_eq_right hs
  have hz : ∀ w, (Go.sizeOf 5).run Try.prog w = .ok 1 w := fun w => by kernel_rfl
  have hu : Try.prog.underlying 42 = some (.slice 5) := Try.underlying42
  have hl : ((s.data.toList.map fun x : UInt8 => Value.int .u8 (x.toNat : Int)).take m).length = m := by
    rw [List.length_take, List.length_map]
    have : s.data.toList.length = s.size := rfl
    omega
  have hst := run_storeCells_at Try.prog w.heap.size 0 45 ((s.data.toList.map fun x : UInt8 => Value.int .u8 (x.toNat : Int)).take m) 0 #[.int .u8 0, .int .u8 0, .int .u8 0, .int .u8 0, .int .u8 0, .int .u8 0, .int .u8 0, .int .u8 0] (w.alloc (.cells #[.int .u8 0, .int .u8 0, .int .u8 0, .int .u8 0, .int .u8 0, .int .u8 0, .int .u8 0, .int .u8 0] 45)) (heap_alloc_new w _) (by rw [hl]; simpa using hm) (by
    intro v hv
    obtain ⟨x, _, rfl⟩ := List.mem_map.1 (List.mem_of_mem_take hv)
    rfl)
  simp [Builtin.copy_, run_underlying hu, Builtin.lenOf, Builtin.firstCells, hz, hmin]
  rw [hst, Result.andThen_ok, World.setRow_alloc_new]
  congr 4
  simp only [Nat.zero_add, List.take_zero, List.nil_append, hl]
  congr 1
  show List.drop m (List.replicate 8 (Value.int .u8 0)) = _
  rw [List.drop_replicate]
end Go.Proofs.Ytmnmfbfjlafgbaa
