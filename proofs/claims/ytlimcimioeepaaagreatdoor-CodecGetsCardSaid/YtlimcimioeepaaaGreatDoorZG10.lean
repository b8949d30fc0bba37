/- The contracts of wire.isWidth and wire.spell in the seat YtlimcimioeepaaaGreatDoor.
   The walk of wire.read in the seat YtlimcimioeepaaaGreatDoor.
   The contracts of wire.read, reaches and Get in the seat YtlimcimioeepaaaGreatDoor.
   The contract of codec's reader's method number in the seat YtlimcimioeepaaaGreatDoor.
   'append(l, e)' onto lists of the call's own (structs of three integers, edges, barriers), the element in a block laid just ahead; lists of the call's own while a reader reads on, in the seat YtlimcimioeepaaaGreatDoor.
   codec.row at parts, edges, futures, barriers and integers, whatever reads one of them, in the seat YtlimcimioeepaaaGreatDoor (printed by codec/mk_row.py).
   No statement is proved here. -/
import Derived.Test.YtlimcimioeepaaaGreatDoorChecked
import Derived.WalkKit
import Derived.Handy
import Derived.KernelRfl
import Derived.Test.YtlimcimioeepaaaGreatDoorZG6
import Derived.Below
import Derived.Lib.EndianBits
import Derived.Laws.CopyRow
import Derived.Deep.WholeRow
import Derived.Lib.IndexBytes
import Derived.Test.YtlimcimioeepaaaGreatDoorZG7
import Derived.Test.YtlimcimioeepaaaGreatDoorZG9
import Derived.Test.YtlimcimioeepaaaGreatDoorZDescOwn
import Derived.Test.YtlimcimioeepaaaGreatDoorZG4
import Derived.Shelf.Abstract
namespace Go.Proofs.YtlimcimioeepaaaGreatDoor
open Go.RowKit

theorem isWidth_any (k : Int) (w : World) : Calls Tryz.prog 85 #[.int .i64 k] w fun e w' => e = .returned (.bool (wide k)) ∧ w = w' := by
  by_cases h1 : k = 1
  · subst h1
    go_enter Tryz.func85, Tryz.ntmps85
    go_wp2
    go_ret
    exact ⟨rfl, rfl⟩
  by_cases h2 : k = 2
  · subst h2
    go_enter Tryz.func85, Tryz.ntmps85
    go_wp2
    go_ret
    exact ⟨rfl, rfl⟩
  by_cases h3 : k = 4
  · subst h3
    go_enter Tryz.func85, Tryz.ntmps85
    go_wp2
    go_ret
    exact ⟨rfl, rfl⟩
  by_cases h4 : k = 8
  · subst h4
    go_enter Tryz.func85, Tryz.ntmps85
    go_wp2
    go_ret
    exact ⟨rfl, rfl⟩
  have e1 : (k == 1) = false := by simpa using h1
  have e2 : (k == 2) = false := by simpa using h2
  have e3 : (k == 4) = false := by simpa using h3
  have e4 : (k == 8) = false := by simpa using h4
  have hw : wide k = false := by simp [wide, e1, e2, e3, e4]
  rw [hw]
  clear h1 h2 h3 h4 hw
  go_enter Tryz.func85, Tryz.ntmps85
  go_wp2
  go_ret
  exact ⟨rfl, rfl⟩
theorem isWidth_yes {k : Int} (h : wide k = true) (w : World) : Calls Tryz.prog 85 #[.int .i64 k] w fun e w' => e = .returned (.bool true) ∧ w = w' := h ▸ isWidth_any k w
theorem isWidth_no {k : Int} (h : wide k = false) (w : World) : Calls Tryz.prog 85 #[.int .i64 k] w fun e w' => e = .returned (.bool false) ∧ w = w' := h ▸ isWidth_any k w

set_option maxHeartbeats 4000000 in
theorem spell_fine (n k P : Int) (w : World) (hk : Pow k P) (h0 : 0 ≤ n) (hm : n ≤ 9223372036854775807) (hc : n < P) :
    Calls Tryz.prog 87 #[.int .i64 n, .int .i64 k] w fun e w' => e = .returned (.tuple #[.agg #[.int .u8 (n % 256), .int .u8 (n / 256 % 256), .int .u8 (n / 65536 % 256), .int .u8 (n / 16777216 % 256), .int .u8 (n / 4294967296 % 256), .int .u8 (n / 1099511627776 % 256), .int .u8 (n / 281474976710656 % 256), .int .u8 (n / 72057594037927936 % 256)], .int .i64 0]) ∧ Below w.heap.size w w' := by
  rcases hk with ⟨rfl, rfl⟩ | ⟨rfl, rfl⟩ | ⟨rfl, rfl⟩ | ⟨rfl, rfl⟩
  · have hg : (n / 256 != 0) = false := by simp; omega
    clear hc hm
    go_enter Tryz.func87, Tryz.ntmps87
    go_wp2
    refine wp_loop_rounds 9 ?_
    iterate 9 (rw [rounds_succ]; go_wp2)
    exact bodyPost_ret (by simp [results, Tryz.results87, go_sem]) rfl ⟨rfl, ((Below.refl _ _).alloc (Nat.le_refl _) _).alloc (by simp) _⟩
  · have hg : (n / 65536 != 0) = false := by simp; omega
    clear hc hm
    go_enter Tryz.func87, Tryz.ntmps87
    go_wp2
    refine wp_loop_rounds 9 ?_
    iterate 9 (rw [rounds_succ]; go_wp2)
    exact bodyPost_ret (by simp [results, Tryz.results87, go_sem]) rfl ⟨rfl, ((Below.refl _ _).alloc (Nat.le_refl _) _).alloc (by simp) _⟩
  · have hg : (n / 4294967296 != 0) = false := by simp; omega
    clear hc hm
    go_enter Tryz.func87, Tryz.ntmps87
    go_wp2
    refine wp_loop_rounds 9 ?_
    iterate 9 (rw [rounds_succ]; go_wp2)
    exact bodyPost_ret (by simp [results, Tryz.results87, go_sem]) rfl ⟨rfl, ((Below.refl _ _).alloc (Nat.le_refl _) _).alloc (by simp) _⟩
  · have hg : (n / 18446744073709551616 != 0) = false := by simp; omega
    clear hc hm
    go_enter Tryz.func87, Tryz.ntmps87
    go_wp2
    refine wp_loop_rounds 9 ?_
    iterate 9 (rw [rounds_succ]; go_wp2)
    exact bodyPost_ret (by simp [results, Tryz.results87, go_sem]) rfl ⟨rfl, ((Below.refl _ _).alloc (Nat.le_refl _) _).alloc (by simp) _⟩
/-- What is below 0, or needs more bytes. -/
theorem spell_bad (n k P : Int) (w : World) (hk : Pow k P) (hm : n ≤ 9223372036854775807) (hc : ¬ (0 ≤ n ∧ n < P)) :
    Calls Tryz.prog 87 #[.int .i64 n, .int .i64 k] w fun e w' => e = .returned (.tuple #[.agg #[.int .u8 0, .int .u8 0, .int .u8 0, .int .u8 0, .int .u8 0, .int .u8 0, .int .u8 0, .int .u8 0], .int .i64 20]) ∧ Below w.heap.size w w' := by
  by_cases h0 : n < 0
  · have hd : decide (n < 0) = true := by simpa using h0
    clear hc
    rcases hk with ⟨rfl, rfl⟩ | ⟨rfl, rfl⟩ | ⟨rfl, rfl⟩ | ⟨rfl, rfl⟩
    all_goals
      go_enter Tryz.func87, Tryz.ntmps87
      go_wp2
      exact bodyPost_ret (by simp [results, Tryz.results87, go_sem]) rfl ⟨rfl, ((Below.refl _ _).alloc (Nat.le_refl _) _).alloc (by simp) _⟩
  · have h1 : 0 ≤ n := by omega
    have hd : decide (n < 0) = false := by simpa using h0
    rcases hk with ⟨rfl, rfl⟩ | ⟨rfl, rfl⟩ | ⟨rfl, rfl⟩ | ⟨rfl, rfl⟩
    · have hg : (n / 256 != 0) = true := by simp; omega
      clear hc h0
      go_enter Tryz.func87, Tryz.ntmps87
      go_wp2
      exact bodyPost_ret (by simp [results, Tryz.results87, go_sem]) rfl ⟨rfl, ((Below.refl _ _).alloc (Nat.le_refl _) _).alloc (by simp) _⟩
    · have hg : (n / 65536 != 0) = true := by simp; omega
      clear hc h0
      go_enter Tryz.func87, Tryz.ntmps87
      go_wp2
      exact bodyPost_ret (by simp [results, Tryz.results87, go_sem]) rfl ⟨rfl, ((Below.refl _ _).alloc (Nat.le_refl _) _).alloc (by simp) _⟩
    · have hg : (n / 4294967296 != 0) = true := by simp; omega
      clear hc h0
      go_enter Tryz.func87, Tryz.ntmps87
      go_wp2
      exact bodyPost_ret (by simp [results, Tryz.results87, go_sem]) rfl ⟨rfl, ((Below.refl _ _).alloc (Nat.le_refl _) _).alloc (by simp) _⟩
    · exfalso; omega
end Go.Proofs.YtlimcimioeepaaaGreatDoor
set_option linter.unusedVariables false
namespace Go.Proofs.YtlimcimioeepaaaGreatDoor
open Go.RowKit Go.Lib

theorem slice_m (g m : Nat) (h : m = 1 ∨ m = 2 ∨ m = 4 ∨ m = 8) (W : World) : (Instr.sliceAt 138 (.pointer (some ⟨g, 0, none⟩)) none (some (.int .i64 m)) none).run Tryz.prog W = .ok (.slice (some ⟨g, 0, none⟩) m 8) W := by
  rcases h with rfl | rfl | rfl | rfl <;> kernel_rfl
set_option maxHeartbeats 2000000 in
theorem read_core (s : ByteArray) (m : Nat) (w : World) (x0 x1 x2 x3 x4 x5 x6 x7 n1 n2 n3 n4 n5 n6 n7 n8 : Int) (p0 : 0 ≤ x0) (q0 : x0 ≤ 255) (p1 : 0 ≤ x1) (q1 : x1 ≤ 255) (p2 : 0 ≤ x2) (q2 : x2 ≤ 255) (p3 : 0 ≤ x3) (q3 : x3 ≤ 255) (p4 : 0 ≤ x4) (q4 : x4 ≤ 255) (p5 : 0 ≤ x5) (q5 : x5 ≤ 255) (p6 : 0 ≤ x6) (q6 : x6 ≤ 255) (p7 : 0 ≤ x7) (q7 : x7 ≤ 255) (m8 : 0 ≤ n8) (r8 : n8 < 18446744073709551616)
    (k0 : bits BinOp.or IntKind.u64 0 x0 = n1) (k1 : bits BinOp.or IntKind.u64 n1 (x1 * 256) = n2) (k2 : bits BinOp.or IntKind.u64 n2 (x2 * 65536) = n3) (k3 : bits BinOp.or IntKind.u64 n3 (x3 * 16777216) = n4) (k4 : bits BinOp.or IntKind.u64 n4 (x4 * 4294967296) = n5) (k5 : bits BinOp.or IntKind.u64 n5 (x5 * 1099511627776) = n6) (k6 : bits BinOp.or IntKind.u64 n6 (x6 * 281474976710656) = n7) (k7 : bits BinOp.or IntKind.u64 n7 (x7 * 72057594037927936) = n8)
    (hcopy : ∀ ty, (Builtin.copy_ #[45, 9] ty #[.slice (some ⟨w.heap.size, 0, none⟩) m 8, .string s]).run Tryz.prog (w.alloc (.cells #[.int .u8 0, .int .u8 0, .int .u8 0, .int .u8 0, .int .u8 0, .int .u8 0, .int .u8 0, .int .u8 0] 138)) = .ok (goInt m) (w.alloc (.cells #[.int .u8 x0, .int .u8 x1, .int .u8 x2, .int .u8 x3, .int .u8 x4, .int .u8 x5, .int .u8 x6, .int .u8 x7] 138)))
    (hsl : ∀ W, (Instr.sliceAt 138 (.pointer (some ⟨w.heap.size, 0, none⟩)) none (some (.int .i64 m)) none).run Tryz.prog W = .ok (.slice (some ⟨w.heap.size, 0, none⟩) m 8) W)
    (hf : n8 ≤ 9223372036854775807) :
    Calls Tryz.prog 128 #[.string s, .int .i64 m] w fun e w' => e = .returned (.tuple #[.int .i64 n8, .int .i64 0]) ∧ Below w.heap.size w w' := by
  have i0 : ∀ W, (Instr.index 138 (.agg #[.int .u8 x0, .int .u8 x1, .int .u8 x2, .int .u8 x3, .int .u8 x4, .int .u8 x5, .int .u8 x6, .int .u8 x7]) (.int .i64 0)).run Tryz.prog W = .ok (.int .u8 x0) W := fun _ => by kernel_rfl
  have i1 : ∀ W, (Instr.index 138 (.agg #[.int .u8 x0, .int .u8 x1, .int .u8 x2, .int .u8 x3, .int .u8 x4, .int .u8 x5, .int .u8 x6, .int .u8 x7]) (.int .i64 1)).run Tryz.prog W = .ok (.int .u8 x1) W := fun _ => by kernel_rfl
  have i2 : ∀ W, (Instr.index 138 (.agg #[.int .u8 x0, .int .u8 x1, .int .u8 x2, .int .u8 x3, .int .u8 x4, .int .u8 x5, .int .u8 x6, .int .u8 x7]) (.int .i64 2)).run Tryz.prog W = .ok (.int .u8 x2) W := fun _ => by kernel_rfl
  have i3 : ∀ W, (Instr.index 138 (.agg #[.int .u8 x0, .int .u8 x1, .int .u8 x2, .int .u8 x3, .int .u8 x4, .int .u8 x5, .int .u8 x6, .int .u8 x7]) (.int .i64 3)).run Tryz.prog W = .ok (.int .u8 x3) W := fun _ => by kernel_rfl
  have i4 : ∀ W, (Instr.index 138 (.agg #[.int .u8 x0, .int .u8 x1, .int .u8 x2, .int .u8 x3, .int .u8 x4, .int .u8 x5, .int .u8 x6, .int .u8 x7]) (.int .i64 4)).run Tryz.prog W = .ok (.int .u8 x4) W := fun _ => by kernel_rfl
  have i5 : ∀ W, (Instr.index 138 (.agg #[.int .u8 x0, .int .u8 x1, .int .u8 x2, .int .u8 x3, .int .u8 x4, .int .u8 x5, .int .u8 x6, .int .u8 x7]) (.int .i64 5)).run Tryz.prog W = .ok (.int .u8 x5) W := fun _ => by kernel_rfl
  have i6 : ∀ W, (Instr.index 138 (.agg #[.int .u8 x0, .int .u8 x1, .int .u8 x2, .int .u8 x3, .int .u8 x4, .int .u8 x5, .int .u8 x6, .int .u8 x7]) (.int .i64 6)).run Tryz.prog W = .ok (.int .u8 x6) W := fun _ => by kernel_rfl
  have i7 : ∀ W, (Instr.index 138 (.agg #[.int .u8 x0, .int .u8 x1, .int .u8 x2, .int .u8 x3, .int .u8 x4, .int .u8 x5, .int .u8 x6, .int .u8 x7]) (.int .i64 7)).run Tryz.prog W = .ok (.int .u8 x7) W := fun _ => by kernel_rfl
  go_enter Tryz.func128, Tryz.ntmps128
  go_wp2
  refine wp_loop_rounds 9 ?_
  iterate 9 (rw [rounds_succ]; go_wp2)
  go_ret2
  exact ⟨rfl, (Below.refl _ _).alloc (Nat.le_refl _) _⟩
set_option maxHeartbeats 2000000 in
theorem read_over (s : ByteArray) (m : Nat) (w : World) (x0 x1 x2 x3 x4 x5 x6 x7 n1 n2 n3 n4 n5 n6 n7 n8 : Int) (p0 : 0 ≤ x0) (q0 : x0 ≤ 255) (p1 : 0 ≤ x1) (q1 : x1 ≤ 255) (p2 : 0 ≤ x2) (q2 : x2 ≤ 255) (p3 : 0 ≤ x3) (q3 : x3 ≤ 255) (p4 : 0 ≤ x4) (q4 : x4 ≤ 255) (p5 : 0 ≤ x5) (q5 : x5 ≤ 255) (p6 : 0 ≤ x6) (q6 : x6 ≤ 255) (p7 : 0 ≤ x7) (q7 : x7 ≤ 255) (m8 : 0 ≤ n8) (r8 : n8 < 18446744073709551616)
    (k0 : bits BinOp.or IntKind.u64 0 x0 = n1) (k1 : bits BinOp.or IntKind.u64 n1 (x1 * 256) = n2) (k2 : bits BinOp.or IntKind.u64 n2 (x2 * 65536) = n3) (k3 : bits BinOp.or IntKind.u64 n3 (x3 * 16777216) = n4) (k4 : bits BinOp.or IntKind.u64 n4 (x4 * 4294967296) = n5) (k5 : bits BinOp.or IntKind.u64 n5 (x5 * 1099511627776) = n6) (k6 : bits BinOp.or IntKind.u64 n6 (x6 * 281474976710656) = n7) (k7 : bits BinOp.or IntKind.u64 n7 (x7 * 72057594037927936) = n8)
    (hcopy : ∀ ty, (Builtin.copy_ #[45, 9] ty #[.slice (some ⟨w.heap.size, 0, none⟩) m 8, .string s]).run Tryz.prog (w.alloc (.cells #[.int .u8 0, .int .u8 0, .int .u8 0, .int .u8 0, .int .u8 0, .int .u8 0, .int .u8 0, .int .u8 0] 138)) = .ok (goInt m) (w.alloc (.cells #[.int .u8 x0, .int .u8 x1, .int .u8 x2, .int .u8 x3, .int .u8 x4, .int .u8 x5, .int .u8 x6, .int .u8 x7] 138)))
    (hsl : ∀ W, (Instr.sliceAt 138 (.pointer (some ⟨w.heap.size, 0, none⟩)) none (some (.int .i64 m)) none).run Tryz.prog W = .ok (.slice (some ⟨w.heap.size, 0, none⟩) m 8) W)
    (hf : 9223372036854775807 < n8) :
    Calls Tryz.prog 128 #[.string s, .int .i64 m] w fun e w' => e = .returned (.tuple #[.int .i64 0, .int .i64 20]) ∧ Below w.heap.size w w' := by
  have i0 : ∀ W, (Instr.index 138 (.agg #[.int .u8 x0, .int .u8 x1, .int .u8 x2, .int .u8 x3, .int .u8 x4, .int .u8 x5, .int .u8 x6, .int .u8 x7]) (.int .i64 0)).run Tryz.prog W = .ok (.int .u8 x0) W := fun _ => by kernel_rfl
  have i1 : ∀ W, (Instr.index 138 (.agg #[.int .u8 x0, .int .u8 x1, .int .u8 x2, .int .u8 x3, .int .u8 x4, .int .u8 x5, .int .u8 x6, .int .u8 x7]) (.int .i64 1)).run Tryz.prog W = .ok (.int .u8 x1) W := fun _ => by kernel_rfl
  have i2 : ∀ W, (Instr.index 138 (.agg #[.int .u8 x0, .int .u8 x1, .int .u8 x2, .int .u8 x3, .int .u8 x4, .int .u8 x5, .int .u8 x6, .int .u8 x7]) (.int .i64 2)).run Tryz.prog W = .ok (.int .u8 x2) W := fun _ => by kernel_rfl
  have i3 : ∀ W, (Instr.index 138 (.agg #[.int .u8 x0, .int .u8 x1, .int .u8 x2, .int .u8 x3, .int .u8 x4, .int .u8 x5, .int .u8 x6, .int .u8 x7]) (.int .i64 3)).run Tryz.prog W = .ok (.int .u8 x3) W := fun _ => by kernel_rfl
  have i4 : ∀ W, (Instr.index 138 (.agg #[.int .u8 x0, .int .u8 x1, .int .u8 x2, .int .u8 x3, .int .u8 x4, .int .u8 x5, .int .u8 x6, .int .u8 x7]) (.int .i64 4)).run Tryz.prog W = .ok (.int .u8 x4) W := fun _ => by kernel_rfl
  have i5 : ∀ W, (Instr.index 138 (.agg #[.int .u8 x0, .int .u8 x1, .int .u8 x2, .int .u8 x3, .int .u8 x4, .int .u8 x5, .int .u8 x6, .int .u8 x7]) (.int .i64 5)).run Tryz.prog W = .ok (.int .u8 x5) W := fun _ => by kernel_rfl
  have i6 : ∀ W, (Instr.index 138 (.agg #[.int .u8 x0, .int .u8 x1, .int .u8 x2, .int .u8 x3, .int .u8 x4, .int .u8 x5, .int .u8 x6, .int .u8 x7]) (.int .i64 6)).run Tryz.prog W = .ok (.int .u8 x6) W := fun _ => by kernel_rfl
  have i7 : ∀ W, (Instr.index 138 (.agg #[.int .u8 x0, .int .u8 x1, .int .u8 x2, .int .u8 x3, .int .u8 x4, .int .u8 x5, .int .u8 x6, .int .u8 x7]) (.int .i64 7)).run Tryz.prog W = .ok (.int .u8 x7) W := fun _ => by kernel_rfl
  go_enter Tryz.func128, Tryz.ntmps128
  go_wp2
  refine wp_loop_rounds 9 ?_
  iterate 9 (rw [rounds_succ]; go_wp2)
  go_ret2
  exact ⟨rfl, (Below.refl _ _).alloc (Nat.le_refl _) _⟩
set_option maxRecDepth 100000 in
/-- 'copy(places[:m], s)': the first m bytes go over. -/
theorem copy_in (s : ByteArray) (m : Nat) (w : World) (hm : m ≤ 8) (hs : m ≤ s.size) (ty : TypeId) :
    (Builtin.copy_ #[45, 9] ty #[.slice (some ⟨w.heap.size, 0, none⟩) m 8, .string s]).run Tryz.prog (w.alloc (.cells #[.int .u8 0, .int .u8 0, .int .u8 0, .int .u8 0, .int .u8 0, .int .u8 0, .int .u8 0, .int .u8 0] 138)) =
      .ok (goInt m) (w.alloc (.cells (((s.data.toList.take m ++ List.replicate (8 - m) 0).map fun x : UInt8 => Value.int .u8 (x.toNat : Int))).toArray 138)) := by
  have hmin : Nat.min s.size m = m := Nat.min_eq_right hs
  have hz : ∀ w, (Go.sizeOf 5).run Tryz.prog w = .ok 1 w := fun w => by kernel_rfl
  have hu : Tryz.prog.underlying 45 = some (.slice 5) := Tryz.underlying45
  have hl : ((s.data.toList.map fun x : UInt8 => Value.int .u8 (x.toNat : Int)).take m).length = m := by
    rw [List.length_take, List.length_map]
    have : s.data.toList.length = s.size := rfl
    omega
  have hst := run_storeCells_at Tryz.prog w.heap.size 0 138 ((s.data.toList.map fun x : UInt8 => Value.int .u8 (x.toNat : Int)).take m) 0 #[.int .u8 0, .int .u8 0, .int .u8 0, .int .u8 0, .int .u8 0, .int .u8 0, .int .u8 0, .int .u8 0] (w.alloc (.cells #[.int .u8 0, .int .u8 0, .int .u8 0, .int .u8 0, .int .u8 0, .int .u8 0, .int .u8 0, .int .u8 0] 138)) (heap_alloc_new w _) (by rw [hl]; simpa using hm) (by
    intro v hv
    obtain ⟨x, _, rfl⟩ := List.mem_map.1 (List.mem_of_mem_take hv)
    rfl)
  simp [Builtin.copy_, run_underlying hu, Builtin.lenOf, Builtin.firstCells, hz, hmin]
  rw [hst, Result.andThen_ok, World.setRow_alloc_new]
  congr 4
  simp only [Nat.zero_add, List.take_zero, List.nil_append, hl]
  congr 1
  show List.drop m (List.replicate 8 (Value.int .u8 0)) = _
  rw [List.drop_replicate]
end Go.Proofs.YtlimcimioeepaaaGreatDoor
set_option linter.unusedVariables false
namespace Go.Proofs.YtlimcimioeepaaaGreatDoor
open Go.RowKit Go.Lib

theorem or_zero (x : Int) (h0 : 0 ≤ x) (h1 : x < 256) : bits .or .u64 0 x = x := by
  obtain ⟨a, rfl⟩ := Int.eq_ofNat_of_zero_le h0
  have := bits_or_u64_nat 0 a (by omega) (by omega)
  rw [Nat.zero_or] at this
  exact this
theorem list8 {α : Type} : ∀ (l : List α), l.length = 8 → ∃ c0 c1 c2 c3 c4 c5 c6 c7, l = [c0, c1, c2, c3, c4, c5, c6, c7]
  | [c0, c1, c2, c3, c4, c5, c6, c7], _ => ⟨c0, c1, c2, c3, c4, c5, c6, c7, rfl⟩
/-- The eight bytes that read looks at, and what they spell. -/
theorem eight (s : ByteArray) (m : Nat) (w : World) (h8 : m ≤ 8) (hs : m ≤ s.size) : ∃ c0 c1 c2 c3 c4 c5 c6 c7 : UInt8, ((Lib.leNat (s.data.toList.take m) : Nat) : Int) = ((((((((c0.toNat : Int) + (c1.toNat : Int) * 256) + (c2.toNat : Int) * 65536) + (c3.toNat : Int) * 16777216) + (c4.toNat : Int) * 4294967296) + (c5.toNat : Int) * 1099511627776) + (c6.toNat : Int) * 281474976710656) + (c7.toNat : Int) * 72057594037927936) ∧
    ∀ ty, (Builtin.copy_ #[45, 9] ty #[.slice (some ⟨w.heap.size, 0, none⟩) m 8, .string s]).run Tryz.prog (w.alloc (.cells #[.int .u8 0, .int .u8 0, .int .u8 0, .int .u8 0, .int .u8 0, .int .u8 0, .int .u8 0, .int .u8 0] 138)) =
      .ok (goInt m) (w.alloc (.cells #[.int .u8 (c0.toNat : Int), .int .u8 (c1.toNat : Int), .int .u8 (c2.toNat : Int), .int .u8 (c3.toNat : Int), .int .u8 (c4.toNat : Int), .int .u8 (c5.toNat : Int), .int .u8 (c6.toNat : Int), .int .u8 (c7.toNat : Int)] 138)) := by
  have hsz : s.data.toList.length = s.size := rfl
  obtain ⟨c0, c1, c2, c3, c4, c5, c6, c7, hz⟩ := list8 (s.data.toList.take m ++ List.replicate (8 - m) 0) (by rw [List.length_append, List.length_take, List.length_replicate]; omega)
  refine ⟨c0, c1, c2, c3, c4, c5, c6, c7, ?_, fun ty => ?_⟩
  · have h := leNat_zeros (s.data.toList.take m) (8 - m)
    rw [hz] at h
    rw [← h]
    simp only [Lib.leNat]
    omega
  · have h := copy_in s m w h8 hs ty
    rw [hz] at h
    exact h
theorem read_fine (s : ByteArray) (m : Nat) (w : World) (hm : m = 1 ∨ m = 2 ∨ m = 4 ∨ m = 8) (hs : m ≤ s.size) (hN : Lib.leNat (s.data.toList.take m) ≤ 9223372036854775807) :
    Calls Tryz.prog 128 #[.string s, .int .i64 m] w fun e w' => e = .returned (.tuple #[.int .i64 (Lib.leNat (s.data.toList.take m) : Nat), .int .i64 0]) ∧ Below w.heap.size w w' := by
  obtain ⟨c0, c1, c2, c3, c4, c5, c6, c7, hv, hc⟩ := eight s m w (by omega) hs
  rw [hv]
  have b0 := c0.toNat_lt
  have b1 := c1.toNat_lt
  have b2 := c2.toNat_lt
  have b3 := c3.toNat_lt
  have b4 := c4.toNat_lt
  have b5 := c5.toNat_lt
  have b6 := c6.toNat_lt
  have b7 := c7.toNat_lt
  exact read_core s m w (c0.toNat : Int) (c1.toNat : Int) (c2.toNat : Int) (c3.toNat : Int) (c4.toNat : Int) (c5.toNat : Int) (c6.toNat : Int) (c7.toNat : Int) (c0.toNat : Int) ((c0.toNat : Int) + (c1.toNat : Int) * 256) (((c0.toNat : Int) + (c1.toNat : Int) * 256) + (c2.toNat : Int) * 65536) ((((c0.toNat : Int) + (c1.toNat : Int) * 256) + (c2.toNat : Int) * 65536) + (c3.toNat : Int) * 16777216) (((((c0.toNat : Int) + (c1.toNat : Int) * 256) + (c2.toNat : Int) * 65536) + (c3.toNat : Int) * 16777216) + (c4.toNat : Int) * 4294967296) ((((((c0.toNat : Int) + (c1.toNat : Int) * 256) + (c2.toNat : Int) * 65536) + (c3.toNat : Int) * 16777216) + (c4.toNat : Int) * 4294967296) + (c5.toNat : Int) * 1099511627776) (((((((c0.toNat : Int) + (c1.toNat : Int) * 256) + (c2.toNat : Int) * 65536) + (c3.toNat : Int) * 16777216) + (c4.toNat : Int) * 4294967296) + (c5.toNat : Int) * 1099511627776) + (c6.toNat : Int) * 281474976710656) ((((((((c0.toNat : Int) + (c1.toNat : Int) * 256) + (c2.toNat : Int) * 65536) + (c3.toNat : Int) * 16777216) + (c4.toNat : Int) * 4294967296) + (c5.toNat : Int) * 1099511627776) + (c6.toNat : Int) * 281474976710656) + (c7.toNat : Int) * 72057594037927936)
      (by omega) (by omega) (by omega) (by omega) (by omega) (by omega) (by omega) (by omega) (by omega) (by omega) (by omega) (by omega) (by omega) (by omega) (by omega) (by omega) (by omega) (by omega)
      (or_zero _ (by omega) (by have := c0.toNat_lt; omega)) (u64_or8 _ _ (by omega) (by omega) (by omega) (by omega) (by omega)) (u64_or16 _ _ (by omega) (by omega) (by omega) (by omega) (by omega)) (u64_or24 _ _ (by omega) (by omega) (by omega) (by omega) (by omega)) (u64_or32 _ _ (by omega) (by omega) (by omega) (by omega) (by omega)) (u64_or40 _ _ (by omega) (by omega) (by omega) (by omega) (by omega)) (u64_or48 _ _ (by omega) (by omega) (by omega) (by omega) (by omega)) (u64_or56 _ _ (by omega) (by omega) (by omega) (by omega) (by omega))
      hc (slice_m _ m hm) (by omega)
theorem read_great (s : ByteArray) (m : Nat) (w : World) (hm : m = 1 ∨ m = 2 ∨ m = 4 ∨ m = 8) (hs : m ≤ s.size) (hN : 9223372036854775807 < Lib.leNat (s.data.toList.take m)) :
    Calls Tryz.prog 128 #[.string s, .int .i64 m] w fun e w' => e = .returned (.tuple #[.int .i64 0, .int .i64 20]) ∧ Below w.heap.size w w' := by
  obtain ⟨c0, c1, c2, c3, c4, c5, c6, c7, hv, hc⟩ := eight s m w (by omega) hs
  have b0 := c0.toNat_lt
  have b1 := c1.toNat_lt
  have b2 := c2.toNat_lt
  have b3 := c3.toNat_lt
  have b4 := c4.toNat_lt
  have b5 := c5.toNat_lt
  have b6 := c6.toNat_lt
  have b7 := c7.toNat_lt
  exact read_over s m w (c0.toNat : Int) (c1.toNat : Int) (c2.toNat : Int) (c3.toNat : Int) (c4.toNat : Int) (c5.toNat : Int) (c6.toNat : Int) (c7.toNat : Int) (c0.toNat : Int) ((c0.toNat : Int) + (c1.toNat : Int) * 256) (((c0.toNat : Int) + (c1.toNat : Int) * 256) + (c2.toNat : Int) * 65536) ((((c0.toNat : Int) + (c1.toNat : Int) * 256) + (c2.toNat : Int) * 65536) + (c3.toNat : Int) * 16777216) (((((c0.toNat : Int) + (c1.toNat : Int) * 256) + (c2.toNat : Int) * 65536) + (c3.toNat : Int) * 16777216) + (c4.toNat : Int) * 4294967296) ((((((c0.toNat : Int) + (c1.toNat : Int) * 256) + (c2.toNat : Int) * 65536) + (c3.toNat : Int) * 16777216) + (c4.toNat : Int) * 4294967296) + (c5.toNat : Int) * 1099511627776) (((((((c0.toNat : Int) + (c1.toNat : Int) * 256) + (c2.toNat : Int) * 65536) + (c3.toNat : Int) * 16777216) + (c4.toNat : Int) * 4294967296) + (c5.toNat : Int) * 1099511627776) + (c6.toNat : Int) * 281474976710656) ((((((((c0.toNat : Int) + (c1.toNat : Int) * 256) + (c2.toNat : Int) * 65536) + (c3.toNat : Int) * 16777216) + (c4.toNat : Int) * 4294967296) + (c5.toNat : Int) * 1099511627776) + (c6.toNat : Int) * 281474976710656) + (c7.toNat : Int) * 72057594037927936)
      (by omega) (by omega) (by omega) (by omega) (by omega) (by omega) (by omega) (by omega) (by omega) (by omega) (by omega) (by omega) (by omega) (by omega) (by omega) (by omega) (by omega) (by omega)
      (or_zero _ (by omega) (by have := c0.toNat_lt; omega)) (u64_or8 _ _ (by omega) (by omega) (by omega) (by omega) (by omega)) (u64_or16 _ _ (by omega) (by omega) (by omega) (by omega) (by omega)) (u64_or24 _ _ (by omega) (by omega) (by omega) (by omega) (by omega)) (u64_or32 _ _ (by omega) (by omega) (by omega) (by omega) (by omega)) (u64_or40 _ _ (by omega) (by omega) (by omega) (by omega) (by omega)) (u64_or48 _ _ (by omega) (by omega) (by omega) (by omega) (by omega)) (u64_or56 _ _ (by omega) (by omega) (by omega) (by omega) (by omega))
      hc (slice_m _ m hm) (by omega)

/-- Are there so many times so many bytes from a place on? -/
def reachB (len : Nat) (i many k : Int) : Bool := decide (0 ≤ i ∧ i ≤ len ∧ 0 ≤ many ∧ many ≤ (len - i) / k)
theorem reaches_any (s : ByteArray) (i many k : Int) (w : World) (hs : s.size ≤ 9223372036854775807) (hi : i ≤ 9223372036854775807) (hk : 1 ≤ k) (hk8 : k ≤ 8) :
    Calls Tryz.prog 127 #[.string s, .int .i64 i, .int .i64 many, .int .i64 k] w fun e w' => e = .returned (.bool (reachB s.size i many k)) ∧ w = w' := by
  by_cases h0 : i < 0
  · have d0 : decide (i < 0) = true := by simpa using h0
    have hr : reachB s.size i many k = false := by unfold reachB; rw [decide_eq_false_iff_not]; omega
    rw [hr]
    clear hr
    go_enter Tryz.func127, Tryz.ntmps127
    go_wp2
    go_ret
    exact ⟨rfl, rfl⟩
  · have d0 : decide (i < 0) = false := by simpa using h0
    by_cases h1 : (s.size : Int) < i
    · have d1 : decide ((s.size : Int) < i) = true := by simpa using h1
      have hr : reachB s.size i many k = false := by unfold reachB; rw [decide_eq_false_iff_not]; omega
      rw [hr]
      clear hr
      go_enter Tryz.func127, Tryz.ntmps127
      go_wp2
      go_ret
      exact ⟨rfl, rfl⟩
    · have d1 : decide ((s.size : Int) < i) = false := by simpa using h1
      by_cases h2 : many < 0
      · have d2 : decide (many < 0) = true := by simpa using h2
        have hr : reachB s.size i many k = false := by unfold reachB; rw [decide_eq_false_iff_not]; omega
        rw [hr]
        clear hr
        go_enter Tryz.func127, Tryz.ntmps127
        go_wp2
        go_ret
        exact ⟨rfl, rfl⟩
      · have d2 : decide (many < 0) = false := by simpa using h2
        have hr : reachB s.size i many k = decide (many ≤ ((s.size : Int) - i) / k) := by unfold reachB; rw [decide_eq_decide]; omega
        rw [hr]
        have h3 : 0 ≤ i := by omega
        have h4 : i ≤ (s.size : Int) := by omega
        clear hr h0 h1 h2
        go_enter Tryz.func127, Tryz.ntmps127
        go_wp2
        go_ret
        exact ⟨rfl, rfl⟩

theorem reach_one {l : List UInt8} {i k : Int} (hk : 1 ≤ k) : reachB l.length i 1 k = there l i k := by
  unfold reachB there
  rw [decide_eq_decide]
  constructor
  · rintro ⟨a, b, _, d⟩
    have := (Int.le_ediv_iff_mul_le (c := k) (by omega)).mp d
    omega
  · rintro ⟨a, b⟩
    refine ⟨a, by omega, by omega, ?_⟩
    exact (Int.le_ediv_iff_mul_le (c := k) (by omega)).mpr (by omega)
theorem get_any (s : ByteArray) (i k : Int) (w : World) (hs : s.size ≤ 9223372036854775807) (hi : i ≤ 9223372036854775807) :
    Calls Tryz.prog 106 #[.string s, .int .i64 i, .int .i64 k] w fun e w' => e = .returned (.tuple #[.int .i64 (getS s.data.toList i k), .int .i64 (getE s.data.toList i k)]) ∧ Below w.heap.size w w' := by
  cases hw : wide k with
  | false =>
    have C := Lib.hid (fun W => isWidth_no hw W)
    rw [getS_wide hw, getE_wide hw]
    clear hw
    go_enter Tryz.func106, Tryz.ntmps106
    go_wp2_with fail
    refine (C.out _).mono ?_
    rintro e w' ⟨rfl, rfl⟩
    go_wp2
    go_ret2
    exact ⟨rfl, Below.refl _ _⟩
  | true =>
    have C := Lib.hid (fun W => isWidth_yes hw W)
    obtain ⟨P, hP⟩ := pow_of hw
    have hk : 1 ≤ k ∧ k ≤ 8 := by obtain ⟨m, rfl, h1, h8, _⟩ := hP.nat; omega
    have hr := reach_one (l := s.data.toList) (i := i) hk.1
    cases ht : there s.data.toList i k with
    | false =>
      have R := Lib.hid (fun W => (hr.trans ht) ▸ reaches_any s i 1 k W hs hi hk.1 hk.2)
      rw [getS_short ht, getE_short hw ht]
      clear hw ht hr hP
      go_enter Tryz.func106, Tryz.ntmps106
      go_wp2_with fail
      refine (C.out _).mono ?_
      rintro e w' ⟨rfl, rfl⟩
      go_wp2_with fail
      refine (R.out _).mono ?_
      rintro e w' ⟨rfl, rfl⟩
      go_wp2
      go_ret2
      exact ⟨rfl, Below.refl _ _⟩
    | true =>
      have R := Lib.hid (fun W => (hr.trans ht) ▸ reaches_any s i 1 k W hs hi hk.1 hk.2)
      have h' : 0 ≤ i ∧ i + k ≤ s.size := by simpa [there] using ht
      obtain ⟨a, rfl⟩ : ∃ a : Nat, i = a := ⟨i.toNat, by omega⟩
      obtain ⟨m, rfl⟩ : ∃ m : Nat, k = m := ⟨k.toNat, by omega⟩
      have hm : m = 1 ∨ m = 2 ∨ m = 4 ∨ m = 8 := by
        rcases hP with ⟨h, _⟩ | ⟨h, _⟩ | ⟨h, _⟩ | ⟨h, _⟩ <;> omega
      have hd : (s.extract a s.size).data.toList = s.data.toList.drop a := extract_to_end s a
      have hz : m ≤ (s.extract a s.size).size := by
        have : (s.extract a s.size).data.toList.length = (s.extract a s.size).size := rfl
        have h2 : s.data.toList.length = s.size := rfl
        rw [hd, List.length_drop, h2] at this
        omega
      have hN : Lib.leNat ((s.extract a s.size).data.toList.take m) = getN s.data.toList a m := by rw [hd]; rfl
      by_cases hg : getN s.data.toList a m ≤ 9223372036854775807
      · have D := Lib.hid (fun W => read_fine (s.extract a s.size) m W hm hz (by rw [hN]; exact hg))
        rw [hN] at D
        rw [getS_fine hw ht hg, getE_fine hw ht hg]
        clear hw ht hr hP hd hz hN hg
        go_enter Tryz.func106, Tryz.ntmps106
        go_wp2_with fail
        refine (C.out _).mono ?_
        rintro e w' ⟨rfl, rfl⟩
        go_wp2_with fail
        refine (R.out _).mono ?_
        rintro e w' ⟨rfl, rfl⟩
        go_wp2_with fail
        refine (D.out _).mono ?_
        rintro e w1 ⟨rfl, hb⟩
        go_wp2
        go_ret2
        exact ⟨rfl, hb⟩
      · have D := Lib.hid (fun W => read_great (s.extract a s.size) m W hm hz (by rw [hN]; omega))
        rw [getS_great hw ht (by omega), getE_great hw ht (by omega)]
        clear hw ht hr hP hd hz hN hg
        go_enter Tryz.func106, Tryz.ntmps106
        go_wp2_with fail
        refine (C.out _).mono ?_
        rintro e w' ⟨rfl, rfl⟩
        go_wp2_with fail
        refine (R.out _).mono ?_
        rintro e w' ⟨rfl, rfl⟩
        go_wp2_with fail
        refine (D.out _).mono ?_
        rintro e w1 ⟨rfl, hb⟩
        go_wp2
        go_ret2
        exact ⟨rfl, hb⟩
end Go.Proofs.YtlimcimioeepaaaGreatDoor
set_option linter.unusedVariables false
namespace Go.Proofs.YtlimcimioeepaaaGreatDoor
open Go.RowKit

/-- What a reader's fault is: none, or that something is missing from a place on. -/
def errV (p : Nat) : Bool → Value
  | true => faultV p 64
  | false => .nilIface
/-- A reader in its box. -/
structure Rd (g : Nat) (b : List UInt8) (s : Nat × Bool) (w : World) : Prop where
  box : w.heap[g]? = some (.cells #[.string (txt b), .int .i64 (s.1 : Int), errV s.1 s.2] 105 (0, 0))
theorem Rd.lt {g : Nat} {b : List UInt8} {s : Nat × Bool} {w : World} (h : Rd g b s w) : g < w.heap.size := (Array.getElem?_eq_some_iff.mp h.box).1
theorem Rd.c0 {g : Nat} {b : List UInt8} {s : Nat × Bool} {w : World} (h : Rd g b s w) : w.cell? ⟨g, 0, none⟩ = some (.string (txt b)) := by simp [World.cell?, h.box]
theorem Rd.c1 {g : Nat} {b : List UInt8} {s : Nat × Bool} {w : World} (h : Rd g b s w) : w.cell? ⟨g, 1, none⟩ = some (.int .i64 (s.1 : Int)) := by simp [World.cell?, h.box]
theorem Rd.c2 {g : Nat} {b : List UInt8} {s : Nat × Bool} {w : World} (h : Rd g b s w) : w.cell? ⟨g, 2, none⟩ = some (errV s.1 s.2) := by simp [World.cell?, h.box]
theorem Rd.f {g : Nat} {b : List UInt8} {s : Nat × Bool} {w : World} (h : Rd g b s w) (j : Nat) : w.frozen? ⟨g, j, none⟩ = false := by simp [World.frozen?, h.box]
theorem Rd.below {g : Nat} {b : List UInt8} {s : Nat × Bool} {w w' : World} (h : Rd g b s w) {B : Nat} (hb : Below B w w') (hB : g < B) : Rd g b s w' := ⟨by rw [hb.block g hB]; exact h.box⟩
theorem Rd.kept {g : Nat} {b : List UInt8} {s : Nat × Bool} {w w' : World} (h : Rd g b s w) {row : Option Nat} (hg : w.grownBy w' row) (hr : some g ≠ row) : Rd g b s w' := ⟨by rw [hg.block g h.lt hr]; exact h.box⟩
theorem grown_trans {a b c : World} {row : Option Nat} (h : a.grownBy b row) (k : b.grownBy c row) : a.grownBy c row :=
  ⟨k.os.trans h.os, k.tape.trans h.tape, k.output.trans h.output, Nat.le_trans h.size k.size, fun q hq hr => (k.block q (Nat.lt_of_lt_of_le hq h.size) hr).trans (h.block q hq hr)⟩
theorem Below.grows {w w' : World} (h : Below w.heap.size w w') (row : Option Nat) : w.grownBy w' row := ⟨h.os, h.tape, h.output, h.size, fun k hk _ => h.block k hk⟩
theorem grown_setCell (w : World) (g j : Nat) (v : Value) : w.grownBy (w.setCell ⟨g, j, none⟩ v) (some g) :=
  ⟨rfl, rfl, rfl, by simp [World.setCell], fun k _ hk => Below.heap_setCell _ _ _ _ (fun e => hk (by simp [e]))⟩

theorem Wid.wide {k : Nat} {P : Int} (h : Wid k P) : wide (k : Int) = true := by rcases h with ⟨rfl, _⟩ | ⟨rfl, _⟩ | ⟨rfl, _⟩ <;> rfl
theorem Wid.pow256 {k : Nat} {P : Int} (h : Wid k P) : ((256 ^ k : Nat) : Int) = P := by rcases h with ⟨rfl, rfl⟩ | ⟨rfl, rfl⟩ | ⟨rfl, rfl⟩ <;> rfl
theorem Wid.le {k : Nat} {P : Int} (h : Wid k P) : 1 ≤ k ∧ k ≤ 4 ∧ P ≤ 4294967296 := by rcases h with ⟨rfl, rfl⟩ | ⟨rfl, rfl⟩ | ⟨rfl, rfl⟩ <;> omega
theorem getN_rd (b : List UInt8) (p k : Nat) : ((getN b (p : Int) (k : Int) : Nat) : Int) = rd k (b.drop p) := by
  unfold getN atL rd
  simp
theorem get_is {b : List UInt8} {p k : Nat} {P : Int} (h : Wid k P) (hp : p + k ≤ b.length) : getS b p k = rd k (b.drop p) ∧ getE b p k = 0 := by
  have ht : there b (p : Int) (k : Int) = true := by unfold there; rw [decide_eq_true_iff]; omega
  have hn : getN b (p : Int) (k : Int) ≤ 9223372036854775807 := by
    have h1 := getN_rd b p k
    have h2 := rd_lt h.pow256 (b.drop p)
    have h3 := h.le
    omega
  exact ⟨by rw [getS_fine h.wide ht hn, getN_rd], getE_fine h.wide ht hn⟩
theorem get_not {b : List UInt8} {p k : Nat} {P : Int} (h : Wid k P) (hp : ¬ p + k ≤ b.length) : getS b p k = 0 ∧ getE b p k = 21 := by
  have ht : there b (p : Int) (k : Int) = false := by unfold there; rw [decide_eq_false_iff_not]; omega
  exact ⟨getS_short ht, getE_short h.wide ht⟩

/-- What a call that reads on says: the value, where the reader is then, and that nothing else of what was there has turned. -/
def Reads (g : Nat) (b : List UInt8) (v : Value) (s : Nat × Bool) (w : World) (e : Ending) (w' : World) : Prop := e = .returned v ∧ Rd g b s w' ∧ w.grownBy w' (some g)

theorem setRd1 {g : Nat} {b : List UInt8} {p k : Nat} {w : World} (h : Rd g b (p, false) w) : Rd g b (p + k, false) (w.setCell ⟨g, 1, none⟩ (.int .i64 ((p : Int) + k))) := by
  constructor
  simp [World.setCell, Array.getElem?_modify, h.box, errV]
theorem setRd2 {g : Nat} {b : List UInt8} {p : Nat} {w : World} (h : Rd g b (p, false) w) : Rd g b (p, true) (w.setCell ⟨g, 2, none⟩ (faultV p 64)) := by
  constructor
  simp [World.setCell, Array.getElem?_modify, h.box, errV]

set_option maxRecDepth 100000 in
set_option maxHeartbeats 2000000 in
theorem number_bad (g : Nat) (b : List UInt8) (p k : Nat) (w : World) (h : Rd g b (p, true) w) :
    Calls Tryz.prog 62 #[.pointer (some ⟨g, 0, none⟩), .int .i64 (k : Int)] w (Reads g b (.int .i64 0) (p, true) w) := by
  have c2 := h.c2
  simp only [errV] at c2
  have H := Lib.hid h
  clear h
  go_enter Tryz.func62, Tryz.ntmps62
  go_wp2
  go_ret
  exact ⟨rfl, H.out, World.grownBy.refl _ _⟩
set_option maxRecDepth 100000 in
set_option maxHeartbeats 2000000 in
theorem number_fine (g : Nat) (b : List UInt8) (p k : Nat) (P : Int) (w : World) (hW : Wid k P) (hl : b.length ≤ 1000) (h : Rd g b (p, false) w) (hp : p + k ≤ b.length) :
    Calls Tryz.prog 62 #[.pointer (some ⟨g, 0, none⟩), .int .i64 (k : Int)] w (Reads g b (.int .i64 (rd k (b.drop p))) (p + k, false) w) := by
  have C := Lib.hid (fun W => get_any (txt b) (p : Int) (k : Int) W (by rw [txt_size]; omega) (by omega))
  rw [txt_list, (get_is hW hp).1, (get_is hW hp).2] at C
  obtain ⟨n, hn⟩ : ∃ n, n = rd k (b.drop p) := ⟨_, rfl⟩
  rw [← hn] at C ⊢
  have hk4 := hW.le
  have n0 := near_cell h.c0
  have n1 := near_cell h.c1
  have c2 := h.c2
  simp only [errV] at c2
  have H := Lib.hid h
  have hlt := h.lt
  clear h hn hW
  go_enter Tryz.func62, Tryz.ntmps62
  go_wp2_with fail
  refine wp_region_near w.heap.size (by kernel_rfl) (by kernel_rfl) (Nat.le_refl _) ?_
  repeat (go_big_quiet_step (first
    | (go_at_call 106; exact near_of (C.out _) (Nat.le_refl _))))
  refine wpQuiet_nil ?_
  intro W hW
  have HW := Lib.hid hW
  have R := H.out.below hW hlt
  have d1 := R.c1
  have e1 := R.f 1
  have HR := Lib.hid R
  clear hW R n0 n1 c2
  go_wp2
  go_ret
  exact ⟨rfl, setRd1 HR.out, grown_trans (Below.grows HW.out _) (grown_setCell _ _ _ _)⟩
set_option maxRecDepth 100000 in
set_option maxHeartbeats 2000000 in
theorem number_cut (g : Nat) (b : List UInt8) (p k : Nat) (P : Int) (w : World) (hW : Wid k P) (hl : b.length ≤ 1000) (hpl : p ≤ 1000) (h : Rd g b (p, false) w) (hp : ¬ p + k ≤ b.length) :
    Calls Tryz.prog 62 #[.pointer (some ⟨g, 0, none⟩), .int .i64 (k : Int)] w (Reads g b (.int .i64 0) (p, true) w) := by
  have C := Lib.hid (fun W => get_any (txt b) (p : Int) (k : Int) W (by rw [txt_size]; omega) (by omega))
  rw [txt_list, (get_not hW hp).1, (get_not hW hp).2] at C
  have hk4 := hW.le
  have n0 := near_cell h.c0
  have n1 := near_cell h.c1
  have c2 := h.c2
  simp only [errV] at c2
  have H := Lib.hid h
  have hlt := h.lt
  clear h hW
  go_enter Tryz.func62, Tryz.ntmps62
  go_wp2_with fail
  refine wp_region_near w.heap.size (by kernel_rfl) (by kernel_rfl) (Nat.le_refl _) ?_
  repeat (go_big_quiet_step (first
    | (go_at_call 106; exact near_of (C.out _) (Nat.le_refl _))))
  refine wpQuiet_nil ?_
  intro W hW
  have HW := Lib.hid hW
  have R := H.out.below hW hlt
  have d1 := R.c1
  have d2 := R.c2
  have e2 := R.f 2
  simp only [errV] at d2
  have HR := Lib.hid R
  clear hW R n0 n1 c2
  go_wp2
  go_ret
  exact ⟨rfl, setRd2 HR.out, grown_trans (Below.grows HW.out _) (grown_setCell _ _ _ _)⟩
/-- The method reads the next number. -/
theorem number_any (g : Nat) (b : List UInt8) (s : Nat × Bool) (k : Nat) (P : Int) (w : World) (hW : Wid k P) (hl : b.length ≤ 1000) (hp : s.1 ≤ 1000) (h : Rd g b s w) :
    Calls Tryz.prog 62 #[.pointer (some ⟨g, 0, none⟩), .int .i64 (k : Int)] w (Reads g b (.int .i64 (numS b k s).1) (numS b k s).2 w) := by
  obtain ⟨p, t⟩ := s
  cases t with
  | true => rw [numS_bad]; exact number_bad g b p k w h
  | false =>
    by_cases hk : p + k ≤ b.length
    · rw [numS_fine hk]; exact number_fine g b p k P w hW hl h hk
    · rw [numS_cut hk]; exact number_cut g b p k P w hW hl hp h hk
end Go.Proofs.YtlimcimioeepaaaGreatDoor
set_option linter.unusedVariables false
namespace Go.Proofs.YtlimcimioeepaaaGreatDoor
open Go.RowKit

theorem wpList_append_run {P : Program} {ops : Array Oper} {rest : List Oper} {o : Oper} {a : Act} {Q : Exit → Act → World → Prop} {w w' : World} {v : Value} (hgd : o.guard = none) (s x : Operand) (t : TypeId) (vs vx : Value)
    (ho : o.op = .call { callee := .builtin .append, args := #[s, x], argTypes := #[t, t] }) (hs : a.eval s = vs) (hx : a.eval x = vx) (hr : (Builtin.append_ #[t, t] o.type #[vs, vx]).run P w = .ok v w')
    (h : wpList P ops Q rest (a.put o.dst v) w') : wpList P ops Q (o :: rest) a w := by
  refine wpList_plain hgd fun K hK => ?_
  unfold Oper.wp execOp
  simp only [ho, resolve, invoke, builtin, Sem.run_bind, Sem.run_pure, Result.andThen_ok, List.map_toArray, List.map_cons, List.map_nil, hs, hx, hr]
  exact hK _ _ h

theorem flatT_append (a b : List (Int × Int × Int)) : flatT (a ++ b) = flatT a ++ flatT b := by unfold flatT; rw [List.flatMap_append]
theorem OwnT.cap {t : TypeId} {w : World} {base : Nat} {v : Value} {es : List (Int × Int × Int)} (h : OwnT t w base v es) : ∃ A c, v = .slice A es.length c := by
  obtain ⟨A, c, he, _⟩ := h.slice
  exact ⟨A, c, he⟩
theorem OwnT.nil (t : TypeId) (w : World) (base : Nat) : OwnT t w base (.slice none 0 0) [] := ⟨rfl, .inl ⟨rfl, rfl⟩⟩
theorem OwnE.nil (w : World) (base : Nat) : OwnE w base (.slice none 0 0) [] := ⟨rfl, .inl ⟨rfl, rfl⟩⟩
theorem OwnI.nil (w : World) (base : Nat) : OwnI w base (.slice none 0 0) [] := ⟨rfl, .inl ⟨rfl, rfl⟩⟩
theorem OwnB.cap {w : World} {base : Nat} {v : Value} {bs : List (List Int × List Int)} (h : OwnB w base v bs) : ∃ A c, v = .slice A bs.length c := by
  obtain ⟨cs, _, h2, _⟩ := h
  rcases h2.2 with ⟨rfl, hn⟩ | ⟨g, cap, cur, rfl, _⟩
  · exact ⟨none, 0, by rw [hn]⟩
  · exact ⟨_, _, rfl⟩
/-- A struct of three integers more. -/
theorem wpList_pushT {ops : Array Oper} {rest : List Oper} {o : Oper} {a : Act} {Q : Exit → Act → World → Prop} (hgd : o.guard = none) (s x : Operand) (t tl : TypeId) (hu : Tryz.prog.underlying tl = some (.slice t))
    (hinf : (Tryz.prog.info? t).map (fun i => (i.zero, i.size, i.bytes)) = some (some (.agg #[.int .i64 0, .int .i64 0, .int .i64 0]), 3, 24))
    (ho : o.op = .call { callee := .builtin .append, args := #[s, x], argTypes := #[tl, tl] })
    (w1 : World) (base : Nat) (v : Value) (es : List (Int × Int × Int)) (e : Int × Int × Int) (len : Nat) (hlen : es.length = len) (hl : len ≤ 900) (hO : OwnT t w1 base v es) (hB : base ≤ w1.heap.size)
    (hs : a.eval s = v) (hx : a.eval x = .slice (some ⟨w1.heap.size, 0, none⟩) 1 1)
    (h : ∀ F' d' w', OwnT t w' base (.slice F' (len + 1) d') (es ++ [e]) → Below base w1 w' → wpList Tryz.prog ops Q rest (a.put o.dst (.slice F' (len + 1) d')) w') :
    wpList Tryz.prog ops Q (o :: rest) a (w1.alloc (.cells #[.int .i64 e.1, .int .i64 e.2.1, .int .i64 e.2.2] t)) := by
  obtain ⟨j0, hj0, hy0, hy1, hy2⟩ := info_parts5 hinf
  subst hlen
  refine wpList_append_own _ hgd s x tl ho base t j0 (.agg #[.int .i64 0, .int .i64 0, .int .i64 0]) 3 24 hu hj0 hy0 hy1 hy2 rfl (by omega) v es.length (flatT es) hs (own_below hO (below_alloc _)) ⟨w1.heap.size, 0, none⟩ 1 1 [.int .i64 e.1, .int .i64 e.2.1, .int .i64 e.2.2] hx rfl ?_ ?_
    (by unfold maxLen; omega) (by omega) (by simp; omega) ?_
  · intro j u hu
    rw [addr_add, World.cell?_alloc_at _ _ _ _ rfl]
    match j with
    | 0 =>
      obtain rfl : Value.int .i64 e.1 = u := by simpa using hu
      rfl
    | 1 =>
      obtain rfl : Value.int .i64 e.2.1 = u := by simpa using hu
      rfl
    | 2 =>
      obtain rfl : Value.int .i64 e.2.2 = u := by simpa using hu
      rfl
    | j + 3 => simp at hu
  · intro u hu
    rcases (by simpa using hu : u = .int .i64 e.1 ∨ u = .int .i64 e.2.1 ∨ u = .int .i64 e.2.2) with rfl | rfl | rfl <;> rfl
  · intro v' w' hown' hg _
    have hO' : OwnT t w' base v' (es ++ [e]) := by
      unfold OwnT
      rw [List.length_append, List.length_singleton, flatT_append]
      exact hown'
    obtain ⟨F', d', rfl⟩ := hO'.cap
    rw [show (es ++ [e]).length = es.length + 1 by simp] at hO' ⊢
    exact h F' d' w' hO' (((Below.refl base w1).alloc hB _).grown hg (by simp; omega) (fun k hk => (hO.lt k hk).1))
/-- An edge more. -/
theorem wpList_pushE {ops : Array Oper} {rest : List Oper} {o : Oper} {a : Act} {Q : Exit → Act → World → Prop} (hgd : o.guard = none) (s x : Operand)
    (ho : o.op = .call { callee := .builtin .append, args := #[s, x], argTypes := #[23, 23] })
    (w1 : World) (base : Nat) (v : Value) (es : List (Int × Int)) (e : Int × Int) (len : Nat) (hlen : es.length = len) (hl : len ≤ 900) (hO : OwnE w1 base v es) (hB : base ≤ w1.heap.size)
    (hs : a.eval s = v) (hx : a.eval x = .slice (some ⟨w1.heap.size, 0, none⟩) 1 1)
    (h : ∀ F' d' w', OwnE w' base (.slice F' (len + 1) d') (es ++ [e]) → Below base w1 w' → wpList Tryz.prog ops Q rest (a.put o.dst (.slice F' (len + 1) d')) w') :
    wpList Tryz.prog ops Q (o :: rest) a (w1.alloc (.cells #[.int .i64 e.1, .int .i64 e.2] 56)) := by
  obtain ⟨j0, hj0, hy0, hy1, hy2⟩ := info_parts5 edge_cell_info
  subst hlen
  refine wpList_append_own _ hgd s x 23 ho base 56 j0 (.agg #[.int .i64 0, .int .i64 0]) 2 16 Tryz.underlying23 hj0 hy0 hy1 hy2 rfl (by omega) v es.length (flatE es) hs (own_below hO (below_alloc _)) ⟨w1.heap.size, 0, none⟩ 1 1 [.int .i64 e.1, .int .i64 e.2] hx rfl ?_ ?_
    (by unfold maxLen; omega) (by omega) (by simp; omega) ?_
  · intro j u hu
    rw [addr_add, World.cell?_alloc_at _ _ _ _ rfl]
    match j with
    | 0 =>
      obtain rfl : Value.int .i64 e.1 = u := by simpa using hu
      rfl
    | 1 =>
      obtain rfl : Value.int .i64 e.2 = u := by simpa using hu
      rfl
    | j + 2 => simp at hu
  · intro u hu
    rcases (by simpa using hu : u = .int .i64 e.1 ∨ u = .int .i64 e.2) with rfl | rfl <;> rfl
  · intro v' w' hown' hg _
    have hO' : OwnE w' base v' (es ++ [e]) := by
      unfold OwnE
      rw [List.length_append, List.length_singleton, flatE_append]
      exact hown'
    obtain ⟨F', d', rfl, _⟩ := hO'.slice
    rw [show (es ++ [e]).length = es.length + 1 by simp] at hO' ⊢
    exact h F' d' w' hO' (((Below.refl base w1).alloc hB _).grown hg (by simp; omega) (fun k hk => (hO.lt k hk).1))
/-- A barrier more. -/
theorem wpList_pushB {ops : Array Oper} {rest : List Oper} {o : Oper} {a : Act} {Q : Exit → Act → World → Prop} (hgd : o.guard = none) (s x : Operand) (hty : o.type = 25)
    (ho : o.op = .call { callee := .builtin .append, args := #[s, x], argTypes := #[25, 25] })
    (w1 : World) (base : Nat) (v v1 v2 : Value) (bs : List (List Int × List Int)) (xs ys : List Int) (len : Nat) (hlen : bs.length = len) (hl : len ≤ 900) (hO : OwnB w1 base v bs) (h1 : OwnI w1 base v1 xs) (h2 : OwnI w1 base v2 ys) (hB : base ≤ w1.heap.size)
    (hs : a.eval s = v) (hx : a.eval x = .slice (some ⟨w1.heap.size, 0, none⟩) 1 1)
    (h : ∀ F' d' w', OwnB w' base (.slice F' (len + 1) d') (bs ++ [(xs, ys)]) → Below base w1 w' → wpList Tryz.prog ops Q rest (a.put o.dst (.slice F' (len + 1) d')) w') :
    wpList Tryz.prog ops Q (o :: rest) a (w1.alloc (.cells #[v1, v2] 49)) := by
  subst hlen
  have hE : OwnElem base v.ownBlock xs ys (.slice (some ⟨w1.heap.size, 0, none⟩) 1 1) (w1.alloc (.cells #[v1, v2] 49)) :=
    ⟨w1.heap.size, v1, v2, rfl, heap_alloc_new w1 _, fun e => by have := (hO.lt _ e).2.1; omega, h1.alloc _, h2.alloc _⟩
  obtain ⟨v', w', hr, hO', hRB⟩ := ownB_append (hO.below (below_alloc _)) hE (by omega) (by simp; omega)
  rw [← hty] at hr
  obtain ⟨F', d', rfl⟩ := hO'.cap
  rw [show (bs ++ [(xs, ys)]).length = bs.length + 1 by simp] at hO' hr
  have hr' : (Builtin.append_ #[25, 25] o.type #[v, .slice (some ⟨w1.heap.size, 0, none⟩) 1 1]).run Tryz.prog (w1.alloc (.cells #[v1, v2] 49)) = .ok (.slice F' (bs.length + 1) d') w' := by
    rw [hty] at hr ⊢
    exact hr
  exact wpList_append_run hgd s x 25 v _ ho hs hx hr' (h F' d' w' hO' (((Below.refl base w1).alloc hB _).trans (hRB.below (by simp; omega))))

/-! ### Lists of the call's own, while a reader reads on -/
theorem own_grown {w w' : World} {base g : Nat} {e : TypeId} {s n : Nat} {v : Value} {xs : List Value} (h : w.ownsRow base e s v n xs) (hg : w.grownBy w' (some g)) (hb : g < base) : w'.ownsRow base e s v n xs :=
  h.kept hg (by
    cases hv : v.ownBlock with
    | none => exact .inl rfl
    | some k =>
      refine .inr (fun e => ?_)
      have := (h.lt k hv).1
      have e2 : k = g := Option.some.inj e
      omega)
theorem OwnT.grown {t : TypeId} {w w' : World} {base g : Nat} {v : Value} {es : List (Int × Int × Int)} (h : OwnT t w base v es) (hg : w.grownBy w' (some g)) (hb : g < base) : OwnT t w' base v es := own_grown h hg hb
theorem OwnE.grown {w w' : World} {base g : Nat} {v : Value} {es : List (Int × Int)} (h : OwnE w base v es) (hg : w.grownBy w' (some g)) (hb : g < base) : OwnE w' base v es := own_grown h hg hb
theorem OwnI.grown {w w' : World} {base g : Nat} {v : Value} {es : List Int} (h : OwnI w base v es) (hg : w.grownBy w' (some g)) (hb : g < base) : OwnI w' base v es := own_grown h hg hb
theorem OwnB.grown {w w' : World} {base g : Nat} {v : Value} {bs : List (List Int × List Int)} (h : OwnB w base v bs) (hg : w.grownBy w' (some g)) (hb : g < base) : OwnB w' base v bs := by
  obtain ⟨cs, h1, h2, h3⟩ := h
  exact ⟨cs, h1, own_grown h2 hg hb, fun k c b hc hb' => ⟨(h3 k c b hc hb').1.grown hg hb, (h3 k c b hc hb').2.grown hg hb⟩⟩
theorem OwnT.less {t : TypeId} {w : World} {base base' : Nat} {v : Value} {es : List (Int × Int × Int)} (h : OwnT t w base v es) (hb : base' ≤ base) : OwnT t w base' v es := own_less h hb
theorem OwnE.less {w : World} {base base' : Nat} {v : Value} {es : List (Int × Int)} (h : OwnE w base v es) (hb : base' ≤ base) : OwnE w base' v es := own_less h hb
theorem OwnI.less {w : World} {base base' : Nat} {v : Value} {es : List Int} (h : OwnI w base v es) (hb : base' ≤ base) : OwnI w base' v es := own_less h hb
/-- What turns no more than one block and new ones, and then leaves all below that bound. -/
theorem grown_below {w wr w' : World} {g : Nat} (h : w.grownBy wr (some g)) (k : Below w.heap.size wr w') : w.grownBy w' (some g) :=
  ⟨k.os.trans h.os, k.tape.trans h.tape, k.output.trans h.output, Nat.le_trans h.size k.size, fun q hq hr => (k.block q hq).trans (h.block q hq hr)⟩
end Go.Proofs.YtlimcimioeepaaaGreatDoor
set_option linter.unusedVariables false
namespace Go.Proofs.YtlimcimioeepaaaGreatDoor
open Go.RowKit

set_option maxRecDepth 100000 in
set_option maxHeartbeats 2000000 in
theorem row_part (g : Nat) (b : List UInt8) (f : FuncId) (cap : Array Value) (eg : ∀ args w, (callFunc f args).run Tryz.prog w = .ok (.enter f args) w) (read : Nat × Bool → (Int × Int × Int) × (Nat × Bool)) (n : Nat) (hn : n ≤ 400)
    (hle : ∀ s, s.1 ≤ b.length → (read s).2.1 ≤ b.length) (s : Nat × Bool) (w : World) (hs : s.1 ≤ b.length) (hR : Rd g b s w)
    (hread : ∀ s W, s.1 ≤ b.length → w.grownBy W (some g) → Rd g b s W → Calls Tryz.prog f cap W (Reads g b (.agg #[.int .i64 (read s).1.1, .int .i64 (read s).1.2.1, .int .i64 (read s).1.2.2]) (read s).2 W)) :
    Calls Tryz.prog 97 #[.int .i64 n, .func (.func f) #[] cap] w fun e w' => ∃ A c, e = .returned (.slice A n c) ∧ OwnT 52 w' w.heap.size (.slice A n c) (rowS read n s).1 ∧ Rd g b (rowS read n s).2 w' ∧ w.grownBy w' (some g) := by
  have HP := Lib.hid hread
  have HR := Lib.hid hR
  have HLE := Lib.hid hle
  have HS := Lib.hid hs
  have hglt := hR.lt
  clear hread hR hle hs
  go_enter Tryz.func97, Tryz.ntmps97
  go_wp2
  go_loopw [5, 7] (fun l i wr => ∃ (j : Nat) (A : Option Addr) (c : Nat), j ≤ n ∧ i = .int .i64 j ∧ l = .slice A j c ∧ Hid (OwnT 52 wr w.heap.size (.slice A j c) (rowS read j s).1) ∧ Hid (Rd g b (rowS read j s).2 wr) ∧ Hid (w.grownBy wr (some g)) ∧ Hid ((rowS read j s).2.1 ≤ b.length)) (fun _ i _ => n - (intOf i).toNat)
  case atStart => exact ⟨0, none, 0, Nat.zero_le _, rfl, rfl, Lib.hid (OwnT.nil _ _ _), HR, Lib.hid (World.grownBy.refl _ _), HS⟩
  case round =>
    obtain ⟨j, A, c, hj, rfl, rfl, HO, HRJ, HG, HSJ⟩ := hrel
    by_cases hlt : j < n
    · have hcall := HP.out _ wr HSJ.out HG.out HRJ.out
      have HL := Lib.hid (rowS_length read j s)
      have HSN := Lib.hid (rowS_snoc read j s)
      go_wp2_with (first
        | (go_at_fn f; refine hcall.mono ?_; rintro e w2 ⟨rfl, R2, g2⟩; have HO2 := Lib.hid (OwnT.grown HO.out g2 hglt); have HR2 := Lib.hid R2; have HG2 := Lib.hid (grown_trans HG.out g2); have HS2 := Lib.hid (HG2.out.size); clear R2 g2)
        | (at_builtin; refine wpList_pushT rfl _ _ 52 22 Tryz.underlying22 part_info rfl w2 w.heap.size _ _ (read (rowS read j s).2).1 j HL.out (by omega) HO2.out HS2.out rfl rfl ?_; intro A' c' w3 hO3 hb3; have HO3 := Lib.hid hO3; have HB3 := Lib.hid hb3; clear hO3 hb3))
      go_roundw
      case rel => exact ⟨j + 1, A', c', by omega, by go_num, rfl, Lib.hid (by rw [HSN.out]; exact HO3.out), Lib.hid (by rw [HSN.out]; exact HR2.out.below HB3.out hglt), Lib.hid (grown_below HG2.out HB3.out), Lib.hid (by rw [HSN.out]; exact HLE.out _ HSJ.out)⟩
      case measure => simp [intOf]; omega
    · have e : j = n := by omega
      subst e
      go_wp2
      go_ret
      exact ⟨A, c, rfl, HO.out, HRJ.out, HG.out⟩

set_option maxRecDepth 100000 in
set_option maxHeartbeats 2000000 in
theorem row_fut (g : Nat) (b : List UInt8) (f : FuncId) (cap : Array Value) (eg : ∀ args w, (callFunc f args).run Tryz.prog w = .ok (.enter f args) w) (read : Nat × Bool → (Int × Int × Int) × (Nat × Bool)) (n : Nat) (hn : n ≤ 400)
    (hle : ∀ s, s.1 ≤ b.length → (read s).2.1 ≤ b.length) (s : Nat × Bool) (w : World) (hs : s.1 ≤ b.length) (hR : Rd g b s w)
    (hread : ∀ s W, s.1 ≤ b.length → w.grownBy W (some g) → Rd g b s W → Calls Tryz.prog f cap W (Reads g b (.agg #[.int .i64 (read s).1.1, .int .i64 (read s).1.2.1, .int .i64 (read s).1.2.2]) (read s).2 W)) :
    Calls Tryz.prog 101 #[.int .i64 n, .func (.func f) #[] cap] w fun e w' => ∃ A c, e = .returned (.slice A n c) ∧ OwnT 58 w' w.heap.size (.slice A n c) (rowS read n s).1 ∧ Rd g b (rowS read n s).2 w' ∧ w.grownBy w' (some g) := by
  have HP := Lib.hid hread
  have HR := Lib.hid hR
  have HLE := Lib.hid hle
  have HS := Lib.hid hs
  have hglt := hR.lt
  clear hread hR hle hs
  go_enter Tryz.func101, Tryz.ntmps101
  go_wp2
  go_loopw [5, 7] (fun l i wr => ∃ (j : Nat) (A : Option Addr) (c : Nat), j ≤ n ∧ i = .int .i64 j ∧ l = .slice A j c ∧ Hid (OwnT 58 wr w.heap.size (.slice A j c) (rowS read j s).1) ∧ Hid (Rd g b (rowS read j s).2 wr) ∧ Hid (w.grownBy wr (some g)) ∧ Hid ((rowS read j s).2.1 ≤ b.length)) (fun _ i _ => n - (intOf i).toNat)
  case atStart => exact ⟨0, none, 0, Nat.zero_le _, rfl, rfl, Lib.hid (OwnT.nil _ _ _), HR, Lib.hid (World.grownBy.refl _ _), HS⟩
  case round =>
    obtain ⟨j, A, c, hj, rfl, rfl, HO, HRJ, HG, HSJ⟩ := hrel
    by_cases hlt : j < n
    · have hcall := HP.out _ wr HSJ.out HG.out HRJ.out
      have HL := Lib.hid (rowS_length read j s)
      have HSN := Lib.hid (rowS_snoc read j s)
      go_wp2_with (first
        | (go_at_fn f; refine hcall.mono ?_; rintro e w2 ⟨rfl, R2, g2⟩; have HO2 := Lib.hid (OwnT.grown HO.out g2 hglt); have HR2 := Lib.hid R2; have HG2 := Lib.hid (grown_trans HG.out g2); have HS2 := Lib.hid (HG2.out.size); clear R2 g2)
        | (at_builtin; refine wpList_pushT rfl _ _ 58 24 Tryz.underlying24 future_info rfl w2 w.heap.size _ _ (read (rowS read j s).2).1 j HL.out (by omega) HO2.out HS2.out rfl rfl ?_; intro A' c' w3 hO3 hb3; have HO3 := Lib.hid hO3; have HB3 := Lib.hid hb3; clear hO3 hb3))
      go_roundw
      case rel => exact ⟨j + 1, A', c', by omega, by go_num, rfl, Lib.hid (by rw [HSN.out]; exact HO3.out), Lib.hid (by rw [HSN.out]; exact HR2.out.below HB3.out hglt), Lib.hid (grown_below HG2.out HB3.out), Lib.hid (by rw [HSN.out]; exact HLE.out _ HSJ.out)⟩
      case measure => simp [intOf]; omega
    · have e : j = n := by omega
      subst e
      go_wp2
      go_ret
      exact ⟨A, c, rfl, HO.out, HRJ.out, HG.out⟩

set_option maxRecDepth 100000 in
set_option maxHeartbeats 2000000 in
theorem row_edge (g : Nat) (b : List UInt8) (f : FuncId) (cap : Array Value) (eg : ∀ args w, (callFunc f args).run Tryz.prog w = .ok (.enter f args) w) (read : Nat × Bool → (Int × Int) × (Nat × Bool)) (n : Nat) (hn : n ≤ 400)
    (hle : ∀ s, s.1 ≤ b.length → (read s).2.1 ≤ b.length) (s : Nat × Bool) (w : World) (hs : s.1 ≤ b.length) (hR : Rd g b s w)
    (hread : ∀ s W, s.1 ≤ b.length → w.grownBy W (some g) → Rd g b s W → Calls Tryz.prog f cap W (Reads g b (.agg #[.int .i64 (read s).1.1, .int .i64 (read s).1.2]) (read s).2 W)) :
    Calls Tryz.prog 99 #[.int .i64 n, .func (.func f) #[] cap] w fun e w' => ∃ A c, e = .returned (.slice A n c) ∧ OwnE w' w.heap.size (.slice A n c) (rowS read n s).1 ∧ Rd g b (rowS read n s).2 w' ∧ w.grownBy w' (some g) := by
  have HP := Lib.hid hread
  have HR := Lib.hid hR
  have HLE := Lib.hid hle
  have HS := Lib.hid hs
  have hglt := hR.lt
  clear hread hR hle hs
  go_enter Tryz.func99, Tryz.ntmps99
  go_wp2
  go_loopw [5, 7] (fun l i wr => ∃ (j : Nat) (A : Option Addr) (c : Nat), j ≤ n ∧ i = .int .i64 j ∧ l = .slice A j c ∧ Hid (OwnE wr w.heap.size (.slice A j c) (rowS read j s).1) ∧ Hid (Rd g b (rowS read j s).2 wr) ∧ Hid (w.grownBy wr (some g)) ∧ Hid ((rowS read j s).2.1 ≤ b.length)) (fun _ i _ => n - (intOf i).toNat)
  case atStart => exact ⟨0, none, 0, Nat.zero_le _, rfl, rfl, Lib.hid (OwnE.nil _ _), HR, Lib.hid (World.grownBy.refl _ _), HS⟩
  case round =>
    obtain ⟨j, A, c, hj, rfl, rfl, HO, HRJ, HG, HSJ⟩ := hrel
    by_cases hlt : j < n
    · have hcall := HP.out _ wr HSJ.out HG.out HRJ.out
      have HL := Lib.hid (rowS_length read j s)
      have HSN := Lib.hid (rowS_snoc read j s)
      go_wp2_with (first
        | (go_at_fn f; refine hcall.mono ?_; rintro e w2 ⟨rfl, R2, g2⟩; have HO2 := Lib.hid (OwnE.grown HO.out g2 hglt); have HR2 := Lib.hid R2; have HG2 := Lib.hid (grown_trans HG.out g2); have HS2 := Lib.hid (HG2.out.size); clear R2 g2)
        | (at_builtin; refine wpList_pushE rfl _ _ rfl w2 w.heap.size _ _ (read (rowS read j s).2).1 j HL.out (by omega) HO2.out HS2.out rfl rfl ?_; intro A' c' w3 hO3 hb3; have HO3 := Lib.hid hO3; have HB3 := Lib.hid hb3; clear hO3 hb3))
      go_roundw
      case rel => exact ⟨j + 1, A', c', by omega, by go_num, rfl, Lib.hid (by rw [HSN.out]; exact HO3.out), Lib.hid (by rw [HSN.out]; exact HR2.out.below HB3.out hglt), Lib.hid (grown_below HG2.out HB3.out), Lib.hid (by rw [HSN.out]; exact HLE.out _ HSJ.out)⟩
      case measure => simp [intOf]; omega
    · have e : j = n := by omega
      subst e
      go_wp2
      go_ret
      exact ⟨A, c, rfl, HO.out, HRJ.out, HG.out⟩

set_option maxRecDepth 100000 in
set_option maxHeartbeats 2000000 in
theorem row_ones (g : Nat) (b : List UInt8) (f : FuncId) (cap : Array Value) (eg : ∀ args w, (callFunc f args).run Tryz.prog w = .ok (.enter f args) w) (read : Nat × Bool → (Int) × (Nat × Bool)) (n : Nat) (hn : n ≤ 400)
    (hle : ∀ s, s.1 ≤ b.length → (read s).2.1 ≤ b.length) (s : Nat × Bool) (w : World) (hs : s.1 ≤ b.length) (hR : Rd g b s w)
    (hread : ∀ s W, s.1 ≤ b.length → w.grownBy W (some g) → Rd g b s W → Calls Tryz.prog f cap W (Reads g b (.int .i64 (read s).1) (read s).2 W)) :
    Calls Tryz.prog 105 #[.int .i64 n, .func (.func f) #[] cap] w fun e w' => ∃ A c, e = .returned (.slice A n c) ∧ OwnI w' w.heap.size (.slice A n c) (rowS read n s).1 ∧ Rd g b (rowS read n s).2 w' ∧ w.grownBy w' (some g) := by
  have HP := Lib.hid hread
  have HR := Lib.hid hR
  have HLE := Lib.hid hle
  have HS := Lib.hid hs
  have hglt := hR.lt
  clear hread hR hle hs
  go_enter Tryz.func105, Tryz.ntmps105
  go_wp2
  go_loopw [5, 7] (fun l i wr => ∃ (j : Nat) (A : Option Addr) (c : Nat), j ≤ n ∧ i = .int .i64 j ∧ l = .slice A j c ∧ Hid (OwnI wr w.heap.size (.slice A j c) (rowS read j s).1) ∧ Hid (Rd g b (rowS read j s).2 wr) ∧ Hid (w.grownBy wr (some g)) ∧ Hid ((rowS read j s).2.1 ≤ b.length)) (fun _ i _ => n - (intOf i).toNat)
  case atStart => exact ⟨0, none, 0, Nat.zero_le _, rfl, rfl, Lib.hid (OwnI.nil _ _), HR, Lib.hid (World.grownBy.refl _ _), HS⟩
  case round =>
    obtain ⟨j, A, c, hj, rfl, rfl, HO, HRJ, HG, HSJ⟩ := hrel
    by_cases hlt : j < n
    · have hcall := HP.out _ wr HSJ.out HG.out HRJ.out
      have HL := Lib.hid (rowS_length read j s)
      have HSN := Lib.hid (rowS_snoc read j s)
      go_wp2_with (first
        | (go_at_fn f; refine hcall.mono ?_; rintro e w2 ⟨rfl, R2, g2⟩; have HO2 := Lib.hid (OwnI.grown HO.out g2 hglt); have HR2 := Lib.hid R2; have HG2 := Lib.hid (grown_trans HG.out g2); have HS2 := Lib.hid (HG2.out.size); clear R2 g2)
        | (at_builtin; refine wpList_push rfl _ _ rfl w2 w.heap.size _ _ (read (rowS read j s).2).1 j HL.out (by omega) HO2.out HS2.out rfl rfl ?_; intro A' c' w3 hO3 hb3; have HO3 := Lib.hid hO3; have HB3 := Lib.hid hb3; clear hO3 hb3))
      go_roundw
      case rel => exact ⟨j + 1, A', c', by omega, by go_num, rfl, Lib.hid (by rw [HSN.out]; exact HO3.out), Lib.hid (by rw [HSN.out]; exact HR2.out.below HB3.out hglt), Lib.hid (grown_below HG2.out HB3.out), Lib.hid (by rw [HSN.out]; exact HLE.out _ HSJ.out)⟩
      case measure => simp [intOf]; omega
    · have e : j = n := by omega
      subst e
      go_wp2
      go_ret
      exact ⟨A, c, rfl, HO.out, HRJ.out, HG.out⟩

set_option maxRecDepth 100000 in
set_option maxHeartbeats 2000000 in
theorem row_bar (g : Nat) (b : List UInt8) (f : FuncId) (cap : Array Value) (eg : ∀ args w, (callFunc f args).run Tryz.prog w = .ok (.enter f args) w) (read : Nat × Bool → (List Int × List Int) × (Nat × Bool)) (n : Nat) (hn : n ≤ 400)
    (hle : ∀ s, s.1 ≤ b.length → (read s).2.1 ≤ b.length) (s : Nat × Bool) (w : World) (hs : s.1 ≤ b.length) (hR : Rd g b s w)
    (hread : ∀ s W, s.1 ≤ b.length → w.grownBy W (some g) → Rd g b s W → Calls Tryz.prog f cap W fun e w' => ∃ v1 v2, e = .returned (.agg #[v1, v2]) ∧ OwnI w' w.heap.size v1 (read s).1.1 ∧ OwnI w' w.heap.size v2 (read s).1.2 ∧ Rd g b (read s).2 w' ∧ W.grownBy w' (some g)) :
    Calls Tryz.prog 103 #[.int .i64 n, .func (.func f) #[] cap] w fun e w' => ∃ A c, e = .returned (.slice A n c) ∧ OwnB w' w.heap.size (.slice A n c) (rowS read n s).1 ∧ Rd g b (rowS read n s).2 w' ∧ w.grownBy w' (some g) := by
  have HP := Lib.hid hread
  have HR := Lib.hid hR
  have HLE := Lib.hid hle
  have HS := Lib.hid hs
  have hglt := hR.lt
  clear hread hR hle hs
  go_enter Tryz.func103, Tryz.ntmps103
  go_wp2
  go_loopw [5, 7] (fun l i wr => ∃ (j : Nat) (A : Option Addr) (c : Nat), j ≤ n ∧ i = .int .i64 j ∧ l = .slice A j c ∧ Hid (OwnB wr w.heap.size (.slice A j c) (rowS read j s).1) ∧ Hid (Rd g b (rowS read j s).2 wr) ∧ Hid (w.grownBy wr (some g)) ∧ Hid ((rowS read j s).2.1 ≤ b.length)) (fun _ i _ => n - (intOf i).toNat)
  case atStart => exact ⟨0, none, 0, Nat.zero_le _, rfl, rfl, Lib.hid (OwnB.nil _ _), HR, Lib.hid (World.grownBy.refl _ _), HS⟩
  case round =>
    obtain ⟨j, A, c, hj, rfl, rfl, HO, HRJ, HG, HSJ⟩ := hrel
    by_cases hlt : j < n
    · have hcall := HP.out _ wr HSJ.out HG.out HRJ.out
      have HL := Lib.hid (rowS_length read j s)
      have HSN := Lib.hid (rowS_snoc read j s)
      go_wp2_with (first
        | (go_at_fn f; refine hcall.mono ?_; rintro e w2 ⟨v1, v2, rfl, q1, q2, R2, g2⟩; have Q1 := Lib.hid q1; have Q2 := Lib.hid q2; clear q1 q2; have HO2 := Lib.hid (OwnB.grown HO.out g2 hglt); have HR2 := Lib.hid R2; have HG2 := Lib.hid (grown_trans HG.out g2); have HS2 := Lib.hid (HG2.out.size); clear R2 g2)
        | (at_builtin; refine wpList_pushB rfl _ _ rfl rfl w2 w.heap.size _ v1 v2 _ (read (rowS read j s).2).1.1 (read (rowS read j s).2).1.2 j HL.out (by omega) HO2.out Q1.out Q2.out HS2.out rfl rfl ?_; intro A' c' w3 hO3 hb3; have HO3 := Lib.hid hO3; have HB3 := Lib.hid hb3; clear hO3 hb3))
      go_roundw
      case rel => exact ⟨j + 1, A', c', by omega, by go_num, rfl, Lib.hid (by rw [HSN.out]; exact HO3.out), Lib.hid (by rw [HSN.out]; exact HR2.out.below HB3.out hglt), Lib.hid (grown_below HG2.out HB3.out), Lib.hid (by rw [HSN.out]; exact HLE.out _ HSJ.out)⟩
      case measure => simp [intOf]; omega
    · have e : j = n := by omega
      subst e
      go_wp2
      go_ret
      exact ⟨A, c, rfl, HO.out, HRJ.out, HG.out⟩
end Go.Proofs.YtlimcimioeepaaaGreatDoor
