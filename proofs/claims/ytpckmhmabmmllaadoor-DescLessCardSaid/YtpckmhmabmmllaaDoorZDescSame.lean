/- The contract of trefoilref05.Same in the seat YtpckmhmabmmllaaDoor. No statement is proved here. -/
import Derived.Test.YtpckmhmabmmllaaDoorZDescCheck
import Derived.Test.YtpckmhmabmmllaaDoorZM1
set_option linter.unusedVariables false
namespace Go.Proofs.YtpckmhmabmmllaaDoor
open Go.RowKit

theorem part_fields : (Tryd.prog.fieldsOf 42).toList.map (fun f => (f.name, f.type, f.offset)) = [("Op", 40, 0), ("Arg", 3, 1), ("Work", 3, 2)] := by kernel_rfl
theorem future_fields : (Tryd.prog.fieldsOf 39).toList.map (fun f => (f.name, f.type, f.offset)) = [("Maker", 3, 0), ("User", 3, 1), ("At", 3, 2)] := by kernel_rfl
theorem part3 (t : TypeId) (ht : t = 3 ∨ t = 40) (x y z : Int) (W : World) : (part t #[.int .i64 x, .int .i64 y, .int .i64 z] 0).run Tryd.prog W = .ok (.int .i64 x) W ∧ (part t #[.int .i64 x, .int .i64 y, .int .i64 z] 1).run Tryd.prog W = .ok (.int .i64 y) W ∧ (part t #[.int .i64 x, .int .i64 y, .int .i64 z] 2).run Tryd.prog W = .ok (.int .i64 z) W := by
  rcases ht with rfl | rfl
  · exact ⟨by kernel_rfl, by kernel_rfl, by kernel_rfl⟩
  · exact ⟨by kernel_rfl, by kernel_rfl, by kernel_rfl⟩
theorem part_eq (x y z u v t : Int) (W : World) : (Op.equalIn 10000 42 (.agg #[.int .i64 x, .int .i64 y, .int .i64 z]) (.agg #[.int .i64 u, .int .i64 v, .int .i64 t])).run Tryd.prog W = .ok (x == u && (y == v && z == t)) W := by
  have hf := part_fields
  rw [run_equalIn_agg (d := 9999) W 42 _ _ (by kernel_rfl) (by kernel_rfl)]
  generalize (Tryd.prog.fieldsOf 42).toList = fs at hf
  match fs, hf with
  | [], hf => simp at hf
  | [_], hf => simp at hf
  | [_, _], hf => simp at hf
  | _ :: _ :: _ :: _ :: _, hf => simp at hf
  | [f, g, h], hf =>
    simp only [List.map_cons, List.map_nil, List.cons.injEq, Prod.mk.injEq, and_true] at hf
    obtain ⟨⟨n1, t1, o1⟩, ⟨n2, t2, o2⟩, n3, t3, o3⟩ := hf
    have e1 := fun a b W => run_equalIn_int (P := Tryd.prog) W 9998 3 .i64 .i64 a b Tryd.underlying3
    have e2 := fun a b W => run_equalIn_int (P := Tryd.prog) W 9998 40 .i64 .i64 a b Tryd.underlying40
    have p1 := fun a b c W => (part3 40 (.inr rfl) a b c W).1
    have p2 := fun a b c W => (part3 3 (.inl rfl) a b c W).2.1
    have p3 := fun a b c W => (part3 3 (.inl rfl) a b c W).2.2
    simp only [Op.eqFields, n1, n2, n3, t1, t2, t3, o1, o2, o3]
    by_cases h1 : x = u
    · subst h1
      by_cases h2 : y = v
      · subst h2
        by_cases h3 : z = t
        · simp [p1, p2, p3, e1, e2, h3]
        · simp [p1, p2, p3, e1, e2, h3]
      · simp [p1, p2, p3, e1, e2, h2]
    · simp [p1, p2, p3, e1, e2, h1]
theorem future_eq (x y z u v t : Int) (W : World) : (Op.equalIn 10000 39 (.agg #[.int .i64 x, .int .i64 y, .int .i64 z]) (.agg #[.int .i64 u, .int .i64 v, .int .i64 t])).run Tryd.prog W = .ok (x == u && (y == v && z == t)) W := by
  have hf := future_fields
  rw [run_equalIn_agg (d := 9999) W 39 _ _ (by kernel_rfl) (by kernel_rfl)]
  generalize (Tryd.prog.fieldsOf 39).toList = fs at hf
  match fs, hf with
  | [], hf => simp at hf
  | [_], hf => simp at hf
  | [_, _], hf => simp at hf
  | _ :: _ :: _ :: _ :: _, hf => simp at hf
  | [f, g, h], hf =>
    simp only [List.map_cons, List.map_nil, List.cons.injEq, Prod.mk.injEq, and_true] at hf
    obtain ⟨⟨n1, t1, o1⟩, ⟨n2, t2, o2⟩, n3, t3, o3⟩ := hf
    have e1 := fun a b W => run_equalIn_int (P := Tryd.prog) W 9998 3 .i64 .i64 a b Tryd.underlying3
    have p1 := fun a b c W => (part3 3 (.inl rfl) a b c W).1
    have p2 := fun a b c W => (part3 3 (.inl rfl) a b c W).2.1
    have p3 := fun a b c W => (part3 3 (.inl rfl) a b c W).2.2
    simp only [Op.eqFields, n1, n2, n3, t1, t2, t3, o1, o2, o3]
    by_cases h1 : x = u
    · subst h1
      by_cases h2 : y = v
      · subst h2
        by_cases h3 : z = t
        · simp [p1, p2, p3, e1, h3]
        · simp [p1, p2, p3, e1, h3]
      · simp [p1, p2, p3, e1, h2]
    · simp [p1, p2, p3, e1, h1]
theorem part_neq_run (x y z u v t : Int) (W : World) : (binOp .neq 42 (.agg #[.int .i64 x, .int .i64 y, .int .i64 z]) (.agg #[.int .i64 u, .int .i64 v, .int .i64 t])).run Tryd.prog W = .ok (.bool (!(x == u && (y == v && z == t)))) W := by
  rw [run_neq_struct, part_eq]
  rfl
theorem future_neq_run (x y z u v t : Int) (W : World) : (binOp .neq 39 (.agg #[.int .i64 x, .int .i64 y, .int .i64 z]) (.agg #[.int .i64 u, .int .i64 v, .int .i64 t])).run Tryd.prog W = .ok (.bool (!(x == u && (y == v && z == t)))) W := by
  rw [run_neq_struct, future_eq]
  rfl
theorem trip_neq {x y z u v t : Int} (h : (x, y, z) ≠ (u, v, t)) : (x == u && (y == v && z == t)) = false := by
  rw [Bool.and_eq_false_iff, Bool.and_eq_false_iff]
  by_cases h1 : x = u
  · by_cases h2 : y = v
    · refine .inr (.inr ?_)
      simp only [beq_eq_false_iff_ne]
      exact fun h3 => h (by rw [h1, h2, h3])
    · exact .inr (.inl (by simpa using h2))
  · exact .inl (by simpa using h1)
end Go.Proofs.YtpckmhmabmmllaaDoor
