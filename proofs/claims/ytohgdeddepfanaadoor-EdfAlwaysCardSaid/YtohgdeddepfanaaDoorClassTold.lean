/- The contracts of taskOf, Heavy, Cores, Bound, in the seat YtohgdeddepfanaaDoor. No statement is proved here. -/
import Derived.Test.YtohgdeddepfanaaDoorClassTell
import Derived.Deep.RegionWith
import Derived.Laws.StructEq
set_option linter.unusedVariables false
set_option linter.unusedSimpArgs false
namespace Go.Proofs.YtohgdeddepfanaaDoor
open Go Go.RowKit

theorem task_light (s : Shp) (w : World) (h : s.t ≤ s.d) : Calls Tryd.prog 37 #[s.val] w
    fun e w' => e = .returned (.iface 51 s.val) ∧ Below w.heap.size w w' := by
  obtain ⟨t, l, m, d, p⟩ := s
  unfold Shp.val
  dsimp only at h ⊢
  go_enter Tryd.func37, Tryd.ntmps37
  go_wp2
  go_returns
  exact ⟨rfl, below_alloc _⟩
theorem task_heavy (s : Shp) (w : World) (h : s.d < s.t) : Calls Tryd.prog 37 #[s.val] w
    fun e w' => e = .returned (.iface 53 s.val) ∧ Below w.heap.size w w' := by
  obtain ⟨t, l, m, d, p⟩ := s
  unfold Shp.val
  dsimp only at h ⊢
  go_enter Tryd.func37, Tryd.ntmps37
  go_wp2
  go_returns
  exact ⟨rfl, below_alloc _⟩
theorem told_fields : (Tryd.prog.fieldsOf 46).toList.map (fun f => (f.name, f.type, f.offset)) = [("cores", 3, 0), ("fault", 24, 1)] := by kernel_rfl
theorem told_part (x y : Int) (W : World) : (part 3 #[.int .i64 x, .int .i64 y] 0).run Tryd.prog W = .ok (.int .i64 x) W ∧ (part 24 #[.int .i64 x, .int .i64 y] 1).run Tryd.prog W = .ok (.int .i64 y) W := ⟨by kernel_rfl, by kernel_rfl⟩
theorem told_eq (x y u v : Int) (W : World) : (Op.equalIn 10000 46 (.agg #[.int .i64 x, .int .i64 y]) (.agg #[.int .i64 u, .int .i64 v])).run Tryd.prog W = .ok (x == u && y == v) W := by
  have hf := told_fields
  rw [run_equalIn_agg (d := 9999) W 46 _ _ (by kernel_rfl) (by kernel_rfl)]
  generalize (Tryd.prog.fieldsOf 46).toList = fs at hf
  match fs, hf with
  | [], hf => simp at hf
  | [_], hf => simp at hf
  | _ :: _ :: _ :: _, hf => simp at hf
  | [f, g], hf =>
    simp only [List.map_cons, List.map_nil, List.cons.injEq, Prod.mk.injEq, and_true] at hf
    obtain ⟨⟨n1, t1, o1⟩, n2, t2, o2⟩ := hf
    have e1 := fun a b W => run_equalIn_int (P := Tryd.prog) W 9998 3 .i64 .i64 a b Tryd.underlying3
    have e2 := fun a b W => run_equalIn_int (P := Tryd.prog) W 9998 24 .i64 .i64 a b Tryd.underlying24
    have p1 := fun a b W => (told_part a b W).1
    have p2 := fun a b W => (told_part a b W).2
    simp only [Op.eqFields, n1, n2, t1, t2, o1, o2]
    by_cases h1 : x = u
    · subst h1
      by_cases h2 : y = v
      · simp [p1, p2, e1, e2, h2]
      · simp [p1, p2, e1, e2, h2]
    · simp [p1, p2, e1, e2, h1]
theorem told_neq (x y u v : Int) (W : World) : (binOp .neq 46 (toldV x y) (toldV u v)).run Tryd.prog W = .ok (.bool (!(x == u && y == v))) W := by
  unfold toldV
  rw [run_neq_struct, told_eq]
  rfl
theorem told_guard (o1 o2 : Operand) (x y u v : Int) (W : World) : (eqGuard .neq 46 o1 o2 (toldV x y) (toldV u v)).run Tryd.prog W = .ok () W := by
  unfold toldV
  exact run_eqGuard_agg W .neq _ o1 o2 _ _ (by kernel_rfl)
/-- What a heavy task tells is never what a light one does. -/
theorem coresH_ways {s : Shp} (h : s.Ok) (hd : s.d < s.t) : (coresH s = 0 ∧ faultH s = 141) ∨ (coresH s = 0 ∧ faultH s = 142) ∨ (∃ n, coresH s = n ∧ faultH s = 0 ∧ 2 ≤ n ∧ n ≤ 8) := by
  unfold coresH faultH
  by_cases hl : s.d ≤ s.l
  · rw [if_pos hl, if_pos hl]; exact .inl ⟨rfl, rfl⟩
  · have := many_spec h hd (by omega)
    rw [if_neg hl, if_neg hl]
    by_cases h8 : 8 < manyS s
    · rw [if_pos h8, if_pos h8]; exact .inr (.inl ⟨rfl, rfl⟩)
    · rw [if_neg h8, if_neg h8]; exact .inr (.inr ⟨_, rfl, rfl, by omega, by omega⟩)
theorem shp_cells {w W : World} {s : Shp} {L : List (TypeId × List Value)} (B : Rwk w ((34, [.int .i64 s.t, .int .i64 s.l, .int .i64 s.m, .int .i64 s.d, .int .i64 s.p]) :: L) W) :
    (W.cell? ⟨w.heap.size, 0, none⟩ = some (.int .i64 s.t) ∧ W.cell? ⟨w.heap.size, 1, none⟩ = some (.int .i64 s.l)) ∧ W.cell? ⟨w.heap.size, 2, none⟩ = some (.int .i64 s.m) ∧ W.cell? ⟨w.heap.size, 3, none⟩ = some (.int .i64 s.d) ∧ W.cell? ⟨w.heap.size, 4, none⟩ = some (.int .i64 s.p) :=
  ⟨⟨B.cell 0 0 rfl rfl, B.cell 0 1 rfl rfl⟩, B.cell 0 2 rfl rfl, B.cell 0 3 rfl rfl, B.cell 0 4 rfl rfl⟩
set_option maxRecDepth 100000 in
set_option maxHeartbeats 16000000 in
theorem cheavy_any (s : Shp) (w : World) (hT : DTab w) : Calls Tryd.prog 27 #[s.val] w
    fun e w' => e = .returned (.bool (heavyS s)) ∧ Below w.heap.size w w' := by
  have TT := Lib.hid (fun W (b : Below w.heap.size w W) => (ccheck_any s W (hT.via b)))
  clear hT
  by_cases hs : s.Ok
  · rw [chkS_ok hs] at TT
    by_cases hd : s.d < s.t
    · have e0 : heavyS s = true := decide_eq_true ⟨hs, hd⟩
      have K1 := Lib.hid (fun W => task_heavy s W hd)
      have K2 := Lib.hid (fun W => heavy_any s W hs hd)
      have K3 := Lib.hid (fun W => light_any s W)
      have hw := coresH_ways hs hd
      rw [e0]
      obtain ⟨x, hx⟩ : ∃ x, x = coresH s := ⟨_, rfl⟩
      obtain ⟨y, hy⟩ : ∃ x, x = faultH s := ⟨_, rfl⟩
      rw [← hx, ← hy] at hw K2
      have hxy : ¬ (x = 1 ∧ y = 0) := by
        rcases hw with ⟨rfl, rfl⟩ | ⟨rfl, rfl⟩ | ⟨n, rfl, rfl, h2, -⟩ <;> omega
      have NE : ∀ W, (binOp .neq 46 (toldV x y) (toldV 1 0)).run Tryd.prog W = .ok (.bool true) W := fun W => by
        have h1 : (!(x == 1 && y == 0)) = true := by
          by_cases q : x = 1
          · have q2 : ¬ y = 0 := fun h => hxy ⟨q, h⟩
            simp [q2]
          · simp [q]
        rw [told_neq, h1]
      have NG : ∀ W o1 o2, (eqGuard .neq 46 o1 o2 (toldV x y) (toldV 1 0)).run Tryd.prog W = .ok () W := fun W o1 o2 => told_guard o1 o2 x y 1 0 W
      clear hw hx hy e0 hs hd hxy
      have B := Lib.hid (Rwk.start w [(34, [.int .i64 s.t, .int .i64 s.l, .int .i64 s.m, .int .i64 s.d, .int .i64 s.p])])
      obtain ⟨t, l, m, d, p⟩ := s
      unfold Shp.val at TT K1 K2 K3 ⊢
      dsimp only at TT K1 K2 K3 B ⊢
      go_enter Tryd.func27, Tryd.ntmps27
      go_wp2_with fail
      refine (TT.out _ B.out.bel).mono ?_
      rintro e w1 ⟨rfl, b⟩
      have B := Lib.hid (B.out.next b)
      clear b
      obtain ⟨⟨c0, c1⟩, c2, c3, c4⟩ := shp_cells (s := ⟨t, l, m, d, p⟩) B.out
      dsimp only at c0 c1 c2 c3 c4
      go_wp2_with fail
      have B := Lib.hid (B.out.next ((Below.refl _ _).drew))
      go_region_with (first
        | (go_at_call 37; refine (K1.out _).mono ?_; rintro e w2 ⟨rfl, b⟩; have B := Lib.hid (B.out.next b); clear b; obtain ⟨⟨c0, c1⟩, c2, c3, c4⟩ := shp_cells (s := ⟨t, l, m, d, p⟩) B.out; dsimp only at c0 c1 c2 c3 c4)
        | (go_at_call 64; refine (K2.out _).mono ?_; rintro e w2 ⟨rfl, b⟩; have B := Lib.hid (B.out.next b); clear b; obtain ⟨⟨c0, c1⟩, c2, c3, c4⟩ := shp_cells (s := ⟨t, l, m, d, p⟩) B.out; dsimp only at c0 c1 c2 c3 c4)
        | (go_at_call 38; refine (K3.out _).mono ?_; rintro e w2 ⟨rfl, b⟩; have B := Lib.hid (B.out.next b); clear b; obtain ⟨⟨c0, c1⟩, c2, c3, c4⟩ := shp_cells (s := ⟨t, l, m, d, p⟩) B.out; dsimp only at c0 c1 c2 c3 c4))
      all_goals
        go_wp2
        go_ret
        exact ⟨rfl, B.out.bel⟩
    · have e0 : heavyS s = false := decide_eq_false fun q => hd q.2
      have K1 := Lib.hid (fun W => task_light s W (by omega))
      have K3 := Lib.hid (fun W => light_any s W)
      rw [e0]
      have NE : ∀ W, (binOp .neq 46 (toldV 1 0) (toldV 1 0)).run Tryd.prog W = .ok (.bool false) W := fun W => by
        rw [told_neq]; rfl
      have NG : ∀ W o1 o2, (eqGuard .neq 46 o1 o2 (toldV 1 0) (toldV 1 0)).run Tryd.prog W = .ok () W := fun W o1 o2 => told_guard o1 o2 1 0 1 0 W
      clear e0 hs hd
      have B := Lib.hid (Rwk.start w [(34, [.int .i64 s.t, .int .i64 s.l, .int .i64 s.m, .int .i64 s.d, .int .i64 s.p])])
      obtain ⟨t, l, m, d, p⟩ := s
      unfold Shp.val at TT K1 K3 ⊢
      dsimp only at TT K1 K3 B ⊢
      go_enter Tryd.func27, Tryd.ntmps27
      go_wp2_with fail
      refine (TT.out _ B.out.bel).mono ?_
      rintro e w1 ⟨rfl, b⟩
      have B := Lib.hid (B.out.next b)
      clear b
      obtain ⟨⟨c0, c1⟩, c2, c3, c4⟩ := shp_cells (s := ⟨t, l, m, d, p⟩) B.out
      dsimp only at c0 c1 c2 c3 c4
      go_wp2_with fail
      have B := Lib.hid (B.out.next ((Below.refl _ _).drew))
      go_region_with (first
        | (go_at_call 37; refine (K1.out _).mono ?_; rintro e w2 ⟨rfl, b⟩; have B := Lib.hid (B.out.next b); clear b; obtain ⟨⟨c0, c1⟩, c2, c3, c4⟩ := shp_cells (s := ⟨t, l, m, d, p⟩) B.out; dsimp only at c0 c1 c2 c3 c4)
        | (go_at_call 38; refine (K3.out _).mono ?_; rintro e w2 ⟨rfl, b⟩; have B := Lib.hid (B.out.next b); clear b; obtain ⟨⟨c0, c1⟩, c2, c3, c4⟩ := shp_cells (s := ⟨t, l, m, d, p⟩) B.out; dsimp only at c0 c1 c2 c3 c4))
      all_goals
        go_wp2
        go_ret
        exact ⟨rfl, B.out.bel⟩
  · rw [chkS_no hs] at TT
    have e0 : heavyS s = false := decide_eq_false fun q => hs q.1
    rw [e0]
    clear e0 hs
    have B := Lib.hid (Rwk.start w [(34, [.int .i64 s.t, .int .i64 s.l, .int .i64 s.m, .int .i64 s.d, .int .i64 s.p])])
    obtain ⟨t, l, m, d, p⟩ := s
    unfold Shp.val at TT ⊢
    dsimp only at TT B ⊢
    go_enter Tryd.func27, Tryd.ntmps27
    go_wp2_with fail
    refine (TT.out _ B.out.bel).mono ?_
    rintro e w1 ⟨rfl, b⟩
    have B := Lib.hid (B.out.next b)
    clear b
    go_wp2
    go_ret
    exact ⟨rfl, B.out.bel⟩
end Go.Proofs.YtohgdeddepfanaaDoor
