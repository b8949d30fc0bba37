/- The contracts of taskOf, Heavy, Cores, Bound, in the seat YtngdbbligebcbaaDoor.
   The contracts of edf's functions, in the seat YtngdbbligebcbaaDoor.
   The contract of trefoilref01.Two in the seat YtngdbbligebcbaaDoor.
   The contracts of trefoilref14.Check, Cores and Bound, in the seat YtngdbbligebcbaaDoor (printed by class/mk_ref.py).
   A region that draws its order, whose operations read nothing of the memory and whose callees leave what lies below a block as it was (they may make memory): one walk, in the order of the text.
   The contracts of trefoilref15's functions, in the seat YtngdbbligebcbaaDoor.
   The contracts of edf.Fits, trefoilref15.Horizon and Fits, and of the law's Own, in the seat YtngdbbligebcbaaDoor.
   No statement is proved here. -/
import Derived.Test.YtngdbbligebcbaaDoorZM3
import Derived.Deep.RegionWith
import Derived.Laws.StructEq
import Derived.Test.YtngdbbligebcbaaDoorZM2
import Derived.Test.YtngdbbligebcbaaDoorChecked
import Derived.Test.YtngdbbligebcbaaDoorZM1
import Derived.KernelRfl
import Derived.WalkKit
import Derived.WalkSmall
import Derived.Handy
import Derived.Lib.Hide
import Derived.Below
import Derived.BigQuiet
import Derived.Deep.QuietTactic
set_option linter.unusedSimpArgs false
set_option linter.unusedVariables false
set_option linter.unusedSimpArgs false
namespace Go.Proofs.YtngdbbligebcbaaDoor
open Go Go.RowKit

theorem task_light (s : Shp) (w : World) (h : s.t ≤ s.d) : Calls Tryd.prog 43 #[s.val] w
    fun e w' => e = .returned (.iface 61 s.val) ∧ Below w.heap.size w w' := by
  obtain ⟨t, l, m, d, p⟩ := s
  unfold Shp.val
  dsimp only at h ⊢
  go_enter Tryd.func43, Tryd.ntmps43
  go_wp2
  go_returns
  exact ⟨rfl, below_alloc _⟩
theorem task_heavy (s : Shp) (w : World) (h : s.d < s.t) : Calls Tryd.prog 43 #[s.val] w
    fun e w' => e = .returned (.iface 69 s.val) ∧ Below w.heap.size w w' := by
  obtain ⟨t, l, m, d, p⟩ := s
  unfold Shp.val
  dsimp only at h ⊢
  go_enter Tryd.func43, Tryd.ntmps43
  go_wp2
  go_returns
  exact ⟨rfl, below_alloc _⟩
theorem told_fields : (Tryd.prog.fieldsOf 56).toList.map (fun f => (f.name, f.type, f.offset)) = [("cores", 3, 0), ("fault", 25, 1)] := by kernel_rfl
theorem told_part (x y : Int) (W : World) : (part 3 #[.int .i64 x, .int .i64 y] 0).run Tryd.prog W = .ok (.int .i64 x) W ∧ (part 25 #[.int .i64 x, .int .i64 y] 1).run Tryd.prog W = .ok (.int .i64 y) W := ⟨by kernel_rfl, by kernel_rfl⟩
theorem told_eq (x y u v : Int) (W : World) : (Op.equalIn 10000 56 (.agg #[.int .i64 x, .int .i64 y]) (.agg #[.int .i64 u, .int .i64 v])).run Tryd.prog W = .ok (x == u && y == v) W := by
  have hf := told_fields
  rw [run_equalIn_agg (d := 9999) W 56 _ _ (by kernel_rfl) (by kernel_rfl)]
  generalize (Tryd.prog.fieldsOf 56).toList = fs at hf
  match fs, hf with
  | [], hf => simp at hf
  | [_], hf => simp at hf
  | _ :: _ :: _ :: _, hf => simp at hf
  | [f, g], hf =>
    simp only [List.map_cons, List.map_nil, List.cons.injEq, Prod.mk.injEq, and_true] at hf
    obtain ⟨⟨n1, t1, o1⟩, n2, t2, o2⟩ := hf
    have e1 := fun a b W => run_equalIn_int (P := Tryd.prog) W 9998 3 .i64 .i64 a b Tryd.underlying3
    have e2 := fun a b W => run_equalIn_int (P := Tryd.prog) W 9998 25 .i64 .i64 a b Tryd.underlying25
    have p1 := fun a b W => (told_part a b W).1
    have p2 := fun a b W => (told_part a b W).2
    simp only [Op.eqFields, n1, n2, t1, t2, o1, o2]
    by_cases h1 : x = u
    · subst h1
      by_cases h2 : y = v
      · simp [p1, p2, e1, e2, h2]
      · simp [p1, p2, e1, e2, h2]
    · simp [p1, p2, e1, e2, h1]
theorem told_neq (x y u v : Int) (W : World) : (binOp .neq 56 (toldV x y) (toldV u v)).run Tryd.prog W = .ok (.bool (!(x == u && y == v))) W := by
  unfold toldV
  rw [run_neq_struct, told_eq]
  rfl
theorem told_guard (o1 o2 : Operand) (x y u v : Int) (W : World) : (eqGuard .neq 56 o1 o2 (toldV x y) (toldV u v)).run Tryd.prog W = .ok () W := by
  unfold toldV
  exact run_eqGuard_agg W .neq _ o1 o2 _ _ (by kernel_rfl)
/-- What a heavy task tells is never what a light one does. -/
theorem coresH_ways {s : Shp} (h : s.Ok) (hd : s.d < s.t) : (coresH s = 0 ∧ faultH s = 141) ∨ (coresH s = 0 ∧ faultH s = 142) ∨ (∃ n, coresH s = n ∧ faultH s = 0 ∧ 2 ≤ n ∧ n ≤ 8) := by
  unfold coresH faultH
  by_cases hl : s.d ≤ s.l
  · rw [if_pos hl, if_pos hl]; exact .inl ⟨rfl, rfl⟩
  · have := many_spec h hd (by omega)
    rw [if_neg hl, if_neg hl]
    by_cases h8 : 8 < manyS s
    · rw [if_pos h8, if_pos h8]; exact .inr (.inl ⟨rfl, rfl⟩)
    · rw [if_neg h8, if_neg h8]; exact .inr (.inr ⟨_, rfl, rfl, by omega, by omega⟩)
theorem shp_cells {w W : World} {s : Shp} {L : List (TypeId × List Value)} (B : Rwk w ((38, [.int .i64 s.t, .int .i64 s.l, .int .i64 s.m, .int .i64 s.d, .int .i64 s.p]) :: L) W) :
    (W.cell? ⟨w.heap.size, 0, none⟩ = some (.int .i64 s.t) ∧ W.cell? ⟨w.heap.size, 1, none⟩ = some (.int .i64 s.l)) ∧ W.cell? ⟨w.heap.size, 2, none⟩ = some (.int .i64 s.m) ∧ W.cell? ⟨w.heap.size, 3, none⟩ = some (.int .i64 s.d) ∧ W.cell? ⟨w.heap.size, 4, none⟩ = some (.int .i64 s.p) :=
  ⟨⟨B.cell 0 0 rfl rfl, B.cell 0 1 rfl rfl⟩, B.cell 0 2 rfl rfl, B.cell 0 3 rfl rfl, B.cell 0 4 rfl rfl⟩
set_option maxRecDepth 100000 in
set_option maxHeartbeats 16000000 in
theorem cheavy_any (s : Shp) (w : World) (hT : DTab w) : Calls Tryd.prog 28 #[s.val] w
    fun e w' => e = .returned (.bool (heavyS s)) ∧ Below w.heap.size w w' := by
  have TT := Lib.hid (fun W (b : Below w.heap.size w W) => (clcheck_any s W (hT.via b)))
  clear hT
  by_cases hs : s.Ok
  · rw [chkS_ok hs] at TT
    by_cases hd : s.d < s.t
    · have e0 : heavyS s = true := decide_eq_true ⟨hs, hd⟩
      have K1 := Lib.hid (fun W => task_heavy s W hd)
      have K2 := Lib.hid (fun W => heavy_any s W hs hd)
      have K3 := Lib.hid (fun W => light_any s W)
      have hw := coresH_ways hs hd
      rw [e0]
      obtain ⟨x, hx⟩ : ∃ x, x = coresH s := ⟨_, rfl⟩
      obtain ⟨y, hy⟩ : ∃ x, x = faultH s := ⟨_, rfl⟩
      rw [← hx, ← hy] at hw K2
      have hxy : ¬ (x = 1 ∧ y = 0) := by
        rcases hw with ⟨rfl, rfl⟩ | ⟨rfl, rfl⟩ | ⟨n, rfl, rfl, h2, -⟩ <;> omega
      have NE : ∀ W, (binOp .neq 56 (toldV x y) (toldV 1 0)).run Tryd.prog W = .ok (.bool true) W := fun W => by
        have h1 : (!(x == 1 && y == 0)) = true := by
          by_cases q : x = 1
          · have q2 : ¬ y = 0 := fun h => hxy ⟨q, h⟩
            simp [q2]
          · simp [q]
        rw [told_neq, h1]
      have NG : ∀ W o1 o2, (eqGuard .neq 56 o1 o2 (toldV x y) (toldV 1 0)).run Tryd.prog W = .ok () W := fun W o1 o2 => told_guard o1 o2 x y 1 0 W
      clear hw hx hy e0 hs hd hxy
      have B := Lib.hid (Rwk.start w [(38, [.int .i64 s.t, .int .i64 s.l, .int .i64 s.m, .int .i64 s.d, .int .i64 s.p])])
      obtain ⟨t, l, m, d, p⟩ := s
      unfold Shp.val at TT K1 K2 K3 ⊢
      dsimp only at TT K1 K2 K3 B ⊢
      go_enter Tryd.func28, Tryd.ntmps28
      go_wp2_with fail
      refine (TT.out _ B.out.bel).mono ?_
      rintro e w1 ⟨rfl, b⟩
      have B := Lib.hid (B.out.next b)
      clear b
      obtain ⟨⟨c0, c1⟩, c2, c3, c4⟩ := shp_cells (s := ⟨t, l, m, d, p⟩) B.out
      dsimp only at c0 c1 c2 c3 c4
      go_wp2_with fail
      have B := Lib.hid (B.out.next ((Below.refl _ _).drew))
      go_region_with (first
        | (go_at_call 43; refine (K1.out _).mono ?_; rintro e w2 ⟨rfl, b⟩; have B := Lib.hid (B.out.next b); clear b; obtain ⟨⟨c0, c1⟩, c2, c3, c4⟩ := shp_cells (s := ⟨t, l, m, d, p⟩) B.out; dsimp only at c0 c1 c2 c3 c4)
        | (go_at_call 79; refine (K2.out _).mono ?_; rintro e w2 ⟨rfl, b⟩; have B := Lib.hid (B.out.next b); clear b; obtain ⟨⟨c0, c1⟩, c2, c3, c4⟩ := shp_cells (s := ⟨t, l, m, d, p⟩) B.out; dsimp only at c0 c1 c2 c3 c4)
        | (go_at_call 44; refine (K3.out _).mono ?_; rintro e w2 ⟨rfl, b⟩; have B := Lib.hid (B.out.next b); clear b; obtain ⟨⟨c0, c1⟩, c2, c3, c4⟩ := shp_cells (s := ⟨t, l, m, d, p⟩) B.out; dsimp only at c0 c1 c2 c3 c4))
      all_goals
        go_wp2
        go_ret
        exact ⟨rfl, B.out.bel⟩
    · have e0 : heavyS s = false := decide_eq_false fun q => hd q.2
      have K1 := Lib.hid (fun W => task_light s W (by omega))
      have K3 := Lib.hid (fun W => light_any s W)
      rw [e0]
      have NE : ∀ W, (binOp .neq 56 (toldV 1 0) (toldV 1 0)).run Tryd.prog W = .ok (.bool false) W := fun W => by
        rw [told_neq]; rfl
      have NG : ∀ W o1 o2, (eqGuard .neq 56 o1 o2 (toldV 1 0) (toldV 1 0)).run Tryd.prog W = .ok () W := fun W o1 o2 => told_guard o1 o2 1 0 1 0 W
      clear e0 hs hd
      have B := Lib.hid (Rwk.start w [(38, [.int .i64 s.t, .int .i64 s.l, .int .i64 s.m, .int .i64 s.d, .int .i64 s.p])])
      obtain ⟨t, l, m, d, p⟩ := s
      unfold Shp.val at TT K1 K3 ⊢
      dsimp only at TT K1 K3 B ⊢
      go_enter Tryd.func28, Tryd.ntmps28
      go_wp2_with fail
      refine (TT.out _ B.out.bel).mono ?_
      rintro e w1 ⟨rfl, b⟩
      have B := Lib.hid (B.out.next b)
      clear b
      obtain ⟨⟨c0, c1⟩, c2, c3, c4⟩ := shp_cells (s := ⟨t, l, m, d, p⟩) B.out
      dsimp only at c0 c1 c2 c3 c4
      go_wp2_with fail
      have B := Lib.hid (B.out.next ((Below.refl _ _).drew))
      go_region_with (first
        | (go_at_call 43; refine (K1.out _).mono ?_; rintro e w2 ⟨rfl, b⟩; have B := Lib.hid (B.out.next b); clear b; obtain ⟨⟨c0, c1⟩, c2, c3, c4⟩ := shp_cells (s := ⟨t, l, m, d, p⟩) B.out; dsimp only at c0 c1 c2 c3 c4)
        | (go_at_call 44; refine (K3.out _).mono ?_; rintro e w2 ⟨rfl, b⟩; have B := Lib.hid (B.out.next b); clear b; obtain ⟨⟨c0, c1⟩, c2, c3, c4⟩ := shp_cells (s := ⟨t, l, m, d, p⟩) B.out; dsimp only at c0 c1 c2 c3 c4))
      all_goals
        go_wp2
        go_ret
        exact ⟨rfl, B.out.bel⟩
  · rw [chkS_no hs] at TT
    have e0 : heavyS s = false := decide_eq_false fun q => hs q.1
    rw [e0]
    clear e0 hs
    have B := Lib.hid (Rwk.start w [(38, [.int .i64 s.t, .int .i64 s.l, .int .i64 s.m, .int .i64 s.d, .int .i64 s.p])])
    obtain ⟨t, l, m, d, p⟩ := s
    unfold Shp.val at TT ⊢
    dsimp only at TT B ⊢
    go_enter Tryd.func28, Tryd.ntmps28
    go_wp2_with fail
    refine (TT.out _ B.out.bel).mono ?_
    rintro e w1 ⟨rfl, b⟩
    have B := Lib.hid (B.out.next b)
    clear b
    go_wp2
    go_ret
    exact ⟨rfl, B.out.bel⟩
end Go.Proofs.YtngdbbligebcbaaDoor
set_option linter.unusedVariables false
set_option linter.unusedSimpArgs false
namespace Go.Proofs.YtngdbbligebcbaaDoor
open Go Go.RowKit

theorem tdiv_pos {a b : Int} (ha : 0 ≤ a) : a.tdiv b = a / b := Int.tdiv_eq_ediv_of_nonneg ha
set_option maxHeartbeats 2000000 in
theorem demand1_any (s : Shp) (t : Int) (q : Nat) (w : World) (hs : LightS s) (h0 : 0 ≤ t) (h1 : t ≤ 1099511631872) (hc : w.cell? ⟨q, 0, none⟩ = some (.int .i64 t)) :
    Calls Tryd.prog 38 #[s.val, .pointer (some ⟨q, 0, none⟩)] w fun e w' => e = .returned (.int .i64 (dem1 t s)) ∧ Below w.heap.size w w' := by
  have hq := World.block_lt_of_cell? _ _ hc
  have hle := dem1_le hs h0
  obtain ⟨n1, n2, n3, n4, n5, n6, n7⟩ := hs.nums
  by_cases hd : t < s.d
  · rw [dem1_low hd]
    obtain ⟨st, sl, sm, sd, sp⟩ := s
    unfold Shp.val
    dsimp only at hd n1 n2 n3 n4 n5 n6 n7 ⊢
    clear hs hle
    go_enter Tryd.func38, Tryd.ntmps38
    go_wp2
    go_ret
    exact ⟨rfl, below_alloc _⟩
  · rw [dem1_high hd] at hle ⊢
    obtain ⟨z, hz⟩ : ∃ z, z = (t - s.d) / s.p := ⟨_, rfl⟩
    have z0 : 0 ≤ z := by rw [hz]; exact Int.ediv_nonneg (by omega) (by omega)
    have z1 : z ≤ t - s.d := by rw [hz]; exact Int.ediv_le_self _ (by omega)
    have hz2 : (t - s.d).tdiv s.p = z := by rw [tdiv_pos (by omega), hz]
    rw [← hz] at hle ⊢
    obtain ⟨y, hy⟩ : ∃ y, y = s.t * (1 + z) := ⟨_, rfl⟩
    rw [← hy] at hle ⊢
    have hy2 : s.t * (1 + z) = y := hy.symm
    obtain ⟨y0, y1, -⟩ := hle
    obtain ⟨st, sl, sm, sd, sp⟩ := s
    unfold Shp.val
    dsimp only at hd n1 n2 n3 n4 n5 n6 n7 z1 hz2 hy2 ⊢
    have hsp : sp ≠ 0 := by omega
    have hsp2 : ¬ sp = 0 := by omega
    have hsp3 : (sp == 0) = false := by simpa using hsp2
    clear hs hz hy
    go_enter Tryd.func38, Tryd.ntmps38
    go_wp2_with fail
    go_quiet (fail)
    go_wp2
    go_ret
    exact ⟨rfl, below_drewN (below_alloc _) _⟩
set_option maxHeartbeats 2000000 in
theorem block1_any (s : Shp) (t : Int) (q : Nat) (w : World) (hc : w.cell? ⟨q, 0, none⟩ = some (.int .i64 t)) :
    Calls Tryd.prog 39 #[s.val, .pointer (some ⟨q, 0, none⟩)] w fun e w' => e = .returned (.int .i64 (blk1 t s)) ∧ Below w.heap.size w w' := by
  have hq := World.block_lt_of_cell? _ _ hc
  unfold blk1
  obtain ⟨st, sl, sm, sd, sp⟩ := s
  unfold Shp.val
  dsimp only
  by_cases hd : sd ≤ t
  · rw [if_pos hd]
    go_enter Tryd.func39, Tryd.ntmps39
    go_wp2
    go_ret
    exact ⟨rfl, below_alloc _⟩
  · rw [if_neg hd]
    go_enter Tryd.func39, Tryd.ntmps39
    go_wp2
    go_ret
    exact ⟨rfl, below_alloc _⟩
theorem horizon1_any (s : Shp) (w : World) :
    Calls Tryd.prog 36 #[s.val] w fun e w' => e = .returned (.int .i64 s.p) ∧ Below w.heap.size w w' := by
  obtain ⟨st, sl, sm, sd, sp⟩ := s
  unfold Shp.val
  dsimp only
  go_enter Tryd.func36, Tryd.ntmps36
  go_wp2
  go_ret
  exact ⟨rfl, below_alloc _⟩
set_option maxHeartbeats 2000000 in
theorem check1_any (s : Shp) (w : World) (hT : DTab w) :
    Calls Tryd.prog 26 #[s.val] w fun e w' => e = .returned (.bool (!decide (LightS s))) ∧ Below w.heap.size w w' := by
  have K1 := Lib.hid (fun W (b : Below w.heap.size w W) => clcheck_any s W (hT.via b))
  have K2 := Lib.hid (fun W (b : Below w.heap.size w W) => cheavy_any s W (hT.via b))
  have B := Lib.hid (Rwk.start w [(38, [.int .i64 s.t, .int .i64 s.l, .int .i64 s.m, .int .i64 s.d, .int .i64 s.p])])
  clear hT
  by_cases hs : s.Ok
  · rw [chkS_ok hs] at K1
    obtain ⟨r, hr⟩ : ∃ r, r = heavyS s := ⟨_, rfl⟩
    have he : (!decide (LightS s)) = r := by
      rw [hr]
      unfold heavyS LightS
      by_cases hd : s.d < s.t
      · rw [decide_eq_true (⟨hs, hd⟩ : s.Ok ∧ s.d < s.t), decide_eq_false (fun q : s.Ok ∧ s.t ≤ s.d => by omega)]; rfl
      · rw [decide_eq_false (fun q : s.Ok ∧ s.d < s.t => hd q.2), decide_eq_true (⟨hs, by omega⟩ : s.Ok ∧ s.t ≤ s.d)]; rfl
    rw [he]
    rw [← hr] at K2
    clear he hr hs
    obtain ⟨st, sl, sm, sd, sp⟩ := s
    unfold Shp.val at K1 K2 ⊢
    dsimp only at K1 K2 B ⊢
    go_enter Tryd.func26, Tryd.ntmps26
    go_wp2_with fail
    refine (K1.out _ B.out.bel).mono ?_
    rintro e w1 ⟨rfl, b⟩
    have B := Lib.hid (B.out.next b)
    clear b
    obtain ⟨⟨c0, c1⟩, c2, c3, c4⟩ := shp_cells (s := ⟨st, sl, sm, sd, sp⟩) B.out
    dsimp only at c0 c1 c2 c3 c4
    go_wp2_with fail
    refine (K2.out _ B.out.bel).mono ?_
    rintro e w2 ⟨rfl, b⟩
    have B := Lib.hid (B.out.next b)
    clear b c0 c1 c2 c3 c4
    go_wp2
    go_ret
    exact ⟨rfl, B.out.bel⟩
  · rw [chkS_no hs] at K1
    have he : (!decide (LightS s)) = true := by rw [decide_eq_false (fun q : LightS s => hs q.1)]; rfl
    rw [he]
    clear he hs K2
    obtain ⟨st, sl, sm, sd, sp⟩ := s
    unfold Shp.val at K1 ⊢
    dsimp only at K1 B ⊢
    go_enter Tryd.func26, Tryd.ntmps26
    go_wp2_with fail
    refine (K1.out _ B.out.bel).mono ?_
    rintro e w1 ⟨rfl, b⟩
    have B := Lib.hid (B.out.next b)
    clear b
    go_wp2
    go_ret
    exact ⟨rfl, B.out.bel⟩
section
variable {A : Option Addr} {n c : Nat} {es : List Shp}
set_option maxHeartbeats 4000000 in
theorem echeck_any (w : World) (hT : DTab w) (hn : es.length = n) (hl : n ≤ 1000) (hS : Shps w w.heap.size A es) :
    Calls Tryd.prog 15 #[.slice A n c] w fun e w' => e = .returned (.int .i64 (chkE es)) ∧ Below w.heap.size w w' := by
  by_cases h8 : n ≤ 8
  · obtain ⟨r, hr⟩ : ∃ r : Bool, r = !decide (MayE es) := ⟨_, rfl⟩
    have C := Lib.hid (fun W (b : Below w.heap.size w W) => has_shape A c n es 26 #[] (eg_of Tryd.func26 (by kernel_rfl) rfl) (fun s => !decide (LightS s)) W hn hl (hS.via b)
      (fun s W' _ b' => check1_any s W' ((hT.via b).via b')) r (by
        rw [hr]
        unfold MayE
        constructor
        · intro h
          have h2 : ¬ (es.length ≤ 8 ∧ ∀ s ∈ es, LightS s) := by
            have h' : decide (es.length ≤ 8 ∧ ∀ s ∈ es, LightS s) = false := by simpa only [Bool.not_eq_true'] using h
            exact of_decide_eq_false h'
          have h3 : ¬ ∀ s ∈ es, LightS s := fun q => h2 ⟨by omega, q⟩
          rw [Classical.not_forall] at h3
          obtain ⟨s, h3⟩ := h3
          rw [Classical.not_imp] at h3
          exact ⟨s, h3.1, by simp [h3.2]⟩
        · rintro ⟨s, hs, h⟩
          have h' : ¬ LightS s := by simpa using h
          have : ¬ (es.length ≤ 8 ∧ ∀ s ∈ es, LightS s) := fun q => h' (q.2 s hs)
          rw [decide_eq_false this]; rfl))
    have he : chkE es = if r then 150 else 0 := by
      rw [hr]
      unfold chkE
      by_cases hm : MayE es
      · simp [hm]
      · simp [hm]
    rw [he]
    have C := Lib.hid (C.out w (Below.refl _ _))
    clear hS hT hr he hn hl
    cases r with
    | true =>
      simp only [if_true] at C ⊢
      go_enter Tryd.func15, Tryd.ntmps15
      go_wp2_with fail
      refine C.out.mono ?_
      rintro e w1 ⟨rfl, b⟩
      have B := Lib.hid b
      clear b
      go_wp2
      go_ret
      exact ⟨rfl, B.out⟩
    | false =>
      go_enter Tryd.func15, Tryd.ntmps15
      go_wp2_with fail
      refine C.out.mono ?_
      rintro e w1 ⟨rfl, b⟩
      have B := Lib.hid b
      clear b
      go_wp2
      go_ret
      exact ⟨rfl, B.out⟩
  · rw [chkE_no fun q => by have := q.1; omega]
    clear hS hT
    go_enter Tryd.func15, Tryd.ntmps15
    go_wp2
    go_ret
    exact ⟨rfl, Below.refl _ _⟩
theorem sum_dem {es : List Shp} {t : Int} (hM : MayE es) (h0 : 0 ≤ t) (h1 : t ≤ 1099511631872) : ∀ k, -4611686018427387904 ≤ sumE (dem1 t) (es.take k) ∧ sumE (dem1 t) (es.take k) ≤ 4611686018427387904 := fun k => by
  have := demE_le (hM.take k) h0
  unfold demE at this
  omega
set_option maxHeartbeats 4000000 in
theorem edem_any (t : Int) (w : World) (hn : es.length = n) (hS : Shps w w.heap.size A es) (hM : MayE es) (h0 : 0 ≤ t) (h1 : t ≤ 1099511631872) :
    Calls Tryd.prog 22 #[.slice A n c, .int .i64 t] w fun e w' => e = .returned (.int .i64 (demE es t)) ∧ Below w.heap.size w w' := by
  obtain ⟨w1, hw1⟩ : ∃ w1, w1 = w.alloc (.cells #[.int .i64 t] 3) := ⟨_, rfl⟩
  have b1 : Below w.heap.size w w1 := by rw [hw1]; exact below_alloc _
  have hc : w1.cell? ⟨w.heap.size, 0, none⟩ = some (.int .i64 t) := by rw [hw1]; exact (RowV.new w 3 [.int .i64 t]).cell (j := 0) rfl
  have hq : w.heap.size < w1.heap.size := by rw [hw1]; simp
  have C := Lib.hid (esum_any A c n es 38 #[.pointer (some ⟨w.heap.size, 0, none⟩)] (eg_of Tryd.func38 (by kernel_rfl) rfl) (dem1 t) w1 hn (by have := hM.1; omega) (hS.via b1)
    (fun s W hs b => demand1_any s t _ W (hM.2 s hs) h0 h1 ((b.cell hq).trans hc)) (sum_dem hM h0 h1))
  have B := Lib.hid b1
  unfold demE
  rw [hw1] at C
  have HW := Lib.hid hw1
  clear hS hM hc hq b1 hw1 hn
  go_enter Tryd.func22, Tryd.ntmps22
  go_wp2_with fail
  refine C.out.mono ?_
  rintro e w2 ⟨rfl, b⟩
  rw [← HW.out] at b
  have B2 := Lib.hid (B.out.trans (b.mono B.out.size))
  clear b
  go_wp2
  go_ret
  exact ⟨rfl, B2.out⟩
set_option maxHeartbeats 4000000 in
theorem eblk_any (t : Int) (w : World) (hn : es.length = n) (hl : n ≤ 1000) (hS : Shps w w.heap.size A es) :
    Calls Tryd.prog 23 #[.slice A n c, .int .i64 t] w fun e w' => e = .returned (.int .i64 (blkE es t)) ∧ Below w.heap.size w w' := by
  obtain ⟨w1, hw1⟩ : ∃ w1, w1 = w.alloc (.cells #[.int .i64 t] 3) := ⟨_, rfl⟩
  have b1 : Below w.heap.size w w1 := by rw [hw1]; exact below_alloc _
  have hc : w1.cell? ⟨w.heap.size, 0, none⟩ = some (.int .i64 t) := by rw [hw1]; exact (RowV.new w 3 [.int .i64 t]).cell (j := 0) rfl
  have hq : w.heap.size < w1.heap.size := by rw [hw1]; simp
  have C := Lib.hid (egreat_any A c n es 39 #[.pointer (some ⟨w.heap.size, 0, none⟩)] (eg_of Tryd.func39 (by kernel_rfl) rfl) (blk1 t) w1 hn hl (hS.via b1)
    (fun s W hs b => block1_any s t _ W ((b.cell hq).trans hc)))
  have B := Lib.hid b1
  unfold blkE
  rw [hw1] at C
  have HW := Lib.hid hw1
  clear hS hc hq b1 hw1 hn
  go_enter Tryd.func23, Tryd.ntmps23
  go_wp2_with fail
  refine C.out.mono ?_
  rintro e w2 ⟨rfl, b⟩
  rw [← HW.out] at b
  have B2 := Lib.hid (B.out.trans (b.mono B.out.size))
  clear b
  go_wp2
  go_ret
  exact ⟨rfl, B2.out⟩
set_option maxHeartbeats 4000000 in
theorem ehor_any (w : World) (hT : DTab w) (hn : es.length = n) (hl : n ≤ 1000) (hS : Shps w w.heap.size A es) :
    Calls Tryd.prog 21 #[.slice A n c] w fun e w' => e = .returned (.int .i64 (horE es)) ∧ Below w.heap.size w w' := by
  have K := Lib.hid (echeck_any (c := c) w hT hn hl hS)
  unfold horE
  by_cases hM : MayE es
  · rw [if_pos hM]
    rw [chkE_ok hM] at K
    have C := Lib.hid (fun W (b : Below w.heap.size w W) => egreat_any A c n es 36 #[] (eg_of Tryd.func36 (by kernel_rfl) rfl) Shp.p W hn hl (hS.via b) (fun s W' _ _ => horizon1_any s W'))
    clear hS hT hn hl hM
    go_enter Tryd.func21, Tryd.ntmps21
    go_wp2_with fail
    refine K.out.mono ?_
    rintro e w1 ⟨rfl, b⟩
    have B := Lib.hid b
    clear b
    go_wp2_with fail
    refine (C.out _ B.out).mono ?_
    rintro e w2 ⟨rfl, b⟩
    have B := Lib.hid (B.out.trans (b.mono B.out.size))
    clear b
    go_wp2
    go_ret
    exact ⟨rfl, B.out⟩
  · rw [if_neg hM]
    rw [chkE_no hM] at K
    clear hS hT hn hl hM
    go_enter Tryd.func21, Tryd.ntmps21
    go_wp2_with fail
    refine K.out.mono ?_
    rintro e w1 ⟨rfl, b⟩
    have B := Lib.hid b
    clear b
    go_wp2
    go_ret
    exact ⟨rfl, B.out⟩
/-- Check's error, or that of a time. -/
def atE (es : List Shp) (t : Int) : Int := if MayE es then (if t < 0 ∨ 1099511627775 < t then 151 else 0) else 150
theorem atE_ok {es : List Shp} {t : Int} (h : atE es t = 0) : MayE es ∧ 0 ≤ t ∧ t ≤ 1099511627775 := by
  unfold atE at h
  split at h
  · split at h
    · exact absurd h (by decide)
    · exact ⟨by assumption, by omega, by omega⟩
  · exact absurd h (by decide)
theorem atE_may {es : List Shp} {t : Int} (h : MayE es) (h0 : 0 ≤ t) (h1 : t ≤ 1099511627775) : atE es t = 0 := by
  unfold atE
  rw [if_pos h, if_neg (by omega)]
/-- What Demand and Block tell. -/
def demV (es : List Shp) (t : Int) : Int := if atE es t = 0 then demE es t else 0
def blkV (es : List Shp) (t : Int) : Int := if atE es t = 0 then blkE es t else 0
end
end Go.Proofs.YtngdbbligebcbaaDoor
set_option linter.unusedVariables false
namespace Go.Proofs.YtngdbbligebcbaaDoor
open Go.RowKit

end Go.Proofs.YtngdbbligebcbaaDoor
set_option linter.unusedVariables false
set_option linter.unusedSimpArgs false
namespace Go.Proofs.YtngdbbligebcbaaDoor
open Go Go.RowKit

/-- Counted up, or by the quotient: the same. -/
theorem many_step {s : Shp} (h : s.Ok) (hd : s.d < s.t) (hl : s.l < s.d) (n : Int) : s.t - s.l ≤ n * (s.d - s.l) ↔ manyS s ≤ n := by
  obtain ⟨h2, h3, h4⟩ := many_spec h hd hl
  obtain ⟨b, hb⟩ : ∃ b, b = s.d - s.l := ⟨_, rfl⟩
  have hb0 : 0 < b := by omega
  rw [← hb] at h3 h4 ⊢
  constructor
  · intro q
    have q2 : (manyS s - 1) * b < n * b := by omega
    have := Int.lt_of_mul_lt_mul_right q2 (by omega)
    omega
  · intro q
    have := Int.mul_le_mul_of_nonneg_right q (by omega : 0 ≤ b)
    omega
/-- The sum that Bound divides. -/
theorem rbound_sum {s : Shp} (h : s.Ok) {m : Int} (h1 : 1 ≤ m) (h8 : m ≤ 8) : 0 ≤ (m - 1) * s.l ∧ (m - 1) * s.l ≤ 28672 := by
  obtain ⟨⟨t0, t1⟩, ⟨l0, l1⟩, -⟩ := h
  have : m = 1 ∨ m = 2 ∨ m = 3 ∨ m = 4 ∨ m = 5 ∨ m = 6 ∨ m = 7 ∨ m = 8 := by omega
  rcases this with rfl | rfl | rfl | rfl | rfl | rfl | rfl | rfl <;> constructor <;> omega
end Go.Proofs.YtngdbbligebcbaaDoor
namespace Go.Proofs.YtngdbbligebcbaaDoor
open Go.RowKit

/-- A world in which nothing below the block B has turned. -/
structure Near (B : Nat) (w : World) where
  W : World
  h : Below B w W
instance (B : Nat) (w : World) : Nonempty (Near B w) := ⟨⟨w, Below.refl _ _⟩⟩
theorem wp_region_near {P : Program} (B : Nat) {id : Nat} {Q : Exit → Act → World → Prop} {a : Act} {w : World} {l : List Oper} (hm : P.follows .mixedOrders = true) (hB : Region.lexB .any l.toArray = true)
    (_ : B ≤ w.heap.size)
    (h : wpQuiet P l.toArray (fun W => ∃ x : Near B w, W = x.W) (fun a' => ∀ W, Below B w W → Q .normal a' W) l a) : (Code.region id l.toArray true).wp P Q a w := by
  refine wp_region_quiet (C := fun W => ∃ x : Near B w, W = x.W) hm hB ⟨⟨_, ?_⟩, rfl⟩ ?_
  · exact below_drewN (Below.refl B w) 1
  · have e : (fun a' => ∀ W, Below B w W → Q Exit.normal a' W) = (fun a' => ∀ W, (∃ x : Near B w, W = x.W) → Q Exit.normal a' W) := by
      funext a'
      apply propext
      constructor
      · rintro k W ⟨x, rfl⟩
        exact k _ x.h
      · intro k W hW
        exact k W ⟨⟨W, hW⟩, rfl⟩
    rw [e] at h
    simpa using h
theorem near_of {P : Program} {f : FuncId} {args : Array Value} {B : Nat} {w : World} {x : Near B w} {v : Value}
    (h : Calls P f args x.W fun e w' => e = .returned v ∧ Below x.W.heap.size x.W w') (hb : B ≤ w.heap.size) : Calls P f args x.W fun e w'' => e = .returned v ∧ ∃ y : Near B w, w'' = y.W :=
  h.mono fun _ w' ⟨he, hm⟩ => ⟨he, ⟨w', x.h.trans (hm.mono (Nat.le_trans hb x.h.size))⟩, rfl⟩
theorem near_same {P : Program} {f : FuncId} {args : Array Value} {B : Nat} {w : World} {x : Near B w} {v : Value}
    (h : Calls P f args x.W fun e w' => e = .returned v ∧ x.W = w') : Calls P f args x.W fun e w'' => e = .returned v ∧ ∃ y : Near B w, w'' = y.W :=
  h.mono fun _ _ ⟨he, hm⟩ => ⟨he, x, hm.symm⟩
end Go.Proofs.YtngdbbligebcbaaDoor
set_option linter.unusedVariables false
set_option linter.unusedSimpArgs false
namespace Go.Proofs.YtngdbbligebcbaaDoor
open Go Go.RowKit

section
variable {A : Option Addr} {n c : Nat} {es : List Shp}
theorem may_iff {es : List Shp} : (decide (MayE es)) = (es.all (fun s => decide (LightS s)) && decide (es.length ≤ 8)) := by
  unfold MayE
  by_cases h : es.length ≤ 8
  · by_cases k : ∀ s ∈ es, LightS s
    · rw [decide_eq_true (⟨h, k⟩ : es.length ≤ 8 ∧ ∀ s ∈ es, LightS s), decide_eq_true h, List.all_eq_true.mpr (fun s hs => decide_eq_true (k s hs))]
      rfl
    · have e : es.all (fun s => decide (LightS s)) = false := by
        rw [← Bool.not_eq_true, List.all_eq_true]
        exact fun q => k fun s hs => of_decide_eq_true (q s hs)
      rw [decide_eq_false (fun q : es.length ≤ 8 ∧ ∀ s ∈ es, LightS s => k q.2), e]
      rfl
  · rw [decide_eq_false (fun q : es.length ≤ 8 ∧ ∀ s ∈ es, LightS s => h q.1), decide_eq_false h, Bool.and_false]
end
end Go.Proofs.YtngdbbligebcbaaDoor
set_option linter.unusedVariables false
set_option linter.unusedSimpArgs false
namespace Go.Proofs.YtngdbbligebcbaaDoor
open Go Go.RowKit

theorem fit_iff {es : List Shp} (hM : MayE es) : FitE es ↔ ∀ u, 1 ≤ u → u < horE es + 1 → AtE es u := ⟨fun h u a b => h.2 u a (by omega), fun h => ⟨hM, fun t a b => h t a (by omega)⟩⟩
section
variable {A : Option Addr} {n c : Nat} {es : List Shp}
set_option maxRecDepth 100000 in
set_option maxHeartbeats 8000000 in
theorem efits_any (r : Bool) (hr : r = true ↔ FitE es) (w : World) (hT : DTab w) (hn : es.length = n) (hl : n ≤ 1000) (hS : Shps w w.heap.size A es) :
    Calls Tryd.prog 12 #[.slice A n c] w fun e w' => e = .returned (.bool r) ∧ Below w.heap.size w w' := by
  have K := Lib.hid (echeck_any (c := c) w hT hn hl hS)
  by_cases hM : MayE es
  · have KH := Lib.hid (fun W (b : Below w.heap.size w W) => ehor_any (c := c) W (hT.via b) hn hl (hS.via b))
    have KD := Lib.hid (fun t h0 h1 W (b : Below w.heap.size w W) => edem_any (c := c) t W hn (hS.via b) hM h0 h1)
    have KB := Lib.hid (fun t W (b : Below w.heap.size w W) => eblk_any (c := c) t W hn hl (hS.via b))
    have DB := Lib.hid (fun t (h0 : 0 ≤ t) => demE_le hM (t := t) h0)
    have BB := Lib.hid (fun t => blkE_le hM (t := t))
    have HR := Lib.hid (hr.trans (fit_iff hM))
    have hh := hor_le (L := es)
    obtain ⟨H, hH⟩ : ∃ H, H = horE es := ⟨_, rfl⟩
    rw [chkE_ok hM] at K
    rw [← hH] at KH HR hh
    obtain ⟨h0, h1⟩ := hh
    clear hS hT hn hl hM hH hr
    go_enter Tryd.func12, Tryd.ntmps12
    go_wp2_with fail
    refine K.out.mono ?_
    rintro e w1 ⟨rfl, b⟩
    have B := Lib.hid b
    clear b
    go_wp2_with fail
    refine (KH.out _ B.out).mono ?_
    rintro e w2 ⟨rfl, b⟩
    have B := Lib.hid (B.out.trans (b.mono B.out.size))
    clear b
    go_wp2_with fail
    go_loopw [4] (fun v wr => ∃ t : Int, 1 ≤ t ∧ t ≤ H + 1 ∧ v = .int .i64 t ∧ Hid (Below w.heap.size w wr) ∧ Hid (∀ u, 1 ≤ u → u < t → AtE es u)) (fun v _ => (H + 1 - intOf v).toNat)
    case atStart => exact ⟨1, by omega, by omega, rfl, B, Lib.hid (fun u a b => by omega)⟩
    case round =>
      obtain ⟨t, t0, t1, rfl, HI, HA⟩ := hrel
      by_cases hlt : t ≤ H
      · obtain ⟨d, hd⟩ : ∃ d, d = demE es t := ⟨_, rfl⟩
        obtain ⟨b, hb⟩ : ∃ b, b = blkE es t := ⟨_, rfl⟩
        have K1 := Lib.hid (KD.out t (by omega) (by omega) wr HI.out)
        have K2 := Lib.hid (fun W b => KB.out t W b)
        have D1 := DB.out t (by omega)
        have B1 := BB.out t
        have HAT : Hid (AtE es t ↔ (d = 0 ∨ d + b ≤ t)) := Lib.hid (by unfold AtE; rw [← hd, ← hb])
        have HRF := Lib.hid (fun (h : ¬ AtE es t) => (show r = false by
          rw [← Bool.not_eq_true]
          exact fun q => h (HR.out.mp q t t0 (by omega))))
        have HNX := Lib.hid (fun (h : AtE es t) => (show ∀ u, 1 ≤ u → u < t + 1 → AtE es u from fun u a q => by
          by_cases e : u = t
          · rw [e]; exact h
          · exact HA.out u a (by omega)))
        rw [← hd] at K1 D1
        rw [← hb] at K2 B1
        obtain ⟨d0, d1⟩ := D1
        obtain ⟨b0, b1⟩ := B1
        clear hd hb
        by_cases hz : d = 0
        · have HN2 := Lib.hid (HNX.out (HAT.out.mpr (.inl hz)))
          have hz2 : (d == 0) = true := by simpa using hz
          subst hz
          go_wp2_with fail
          refine K1.out.mono ?_
          rintro e w3 ⟨rfl, b⟩
          have HI := Lib.hid (HI.out.trans (b.mono HI.out.size))
          clear b
          go_wp2
          go_roundw
          case rel => exact ⟨t + 1, by omega, by omega, by go_num, HI, HN2⟩
          case measure => simp [intOf]; omega
        · have hz2 : (d == 0) = false := by simpa using hz
          by_cases hg : d + b ≤ t
          · have HN2 := Lib.hid (HNX.out (HAT.out.mpr (.inr hg)))
            go_wp2_with fail
            refine K1.out.mono ?_
            rintro e w3 ⟨rfl, b⟩
            have HI := Lib.hid (HI.out.trans (b.mono HI.out.size))
            clear b
            go_wp2_with fail
            refine (K2.out _ HI.out).mono ?_
            rintro e w4 ⟨rfl, b⟩
            have HI := Lib.hid (HI.out.trans (b.mono HI.out.size))
            clear b
            go_wp2
            go_roundw
            case rel => exact ⟨t + 1, by omega, by omega, by go_num, HI, HN2⟩
            case measure => simp [intOf]; omega
          · obtain rfl : r = false := HRF.out fun q => by rcases HAT.out.mp q with h | h <;> omega
            go_wp2_with fail
            refine K1.out.mono ?_
            rintro e w3 ⟨rfl, b⟩
            have HI := Lib.hid (HI.out.trans (b.mono HI.out.size))
            clear b
            go_wp2_with fail
            refine (K2.out _ HI.out).mono ?_
            rintro e w4 ⟨rfl, b⟩
            have HI := Lib.hid (HI.out.trans (b.mono HI.out.size))
            clear b
            go_wp2
            go_ret
            exact ⟨rfl, HI.out⟩
      · obtain rfl : r = true := HR.out.mpr fun u a q => HA.out u a (by omega)
        go_wp2
        go_ret
        exact ⟨rfl, HI.out⟩
  · obtain rfl : r = false := by
      rw [← Bool.not_eq_true]
      exact fun q => hM (hr.mp q).1
    rw [chkE_no hM] at K
    clear hS hT hn hl hM hr
    go_enter Tryd.func12, Tryd.ntmps12
    go_wp2_with fail
    refine K.out.mono ?_
    rintro e w1 ⟨rfl, b⟩
    have B := Lib.hid b
    clear b
    go_wp2
    go_ret
    exact ⟨rfl, B.out⟩
set_option maxHeartbeats 4000000 in
theorem own15_any (w : World) (hn : es.length = n) (hl : n ≤ 1000) (hS : Shps w w.heap.size A es) (hA : A = none → n = 0 ∧ c = 0) :
    Calls Tryd.prog 11 #[.slice A n c] w (GotShps es w) := by
  have b0 : Below w.heap.size w (w.alloc (.cells #[] 38)) := below_alloc _
  obtain ⟨A1, c1, w', hr, ho, hb⟩ := fresh_shps (w := w.alloc (.cells #[] 38)) (base := w.heap.size) ⟨w.heap.size, rfl, heap_alloc_new w _, Nat.le_refl _⟩ (by simp) (c := c) hn hl (hS.via b0) hA
  have HO := Lib.hid ho
  have HB := Lib.hid (b0.trans (hb.mono b0.size))
  unfold GotShps
  rw [hn]
  clear hS hA ho hb b0 hn
  go_enter Tryd.func11, Tryd.ntmps11
  go_wp2_with (at_builtin; refine wpList_append_plainS rfl _ _ 22 _ _ rfl rfl rfl hr ?_)
  go_ret
  exact ⟨A1, c1, rfl, HO.out, HB.out⟩
theorem own15n (w : World) (hn : es.length = n) (hl : n ≤ 1000) (hS : Shps w w.heap.size A es) (hA : A = none → n = 0 ∧ c = 0) :
    Calls Tryd.prog 11 #[.slice A n c] w fun e w' => ∃ A1 c1, e = .returned (.slice A1 n c1) ∧ OwnS w' w.heap.size (.slice A1 n c1) es ∧ Below w.heap.size w w' := by
  have h := own15_any (c := c) w hn hl hS hA
  unfold GotShps at h
  rw [hn] at h
  exact h
end
theorem fitB (es : List Shp) : ∃ r : Bool, r = true ↔ FitE es := by
  by_cases h : FitE es
  · exact ⟨true, fun _ => h, fun _ => rfl⟩
  · exact ⟨false, fun q => Bool.noConfusion q, fun q => absurd q h⟩
end Go.Proofs.YtngdbbligebcbaaDoor
