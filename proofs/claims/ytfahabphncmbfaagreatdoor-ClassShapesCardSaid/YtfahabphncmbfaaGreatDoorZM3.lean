/- Words for memory in the seat YtfahabphncmbfaaGreatDoor: blocks that a call makes one behind the other (DequeMem's Rws under another name, for seats without deques).
   The contracts of (light).tell, (heavy).tell and taskOf, in the seat YtfahabphncmbfaaGreatDoor.
   The contracts of taskOf, Heavy, Cores, Bound, in the seat YtfahabphncmbfaaGreatDoor.
   The contract of slices.Max of a list of numbers that isn't empty, in the seat YtfahabphncmbfaaGreatDoor.
   A region that draws its order, by an invariant: what holds whichever operations have come up.
   A region that draws its order, whose operations read or make new blocks (one of them may let one row grow), and whose last operation waits for all: by facts on what each has yielded.
   No statement is proved here. -/
import Derived.Test.YtfahabphncmbfaaGreatDoorZM1
import Derived.Test.YtfahabphncmbfaaGreatDoorZM2
import Derived.Laws.ResultCell
import Derived.Deep.RegionWith
import Derived.Laws.StructEq
import Derived.Test.YtfahabphncmbfaaGreatDoorChecked
import Derived.Lib.Hide
import Derived.WalkKit
import Derived.WalkSmall
import Derived.Handy
import Derived.Orders
import Derived.KernelRfl
import Derived.Below
import Derived.Laws.AppendOwn
set_option linter.unusedSimpArgs false
set_option linter.unusedVariables false
namespace Go.Proofs.YtfahabphncmbfaaGreatDoor
open Go Go.RowKit

/-- Rows that a call made one behind the other, over the world where it began. -/
structure Rwk (w0 : World) (L : List (TypeId × List Value)) (w : World) : Prop where
  bel : Below w0.heap.size w0 w
  row : ∀ (i : Nat) (t : TypeId) (vs : List Value), L[i]? = some (t, vs) → RowV (w0.heap.size + i) t vs w
def allocsK (w : World) : List (TypeId × List Value) → World
  | [] => w
  | (t, vs) :: L => allocsK (w.alloc (.cells vs.toArray t)) L
theorem allocsK_snoc (t : TypeId) (vs : List Value) : ∀ (L : List (TypeId × List Value)) (w : World), allocsK w (L ++ [(t, vs)]) = (allocsK w L).alloc (.cells vs.toArray t)
  | [], w => rfl
  | (t', vs') :: L, w => allocsK_snoc t vs L _
theorem allocsK_size : ∀ (L : List (TypeId × List Value)) (w : World), (allocsK w L).heap.size = w.heap.size + L.length
  | [], w => rfl
  | (t, vs) :: L, w => by
    show (allocsK (w.alloc _) L).heap.size = _
    rw [allocsK_size L]
    simp
    omega
theorem Rwk.next {w0 w w' : World} {L : List (TypeId × List Value)} (h : Rwk w0 L w) (hb : Below w.heap.size w w') : Rwk w0 L w' := by
  refine ⟨h.bel.trans (hb.mono h.bel.size), fun i t vs hi => ?_⟩
  have := h.row i t vs hi
  exact this.below hb this.lt
theorem Rwk.start (w : World) (L : List (TypeId × List Value)) : Rwk w L (allocsK w L) := by
  obtain ⟨k, hk⟩ : ∃ k, k = L.length := ⟨_, rfl⟩
  induction k generalizing L with
  | zero =>
    obtain rfl : L = [] := List.eq_nil_of_length_eq_zero hk.symm
    exact ⟨Below.refl _ _, fun i t vs hi => by simp at hi⟩
  | succ k ih =>
    obtain ⟨L', x, rfl⟩ : ∃ L' x, L = L' ++ [x] := ⟨L.dropLast, L.getLast (by intro h; subst h; simp at hk), (List.dropLast_concat_getLast _).symm⟩
    obtain ⟨t, vs⟩ := x
    have h := ih L' (by simp at hk; omega)
    rw [allocsK_snoc]
    have h2 := h.next (below_alloc (.cells vs.toArray t))
    refine ⟨h2.bel, fun i t' vs' hi => ?_⟩
    rcases Nat.lt_or_ge i L'.length with hl | hl
    · rw [List.getElem?_append_left hl] at hi
      exact h2.row i t' vs' hi
    · rw [List.getElem?_append_right hl] at hi
      have h0 : i - L'.length = 0 := by
        rcases Nat.eq_zero_or_pos (i - L'.length) with e | e
        · exact e
        · rw [List.getElem?_eq_none (by simp; omega)] at hi; cases hi
      rw [h0] at hi
      injection hi with hi
      injection hi with e1 e2
      subst e1 e2
      have e3 : w.heap.size + i = (allocsK w L').heap.size := by rw [allocsK_size]; omega
      rw [e3]
      exact RowV.new _ _ _
theorem Rwk.cell {w0 w : World} {L : List (TypeId × List Value)} (h : Rwk w0 L w) (i j : Nat) {t : TypeId} {vs : List Value} {v : Value} (hi : L[i]? = some (t, vs)) (hj : vs[j]? = some v) : w.cell? ⟨w0.heap.size + i, j, none⟩ = some v := (h.row i t vs hi).cell hj
theorem Rwk.frozen {w0 w : World} {L : List (TypeId × List Value)} (h : Rwk w0 L w) (i j : Nat) {t : TypeId} {vs : List Value} (hi : L[i]? = some (t, vs)) : w.frozen? ⟨w0.heap.size + i, j, none⟩ = false := (h.row i t vs hi).frozen j
theorem Rwk.set {w0 w : World} {L : List (TypeId × List Value)} (h : Rwk w0 L w) (i j : Nat) {t : TypeId} {vs : List Value} (hi : L[i]? = some (t, vs)) (v : Value) : Rwk w0 (L.set i (t, vs.set j v)) (w.setCell ⟨w0.heap.size + i, j, none⟩ v) := by
  refine ⟨h.bel.setCell (by show w0.heap.size ≤ w0.heap.size + i; omega) v, fun k t' vs' hk => ?_⟩
  by_cases e : i = k
  · subst e
    have hl : i < L.length := (List.getElem?_eq_some_iff.mp hi).1
    rw [List.getElem?_set_self hl] at hk
    injection hk with hk
    injection hk with e1 e2
    subst e1 e2
    exact (h.row i t vs hi).set j v
  · rw [List.getElem?_set_ne e] at hk
    have := h.row k t' vs' hk
    unfold RowV at this ⊢
    rw [heap_setCell_other _ _ _ _ (by show w0.heap.size + k ≠ w0.heap.size + i; omega)]
    exact this
theorem Rwk.alloc {w0 w : World} {L : List (TypeId × List Value)} (h : Rwk w0 L w) (o : Obj) : Rwk w0 L (w.alloc o) := h.next (below_alloc o)
theorem Rwk.drew {w0 w : World} {L : List (TypeId × List Value)} (h : Rwk w0 L w) (N : Nat) : Rwk w0 L (w.drewN N) := h.next (below_drewN (Below.refl _ _) N)
theorem Rwk.set2 {w0 w : World} {L : List (TypeId × List Value)} (h : Rwk w0 L w) (i : Nat) {t : TypeId} {a b : Value} (hi : L[i]? = some (t, [a, b])) (x y : Value) :
    Rwk w0 (L.set i (t, [x, y])) ((w.setCell ⟨w0.heap.size + i, 0, none⟩ x).setCell ⟨w0.heap.size + i, 1, none⟩ y) := by
  have hl : i < L.length := (List.getElem?_eq_some_iff.mp hi).1
  have h1 := h.set i 0 hi x
  have h2 := h1.set i 1 (List.getElem?_set_self hl) y
  rw [List.set_set] at h2
  exact h2
end Go.Proofs.YtfahabphncmbfaaGreatDoor
set_option linter.unusedVariables false
set_option linter.unusedSimpArgs false
namespace Go.Proofs.YtfahabphncmbfaaGreatDoor
open Go Go.RowKit

def toldV (a b : Int) : Value := .agg #[.int .i64 a, .int .i64 b]
theorem light_any (s : Shp) (w : World) : Calls Tryz.prog 120 #[s.val] w
    fun e w' => e = .returned (toldV 1 0) ∧ Below w.heap.size w w' := by
  obtain ⟨t, l, m, d, p⟩ := s
  unfold Shp.val toldV
  dsimp only
  go_enter Tryz.func120, Tryz.ntmps120
  go_wp2
  go_returns
  refine ⟨rfl, ?_⟩
  go_grown
theorem load_told {w : World} {q : Nat} {a b : Value} (h : RowV q 126 [a, b] w) : (loadVar 126 ⟨q, 0, none⟩).run Tryz.prog w = .ok (.agg #[a, b]) w :=
  run_loadVar_row _ q _ _ _ _ _ h Tryz.underlying126 rfl (by kernel_rfl)
theorem results_cell1c {fn : Func} {p : Tmp} {ty : TypeId} (h : fn.results = #[.cell p ty]) (tmps : Array Value) (P : Program) (w : World) :
    (results fn tmps).run P w = ((asAddr (tmps.getD p undef)).run P w).andThen fun a w₁ => (loadVar ty a).run P w₁ := by
  simp only [results, h]
  simp [Sem.run_bind, Result.andThen]
theorem ret_told {fn : Func} {p : Tmp} (h : fn.results = #[.cell p 126]) {tmps : Array Value} {w : World} {q : Nat} {a b : Value} (hp : tmps.getD p undef = .pointer (some ⟨q, 0, none⟩)) (h1 : RowV q 126 [a, b] w) :
    (results fn tmps).run Tryz.prog w = .ok (.agg #[a, b]) w := by
  rw [results_cell1c h, hp]
  simp [asAddr, load_told h1, Result.andThen]
set_option maxHeartbeats 8000000 in
theorem heavy_any (s : Shp) (w : World) (hs : s.Ok) (hd : s.d < s.t) : Calls Tryz.prog 289 #[s.val] w
    fun e w' => e = .returned (toldV (coresH s) (faultH s)) ∧ Below w.heap.size w w' := by
  by_cases hl : s.d ≤ s.l
  · have e1 : coresH s = 0 := if_pos hl
    have e2 : faultH s = 141 := if_pos hl
    rw [e1, e2]
    obtain ⟨t, l, m, d, p⟩ := s
    unfold Shp.val toldV
    dsimp only at hl hd ⊢
    clear e1 e2 hs hd
    go_enter Tryz.func289, Tryz.ntmps289
    go_wp2
    go_returns
    refine ⟨rfl, ?_⟩
    go_grown
  · have hq := many_spec hs hd (by omega)
    have hb : ff [s.t - s.l, s.d - s.l] = 0 := by
      obtain ⟨⟨t0, t1⟩, ⟨l0, l1⟩, ⟨m0, m1⟩, -, d0, d1⟩ := hs
      exact ff_pair_ok (by omega) (by omega) (by omega) (by omega)
    have hb1 : ff [s.t, s.l] = 0 := by
      obtain ⟨⟨t0, t1⟩, ⟨l0, l1⟩, ⟨m0, m1⟩, -, d0, d1⟩ := hs
      exact ff_pair_ok (by omega) (by omega) (by omega) (by omega)
    have hb2 : ff [s.d, s.l] = 0 := by
      obtain ⟨⟨t0, t1⟩, ⟨l0, l1⟩, ⟨m0, m1⟩, -, d0, d1⟩ := hs
      exact ff_pair_ok (by omega) (by omega) (by omega) (by omega)
    have s1 : ∀ W, Calls Tryz.prog 290 #[.int .i64 s.t, .int .i64 s.l] W fun e w' => e = .returned (.tuple #[.int .i64 (s.t - s.l), .int .i64 (subE s.t s.l)]) ∧ Below W.heap.size W w' := fun W => by
      have := sub_any s.t s.l W
      rw [subS_fine hb1 (by omega)] at this
      exact this
    have s2 : ∀ W, Calls Tryz.prog 290 #[.int .i64 s.d, .int .i64 s.l] W fun e w' => e = .returned (.tuple #[.int .i64 (s.d - s.l), .int .i64 (subE s.d s.l)]) ∧ Below W.heap.size W w' := fun W => by
      have := sub_any s.d s.l W
      rw [subS_fine hb2 (by omega)] at this
      exact this
    have s3 : ∀ W, Calls Tryz.prog 291 #[.int .i64 (s.t - s.l), .int .i64 (s.d - s.l)] W fun e w' => e = .returned (.tuple #[.int .i64 (manyS s), .int .i64 (downE (s.t - s.l) (s.d - s.l))]) ∧ Below W.heap.size W w' := fun W => up_any _ _ W
    have e1 : coresH s = if 8 < manyS s then 0 else manyS s := if_neg hl
    have e2 : faultH s = if 8 < manyS s then 142 else 0 := if_neg hl
    obtain ⟨n, hn⟩ : ∃ n, n = manyS s := ⟨_, rfl⟩
    obtain ⟨x1, hx1⟩ : ∃ n, n = subE s.t s.l := ⟨_, rfl⟩
    obtain ⟨x2, hx2⟩ : ∃ n, n = subE s.d s.l := ⟨_, rfl⟩
    obtain ⟨x3, hx3⟩ : ∃ n, n = downE (s.t - s.l) (s.d - s.l) := ⟨_, rfl⟩
    rw [← hn] at e1 e2 s3
    rw [← hx1] at s1
    rw [← hx2] at s2
    rw [← hx3] at s3
    rw [e1, e2]
    obtain ⟨t, l, m, d, p⟩ := s
    unfold Shp.val toldV
    dsimp only at s1 s2 s3 hl hd ⊢
    obtain ⟨u, hu⟩ : ∃ u, u = t - l := ⟨_, rfl⟩
    obtain ⟨v, hv⟩ : ∃ v, v = d - l := ⟨_, rfl⟩
    rw [← hu] at s1 s3
    rw [← hv] at s2 s3
    have s1 := Lib.hid s1
    have s2 := Lib.hid s2
    have s3 := Lib.hid s3
    clear e1 e2 hs hb hb1 hb2 hx1 hx2 hx3 hu hv hq hn
    have hl : l < d := by omega
    go_enter Tryz.func289, Tryz.ntmps289
    go_wp2_with fail
    have B0 := Lib.hid (Rwk.start w [(182, [.int .i64 t, .int .i64 l, .int .i64 m, .int .i64 d, .int .i64 p]), (126, [.int .i64 0, .int .i64 0])])
    refine (s1.out _).mono ?_
    rintro e w1 ⟨rfl, b1⟩
    have B1 := Lib.hid (B0.out.next b1)
    clear b1 B0
    have c00 := B1.out.cell 0 0 rfl rfl
    have c01 := B1.out.cell 0 1 rfl rfl
    have c03 := B1.out.cell 0 3 rfl rfl
    simp only [Nat.add_zero] at c00 c01 c03
    go_wp2_with fail
    refine (s2.out _).mono ?_
    rintro e w2 ⟨rfl, b2⟩
    have B2 := Lib.hid (B1.out.next b2)
    clear b2 B1 c00 c01 c03
    go_wp2_with fail
    refine (s3.out _).mono ?_
    rintro e w3 ⟨rfl, b3⟩
    have B3 := Lib.hid (B2.out.next b3)
    clear b3 B2
    have c10 := B3.out.cell 1 0 rfl rfl
    have c11 := B3.out.cell 1 1 rfl rfl
    have z10 := B3.out.frozen 1 0 rfl
    have z11 := B3.out.frozen 1 1 rfl
    by_cases h8 : 8 < n
    · go_wp2
      have B4 := B3.out.set2 1 rfl (.int .i64 0) (.int .i64 142)
      refine bodyPost_ret (ret_told rfl rfl (B4.row 1 _ _ rfl)) rfl ?_
      exact ⟨rfl, B4.bel⟩
    · have h8' : n ≤ 8 := by omega
      go_wp2
      have B4 := B3.out.set2 1 rfl (.int .i64 n) (.int .i64 0)
      refine bodyPost_ret (ret_told rfl rfl (B4.row 1 _ _ rfl)) rfl ?_
      exact ⟨rfl, B4.bel⟩
end Go.Proofs.YtfahabphncmbfaaGreatDoor
set_option linter.unusedVariables false
set_option linter.unusedSimpArgs false
namespace Go.Proofs.YtfahabphncmbfaaGreatDoor
open Go Go.RowKit

theorem task_light (s : Shp) (w : World) (h : s.t ≤ s.d) : Calls Tryz.prog 71 #[s.val] w
    fun e w' => e = .returned (.iface 166 s.val) ∧ Below w.heap.size w w' := by
  obtain ⟨t, l, m, d, p⟩ := s
  unfold Shp.val
  dsimp only at h ⊢
  go_enter Tryz.func71, Tryz.ntmps71
  go_wp2
  go_returns
  exact ⟨rfl, below_alloc _⟩
theorem task_heavy (s : Shp) (w : World) (h : s.d < s.t) : Calls Tryz.prog 71 #[s.val] w
    fun e w' => e = .returned (.iface 182 s.val) ∧ Below w.heap.size w w' := by
  obtain ⟨t, l, m, d, p⟩ := s
  unfold Shp.val
  dsimp only at h ⊢
  go_enter Tryz.func71, Tryz.ntmps71
  go_wp2
  go_returns
  exact ⟨rfl, below_alloc _⟩
theorem told_fields : (Tryz.prog.fieldsOf 126).toList.map (fun f => (f.name, f.type, f.offset)) = [("cores", 3, 0), ("fault", 31, 1)] := by kernel_rfl
theorem told_part (x y : Int) (W : World) : (part 3 #[.int .i64 x, .int .i64 y] 0).run Tryz.prog W = .ok (.int .i64 x) W ∧ (part 31 #[.int .i64 x, .int .i64 y] 1).run Tryz.prog W = .ok (.int .i64 y) W := ⟨by kernel_rfl, by kernel_rfl⟩
theorem told_eq (x y u v : Int) (W : World) : (Op.equalIn 10000 126 (.agg #[.int .i64 x, .int .i64 y]) (.agg #[.int .i64 u, .int .i64 v])).run Tryz.prog W = .ok (x == u && y == v) W := by
  have hf := told_fields
  rw [run_equalIn_agg (d := 9999) W 126 _ _ (by kernel_rfl) (by kernel_rfl)]
  generalize (Tryz.prog.fieldsOf 126).toList = fs at hf
  match fs, hf with
  | [], hf => simp at hf
  | [_], hf => simp at hf
  | _ :: _ :: _ :: _, hf => simp at hf
  | [f, g], hf =>
    simp only [List.map_cons, List.map_nil, List.cons.injEq, Prod.mk.injEq, and_true] at hf
    obtain ⟨⟨n1, t1, o1⟩, n2, t2, o2⟩ := hf
    have e1 := fun a b W => run_equalIn_int (P := Tryz.prog) W 9998 3 .i64 .i64 a b Tryz.underlying3
    have e2 := fun a b W => run_equalIn_int (P := Tryz.prog) W 9998 31 .i64 .i64 a b Tryz.underlying31
    have p1 := fun a b W => (told_part a b W).1
    have p2 := fun a b W => (told_part a b W).2
    simp only [Op.eqFields, n1, n2, t1, t2, o1, o2]
    by_cases h1 : x = u
    · subst h1
      by_cases h2 : y = v
      · simp [p1, p2, e1, e2, h2]
      · simp [p1, p2, e1, e2, h2]
    · simp [p1, p2, e1, e2, h1]
theorem told_neq (x y u v : Int) (W : World) : (binOp .neq 126 (toldV x y) (toldV u v)).run Tryz.prog W = .ok (.bool (!(x == u && y == v))) W := by
  unfold toldV
  rw [run_neq_struct, told_eq]
  rfl
theorem told_guard (o1 o2 : Operand) (x y u v : Int) (W : World) : (eqGuard .neq 126 o1 o2 (toldV x y) (toldV u v)).run Tryz.prog W = .ok () W := by
  unfold toldV
  exact run_eqGuard_agg W .neq _ o1 o2 _ _ (by kernel_rfl)
/-- What a heavy task tells is never what a light one does. -/
theorem coresH_ways {s : Shp} (h : s.Ok) (hd : s.d < s.t) : (coresH s = 0 ∧ faultH s = 141) ∨ (coresH s = 0 ∧ faultH s = 142) ∨ (∃ n, coresH s = n ∧ faultH s = 0 ∧ 2 ≤ n ∧ n ≤ 8) := by
  unfold coresH faultH
  by_cases hl : s.d ≤ s.l
  · rw [if_pos hl, if_pos hl]; exact .inl ⟨rfl, rfl⟩
  · have := many_spec h hd (by omega)
    rw [if_neg hl, if_neg hl]
    by_cases h8 : 8 < manyS s
    · rw [if_pos h8, if_pos h8]; exact .inr (.inl ⟨rfl, rfl⟩)
    · rw [if_neg h8, if_neg h8]; exact .inr (.inr ⟨_, rfl, rfl, by omega, by omega⟩)
theorem shp_cells {w W : World} {s : Shp} {L : List (TypeId × List Value)} (B : Rwk w ((67, [.int .i64 s.t, .int .i64 s.l, .int .i64 s.m, .int .i64 s.d, .int .i64 s.p]) :: L) W) :
    (W.cell? ⟨w.heap.size, 0, none⟩ = some (.int .i64 s.t) ∧ W.cell? ⟨w.heap.size, 1, none⟩ = some (.int .i64 s.l)) ∧ W.cell? ⟨w.heap.size, 2, none⟩ = some (.int .i64 s.m) ∧ W.cell? ⟨w.heap.size, 3, none⟩ = some (.int .i64 s.d) ∧ W.cell? ⟨w.heap.size, 4, none⟩ = some (.int .i64 s.p) :=
  ⟨⟨B.cell 0 0 rfl rfl, B.cell 0 1 rfl rfl⟩, B.cell 0 2 rfl rfl, B.cell 0 3 rfl rfl, B.cell 0 4 rfl rfl⟩
set_option maxRecDepth 100000 in
set_option maxHeartbeats 16000000 in
theorem cheavy_any (s : Shp) (w : World) (hT : DTab w) : Calls Tryz.prog 62 #[s.val] w
    fun e w' => e = .returned (.bool (heavyS s)) ∧ Below w.heap.size w w' := by
  have TT := Lib.hid (fun W (b : Below w.heap.size w W) => (clcheck_any s W (hT.via b)))
  clear hT
  by_cases hs : s.Ok
  · rw [chkS_ok hs] at TT
    by_cases hd : s.d < s.t
    · have e0 : heavyS s = true := decide_eq_true ⟨hs, hd⟩
      have K1 := Lib.hid (fun W => task_heavy s W hd)
      have K2 := Lib.hid (fun W => heavy_any s W hs hd)
      have K3 := Lib.hid (fun W => light_any s W)
      have hw := coresH_ways hs hd
      rw [e0]
      obtain ⟨x, hx⟩ : ∃ x, x = coresH s := ⟨_, rfl⟩
      obtain ⟨y, hy⟩ : ∃ x, x = faultH s := ⟨_, rfl⟩
      rw [← hx, ← hy] at hw K2
      have hxy : ¬ (x = 1 ∧ y = 0) := by
        rcases hw with ⟨rfl, rfl⟩ | ⟨rfl, rfl⟩ | ⟨n, rfl, rfl, h2, -⟩ <;> omega
      have NE : ∀ W, (binOp .neq 126 (toldV x y) (toldV 1 0)).run Tryz.prog W = .ok (.bool true) W := fun W => by
        have h1 : (!(x == 1 && y == 0)) = true := by
          by_cases q : x = 1
          · have q2 : ¬ y = 0 := fun h => hxy ⟨q, h⟩
            simp [q2]
          · simp [q]
        rw [told_neq, h1]
      have NG : ∀ W o1 o2, (eqGuard .neq 126 o1 o2 (toldV x y) (toldV 1 0)).run Tryz.prog W = .ok () W := fun W o1 o2 => told_guard o1 o2 x y 1 0 W
      clear hw hx hy e0 hs hd hxy
      have B := Lib.hid (Rwk.start w [(67, [.int .i64 s.t, .int .i64 s.l, .int .i64 s.m, .int .i64 s.d, .int .i64 s.p])])
      obtain ⟨t, l, m, d, p⟩ := s
      unfold Shp.val at TT K1 K2 K3 ⊢
      dsimp only at TT K1 K2 K3 B ⊢
      go_enter Tryz.func62, Tryz.ntmps62
      go_wp2_with fail
      refine (TT.out _ B.out.bel).mono ?_
      rintro e w1 ⟨rfl, b⟩
      have B := Lib.hid (B.out.next b)
      clear b
      obtain ⟨⟨c0, c1⟩, c2, c3, c4⟩ := shp_cells (s := ⟨t, l, m, d, p⟩) B.out
      dsimp only at c0 c1 c2 c3 c4
      go_wp2_with fail
      have B := Lib.hid (B.out.next ((Below.refl _ _).drew))
      go_region_with (first
        | (go_at_call 71; refine (K1.out _).mono ?_; rintro e w2 ⟨rfl, b⟩; have B := Lib.hid (B.out.next b); clear b; obtain ⟨⟨c0, c1⟩, c2, c3, c4⟩ := shp_cells (s := ⟨t, l, m, d, p⟩) B.out; dsimp only at c0 c1 c2 c3 c4)
        | (go_at_call 289; refine (K2.out _).mono ?_; rintro e w2 ⟨rfl, b⟩; have B := Lib.hid (B.out.next b); clear b; obtain ⟨⟨c0, c1⟩, c2, c3, c4⟩ := shp_cells (s := ⟨t, l, m, d, p⟩) B.out; dsimp only at c0 c1 c2 c3 c4)
        | (go_at_call 120; refine (K3.out _).mono ?_; rintro e w2 ⟨rfl, b⟩; have B := Lib.hid (B.out.next b); clear b; obtain ⟨⟨c0, c1⟩, c2, c3, c4⟩ := shp_cells (s := ⟨t, l, m, d, p⟩) B.out; dsimp only at c0 c1 c2 c3 c4))
      all_goals
        go_wp2
        go_ret
        exact ⟨rfl, B.out.bel⟩
    · have e0 : heavyS s = false := decide_eq_false fun q => hd q.2
      have K1 := Lib.hid (fun W => task_light s W (by omega))
      have K3 := Lib.hid (fun W => light_any s W)
      rw [e0]
      have NE : ∀ W, (binOp .neq 126 (toldV 1 0) (toldV 1 0)).run Tryz.prog W = .ok (.bool false) W := fun W => by
        rw [told_neq]; rfl
      have NG : ∀ W o1 o2, (eqGuard .neq 126 o1 o2 (toldV 1 0) (toldV 1 0)).run Tryz.prog W = .ok () W := fun W o1 o2 => told_guard o1 o2 1 0 1 0 W
      clear e0 hs hd
      have B := Lib.hid (Rwk.start w [(67, [.int .i64 s.t, .int .i64 s.l, .int .i64 s.m, .int .i64 s.d, .int .i64 s.p])])
      obtain ⟨t, l, m, d, p⟩ := s
      unfold Shp.val at TT K1 K3 ⊢
      dsimp only at TT K1 K3 B ⊢
      go_enter Tryz.func62, Tryz.ntmps62
      go_wp2_with fail
      refine (TT.out _ B.out.bel).mono ?_
      rintro e w1 ⟨rfl, b⟩
      have B := Lib.hid (B.out.next b)
      clear b
      obtain ⟨⟨c0, c1⟩, c2, c3, c4⟩ := shp_cells (s := ⟨t, l, m, d, p⟩) B.out
      dsimp only at c0 c1 c2 c3 c4
      go_wp2_with fail
      have B := Lib.hid (B.out.next ((Below.refl _ _).drew))
      go_region_with (first
        | (go_at_call 71; refine (K1.out _).mono ?_; rintro e w2 ⟨rfl, b⟩; have B := Lib.hid (B.out.next b); clear b; obtain ⟨⟨c0, c1⟩, c2, c3, c4⟩ := shp_cells (s := ⟨t, l, m, d, p⟩) B.out; dsimp only at c0 c1 c2 c3 c4)
        | (go_at_call 120; refine (K3.out _).mono ?_; rintro e w2 ⟨rfl, b⟩; have B := Lib.hid (B.out.next b); clear b; obtain ⟨⟨c0, c1⟩, c2, c3, c4⟩ := shp_cells (s := ⟨t, l, m, d, p⟩) B.out; dsimp only at c0 c1 c2 c3 c4))
      all_goals
        go_wp2
        go_ret
        exact ⟨rfl, B.out.bel⟩
  · rw [chkS_no hs] at TT
    have e0 : heavyS s = false := decide_eq_false fun q => hs q.1
    rw [e0]
    clear e0 hs
    have B := Lib.hid (Rwk.start w [(67, [.int .i64 s.t, .int .i64 s.l, .int .i64 s.m, .int .i64 s.d, .int .i64 s.p])])
    obtain ⟨t, l, m, d, p⟩ := s
    unfold Shp.val at TT ⊢
    dsimp only at TT B ⊢
    go_enter Tryz.func62, Tryz.ntmps62
    go_wp2_with fail
    refine (TT.out _ B.out.bel).mono ?_
    rintro e w1 ⟨rfl, b⟩
    have B := Lib.hid (B.out.next b)
    clear b
    go_wp2
    go_ret
    exact ⟨rfl, B.out.bel⟩
end Go.Proofs.YtfahabphncmbfaaGreatDoor
set_option linter.unusedVariables false
set_option linter.unusedSimpArgs false
namespace Go.Proofs.YtfahabphncmbfaaGreatDoor
open Go Go.RowKit

def maxL : List Int → Int
  | [] => 0
  | a :: l => l.foldl max a
theorem max_take {zs : List Int} {k : Nat} {z : Int} (h0 : 1 ≤ k) (h : zs[k]? = some z) : maxL (zs.take (k + 1)) = max (maxL (zs.take k)) z := by
  rw [List.take_add_one, h]
  match zs, h with
  | a :: l, h =>
    obtain ⟨k, rfl⟩ : ∃ j, k = j + 1 := ⟨k - 1, by omega⟩
    simp [maxL, List.foldl_append]
set_option maxRecDepth 100000 in
set_option maxHeartbeats 16000000 in
theorem smax_any (A : Option Addr) (n c : Nat) (zs : List Int) (w : World) (hn : zs.length = n) (h1 : 1 ≤ n) (h4 : n ≤ 1000) (hr : ∀ z ∈ zs, 0 ≤ z ∧ z ≤ 1000000) (hI : Ints w w.heap.size A zs) :
    Calls Tryz.prog 65 #[.slice A n c] w fun e w' => e = .returned (.int .i64 (maxL zs)) ∧ w = w' := by
  obtain ⟨b0, o0, z0, hA, hb0, hz0, hc0⟩ := hI.at_ (k := 0) (by rw [hn]; omega)
  have HI := Lib.hid hI
  have HN := Lib.hid hn
  have HM := Lib.hid (show maxL (zs.take 1) = z0 by
    match zs, hz0 with
    | a :: l, h => simp at h; simp [maxL, h])
  have HR := Lib.hid hr
  have hzr := hr z0 (List.mem_of_getElem? hz0)
  subst hA
  clear hI hn hr hb0 hz0
  simp only [Nat.add_zero] at hc0
  go_enter Tryz.func65, Tryz.ntmps65
  go_wp2
  go_loop [3, 4] (fun mv i => ∃ (k : Nat) (z : Int), 1 ≤ k ∧ k ≤ n ∧ i = .int .i64 k ∧ mv = .int .i64 z ∧ 0 ≤ z ∧ z ≤ 1000000 ∧ Hid (maxL (zs.take k) = z)) (fun _ i => n - (intOf i).toNat)
  case atStart => exact ⟨1, z0, by omega, h1, rfl, rfl, hzr.1, hzr.2, HM⟩
  case round =>
    obtain ⟨k, z, k1, kn, rfl, rfl, z1, z2, HZ⟩ := hrel
    by_cases hk : k < n
    · obtain ⟨b, o, y, hA, hb, hy, hc⟩ := HI.out.at_ (k := k) (by rw [HN.out]; exact hk)
      have hyr := HR.out y (List.mem_of_getElem? hy)
      have hmx := max_take k1 hy
      rw [HZ.out] at hmx
      injection hA with hA
      injection hA with hA1 hA2
      subst hA1 hA2
      have HX := Lib.hid hmx
      clear hmx hb hy HZ
      by_cases hzy : z ≤ y
      · have hm : max z y = y := by omega
        rw [hm] at HX
        go_wp2
        go_round
        case rel => exact ⟨k + 1, y, by omega, by omega, by go_num, by simp [hm]; omega, by omega, by omega, HX⟩
        case measure => simp [intOf]; omega
      · have hm : max z y = z := by omega
        rw [hm] at HX
        go_wp2
        go_round
        case rel => exact ⟨k + 1, z, by omega, by omega, by go_num, by simp [hm]; omega, by omega, by omega, HX⟩
        case measure => simp [intOf]; omega
    · obtain rfl : k = n := by omega
      have hz := HZ.out
      rw [← HN.out, List.take_length] at hz
      go_wp2
      go_ret
      exact ⟨rfl, rfl⟩
end Go.Proofs.YtfahabphncmbfaaGreatDoor
namespace Go.Proofs.YtfahabphncmbfaaGreatDoor
open Go

section
variable {P : Program} {ops : Array Oper} {Q : Exit → Act → World → Prop}
def unlisted (l : Array Bool) : Nat := l.toList.countP (fun b => !b)
theorem countP_set : ∀ (xs : List Bool) (i : Nat), xs[i]? = some false → (xs.set i true).countP (fun b => !b) + 1 = xs.countP (fun b => !b)
  | [], i, h => by simp at h
  | x :: xs, 0, h => by
    obtain rfl : x = false := by simpa using h
    simp
  | x :: xs, i + 1, h => by
    have ih := countP_set xs i (by simpa using h)
    simp only [List.set_cons_succ, List.countP_cons]
    omega
theorem unlisted_set {l : Array Bool} {i : Nat} (h : l.getD i true = false) : unlisted (l.setIfInBounds i true) + 1 = unlisted l := by
  have hi : i < l.size := by
    rcases Nat.lt_or_ge i l.size with h1 | h1
    · exact h1
    · simp [Array.getElem?_eq_none h1] at h
  have h0 : l[i] = false := by simpa [hi] using h
  unfold unlisted
  rw [Array.toList_setIfInBounds]
  refine countP_set l.toList i ?_
  rw [Array.getElem?_toList, Array.getElem?_eq_getElem hi, h0]
theorem wpAny_inv (Inv : Array Bool → Act → World → Prop)
    (hstep : ∀ (listed : Array Bool) (a : Act) (w : World) (i : Nat), Inv listed a w → i ∈ Region.ready .any ops listed → wpOp P ops Q i (Inv (listed.setIfInBounds i true)) a w)
    (hend : ∀ (listed : Array Bool) (a : Act) (w : World), Inv listed a w → Region.ready .any ops listed = [] → Q .normal a w) :
    ∀ (fuel : Nat) (listed : Array Bool) (a : Act) (w : World), unlisted listed ≤ fuel → Inv listed a w → wpAny P .any ops Q fuel listed a w
  | 0, listed, a, w, hf, hI => by
    have hr : Region.ready .any ops listed = [] := by
      rw [List.eq_nil_iff_forall_not_mem]
      intro i hi
      have := unlisted_set (mem_ready.1 hi).1
      omega
    exact ⟨hr, hend _ _ _ hI hr⟩
  | fuel + 1, listed, a, w, hf, hI =>
    ⟨fun hr => hend _ _ _ hI hr, fun i hi => wpOp_mono (fun a' w' hI' => wpAny_inv Inv hstep hend fuel _ a' w' (by have := unlisted_set (mem_ready.1 hi).1; omega) hI') (hstep _ _ _ _ hI hi)⟩
theorem wp_region_inv {id : Nat} {a : Act} {w : World} (Inv : Array Bool → Act → World → Prop) (hm : P.follows .mixedOrders = true)
    (h0 : Inv (Array.replicate ops.size false) a { w with drawn := w.drawn + 1 })
    (hstep : ∀ (listed : Array Bool) (a : Act) (w : World) (i : Nat), Inv listed a w → i ∈ Region.ready .any ops listed → wpOp P ops Q i (Inv (listed.setIfInBounds i true)) a w)
    (hend : ∀ (listed : Array Bool) (a : Act) (w : World), Inv listed a w → Region.ready .any ops listed = [] → Q .normal a w) : (Code.region id ops true).wp P Q a w :=
  wp_region_any hm (wpAny_inv Inv hstep hend _ _ _ _ (by
    unfold unlisted
    refine Nat.le_trans List.countP_le_length ?_
    simp) h0)
/-- When none is left, all have come up (the edges lead back, from later operations to earlier ones). -/
theorem all_listed {listed : Array Bool} (hs : listed.size = ops.size) (hb : ∀ (i : Nat) (o : Oper), ops[i]? = some o → ∀ e ∈ o.after, e.on < i) (hr : Region.ready .any ops listed = []) : ∀ i, i < ops.size → listed.getD i false = true := by
  intro i
  induction i using Nat.strongRecOn with
  | _ i ih =>
    intro hi
    cases hl : listed.getD i false with
    | true => rfl
    | false =>
      have hi2 : i < listed.size := by omega
      have h1 : listed.getD i true = false := by
        simp [hi2] at hl ⊢
        exact hl
      have h2 : i ∈ Region.ready .any ops listed := mem_ready.2 ⟨h1, ops[i], Array.getElem?_eq_getElem hi, fun e he _ => by
        have h3 := hb i _ (Array.getElem?_eq_getElem hi) e he
        exact ih e.on h3 (by omega)⟩
      rw [hr] at h2
      simp at h2
def backB (ops : Array Oper) : Bool := (List.range ops.size).all fun i => match ops[i]? with
  | some o => o.after.all fun e => decide (e.on < i)
  | none => true
theorem back_of (h : backB ops = true) : ∀ (i : Nat) (o : Oper), ops[i]? = some o → ∀ e ∈ o.after, e.on < i := by
  intro i o ho e he
  have hi : i < ops.size := by
    rcases Nat.lt_or_ge i ops.size with h1 | h1
    · exact h1
    · rw [Array.getElem?_eq_none h1] at ho; cases ho
  have h1 := List.all_eq_true.1 h i (List.mem_range.2 hi)
  rw [ho] at h1
  exact of_decide_eq_true (Array.all_eq_true'.1 h1 e he)
theorem listed_set {listed : Array Bool} {i k : Nat} (h : (listed.setIfInBounds i true).getD k false = true) : k = i ∨ listed.getD k false = true := by
  by_cases hik : i = k
  · exact .inl hik.symm
  · right
    simp [Array.getElem?_setIfInBounds_ne hik] at h
    simpa using h
theorem wpOp_at {i : Nat} {o : Oper} {a : Act} {w : World} {K : Act → World → Prop} (ho : ops[i]? = some o) (hg : o.guard = none) (h : o.wp P a w K Q) : wpOp P ops Q i K a w := by
  unfold wpOp
  rw [ho]
  simp only [Region.wanted, hg, if_true]
  exact .inl h
theorem wp_append_run {o : Oper} {a : Act} {w w' : World} {K : Act → World → Prop} {s x : Operand} {t : TypeId} {vs vx v : Value} (hop : o.op = .call { callee := .builtin .append, args := #[s, x], argTypes := #[t, t] })
    (hs : a.eval s = vs) (hx : a.eval x = vx) (hr : (Builtin.append_ #[t, t] o.type #[vs, vx]).run P w = .ok v w') (hK : K (a.put o.dst v) w') : o.wp P a w K Q := by
  unfold Oper.wp
  simp [execOp, hop, resolve, invoke, builtin, hs, hx, hr, Result.andThen]
  exact hK
end
end Go.Proofs.YtfahabphncmbfaaGreatDoor
set_option linter.unusedVariables false
namespace Go.Proofs.YtfahabphncmbfaaGreatDoor
open Go Go.RowKit

section
variable {P : Program} {ops : Array Oper} {Q : Exit → Act → World → Prop}
/-- What operands read as, but for the slots ds: as at the region's door. -/
structure AtDoor (a0 : Act) (ds : List Nat) (ρ : Operand → Value) : Prop where
  const : ∀ v, ρ (.const v) = v
  tmp : ∀ t, t ∉ ds → ρ (.tmp t) = a0.eval (.tmp t)
theorem atDoor_start (a0 : Act) (ds : List Nat) : AtDoor a0 ds a0.eval := ⟨fun _ => rfl, fun _ _ => rfl⟩
theorem eval_put_same (a : Act) (d : Nat) (v : Value) (h : d < a.tmps.size) : (a.put (some d) v).eval (.tmp d) = v := by
  show (a.tmps.setIfInBounds d v).getD d undef = v
  simp [h]
theorem eval_put_other (a : Act) (d t : Nat) (v : Value) (h : t ≠ d) : (a.put (some d) v).eval (.tmp t) = a.eval (.tmp t) := by
  show (a.tmps.setIfInBounds d v).getD t undef = a.tmps.getD t undef
  simp [Array.getElem?_setIfInBounds_ne (Ne.symm h)]
theorem AtDoor.put {a0 a : Act} {ds : List Nat} (h : AtDoor a0 ds a.eval) {d : Nat} (hd : d ∈ ds) (v : Value) : AtDoor a0 ds (a.put (some d) v).eval :=
  ⟨fun _ => rfl, fun t ht => (eval_put_other a d t v (fun e => ht (e ▸ hd))).trans (h.tmp t ht)⟩
/-- What the region's text must be (all by the kernel). -/
def gatherB (ops : Array Oper) (n : Nat) (ds : List Nat) : Bool :=
  ops.size == n + 1 && ds.length == n && (ops.toList.all fun o : Oper => o.guard.isNone) && backB ops && decide ds.Nodup &&
  ((List.range n).all fun k => (match ops[k]? with | some o => o.dst == some (ds.getD k 0) | none => false)) &&
  (match ops[n]? with | some o => (List.range n).all fun k => o.after.any fun e => e.on == k && Region.binds .any e | none => false)
structure Gather (ops : Array Oper) (n : Nat) (ds : List Nat) : Prop where
  size : ops.size = n + 1
  len : ds.length = n
  guard : ∀ (k : Nat) (o : Oper), ops[k]? = some o → o.guard = none
  back : ∀ (i : Nat) (o : Oper), ops[i]? = some o → ∀ e ∈ o.after, e.on < i
  nodup : ds.Nodup
  dst : ∀ (k : Nat) (o : Oper), k < n → ops[k]? = some o → o.dst = some (ds.getD k 0)
  last : ∀ (o : Oper), ops[n]? = some o → ∀ k, k < n → ∃ e ∈ o.after, e.on = k ∧ Region.binds .any e = true
theorem gather_of {n : Nat} {ds : List Nat} (h : gatherB ops n ds = true) : Gather ops n ds := by
  unfold gatherB at h
  simp only [Bool.and_eq_true, beq_iff_eq, decide_eq_true_iff] at h
  obtain ⟨⟨⟨⟨⟨⟨h1, h2⟩, h3⟩, h4⟩, h5⟩, h6⟩, h7⟩ := h
  refine ⟨h1, h2, fun k o ho => ?_, back_of h4, h5, fun k o hk ho => ?_, fun o ho k hk => ?_⟩
  · have := List.all_eq_true.1 h3 o (by rw [Array.mem_toList_iff]; exact Array.mem_of_getElem? ho)
    exact Option.isNone_iff_eq_none.1 this
  · have := List.all_eq_true.1 h6 k (List.mem_range.2 hk)
    rw [ho] at this
    simpa using this
  · rw [ho] at h7
    have := List.all_eq_true.1 h7 k (List.mem_range.2 hk)
    obtain ⟨e, he, h8⟩ := Array.any_eq_true'.1 this
    rw [Bool.and_eq_true, beq_iff_eq] at h8
    exact ⟨e, he, h8.1, h8.2⟩
theorem ds_mem {n : Nat} {ds : List Nat} (h : Gather ops n ds) {k : Nat} (hk : k < n) : ds.getD k 0 ∈ ds := by
  have hl : k < ds.length := by rw [h.len]; exact hk
  rw [List.getD_eq_getElem?_getD, List.getElem?_eq_getElem hl]
  exact List.getElem_mem hl
theorem ds_inj {n : Nat} {ds : List Nat} (h : Gather ops n ds) {k j : Nat} (hk : k < n) (hj : j < n) (e : ds.getD k 0 = ds.getD j 0) : k = j := by
  have hl : k < ds.length := by rw [h.len]; exact hk
  have hl2 : j < ds.length := by rw [h.len]; exact hj
  rw [List.getD_eq_getElem?_getD, List.getElem?_eq_getElem hl, List.getD_eq_getElem?_getD, List.getElem?_eq_getElem hl2] at e
  exact (List.getElem_inj h.nodup).mp e
theorem getD_set_iff {l : Array Bool} {i k : Nat} (hi : i < l.size) : (l.setIfInBounds i true).getD k false = true ↔ k = i ∨ l.getD k false = true := by
  constructor
  · exact listed_set
  · rintro (rfl | h)
    · simp [hi]
    · by_cases hik : i = k
      · subst hik; simp [hi]
      · simpa [Array.getElem?_setIfInBounds_ne hik] using h
set_option maxHeartbeats 1000000 in
theorem wp_region_gather (n m : Nat) (ds : List Nat) {id : Nat} {a0 : Act} {w0 : World} (hm : P.follows .mixedOrders = true) (hG : gatherB ops n ds = true) (hsz : ∀ d ∈ ds, d < a0.tmps.size)
    (I J : World → Prop) (R : World → World → Prop) (Φ : Nat → Value → World → Prop)
    (hBR : ∀ w w', Below w.heap.size w w' → R w w') (hI : ∀ w w', I w → R w w' → I w') (hJ : ∀ w w', J w → Below w.heap.size w w' → J w')
    (hΦ : ∀ k v w w', k ≠ m → Φ k v w → R w w' → Φ k v w') (hΦm : ∀ v w w', Φ m v w → Below w.heap.size w w' → Φ m v w')
    (h0 : I { w0 with drawn := w0.drawn + 1 }) (h1 : J { w0 with drawn := w0.drawn + 1 })
    (hstep : ∀ (k : Nat) (o : Oper), k < n → ops[k]? = some o → ∀ (ρ : Operand → Value) (w : World), I w → AtDoor a0 ds ρ → (∀ e ∈ o.after, Region.binds .any e = true → Φ e.on (ρ (.tmp (ds.getD e.on 0))) w) → (k = m → J w) →
      ∃ v w', (execOp ρ o).run P w = .ok (.value v) w' ∧ Φ k v w' ∧ (if k = m then R w w' else Below w.heap.size w w'))
    (hlast : ∀ (o : Oper), ops[n]? = some o → ∀ (a : Act) (w : World), I w → AtDoor a0 ds a.eval → a.tmps.size = a0.tmps.size → a.defers = a0.defers → (∀ k, k < n → Φ k (a.eval (.tmp (ds.getD k 0))) w) →
      o.wp P a w (fun a' w' => Q .normal a' w') Q) :
    (Code.region id ops true).wp P Q a0 w0 := by
  have G := gather_of hG
  refine wp_region_inv (fun l a w => l.size = n + 1 ∧ ((l.getD n false = false ∧ I w ∧ AtDoor a0 ds a.eval ∧ a.tmps.size = a0.tmps.size ∧ a.defers = a0.defers ∧ (∀ k, k < n → l.getD k false = true → Φ k (a.eval (.tmp (ds.getD k 0))) w) ∧ (l.getD m false = false → J w)) ∨ ((∀ k, k ≤ n → l.getD k false = true) ∧ Q .normal a w))) hm ?_ ?_ ?_
  · refine ⟨by rw [Array.size_replicate]; exact G.size, .inl ⟨?_, h0, atDoor_start a0 ds, rfl, rfl, fun k hk h => ?_, fun _ => h1⟩⟩
    · by_cases h : n < ops.size <;> simp [h]
    · exfalso
      by_cases h2 : k < ops.size <;> simp [h2] at h
  · rintro l a w i ⟨hls, hV⟩ hi
    obtain ⟨hun, o, ho, hpre⟩ := mem_ready.1 hi
    have hilt : i < ops.size := (Array.getElem?_eq_some_iff.1 ho).1
    have hil : i < l.size := by rw [hls, ← G.size]; exact hilt
    rcases hV with ⟨hnl, hIw, hAD, hasz, hadf, hF, hJw⟩ | ⟨hall, _⟩
    · rcases Nat.lt_or_ge i n with hin | hin
      · obtain ⟨v, w', hrun, hphi, hrel⟩ := hstep i o hin ho a.eval w hIw hAD (fun e he hb => hF e.on (Nat.lt_trans (G.back i o ho e he) hin) (hpre e he hb)) (fun e => hJw (by
          rw [← e]
          cases h : l.getD i false with
          | false => rfl
          | true => simp [hil] at h hun; rw [h] at hun; cases hun))
        have hR : R w w' := by
          split at hrel
          · exact hrel
          · exact hBR w w' hrel
        refine wpOp_at ho (G.guard i o ho) ?_
        unfold Oper.wp
        rw [hrun, Oper.upon_value, G.dst i o hin ho]
        refine ⟨by rw [Array.size_setIfInBounds]; exact hls, .inl ⟨?_, hI w w' hIw hR, hAD.put (ds_mem G hin) v, ?_, hadf, fun k hk hkl => ?_, fun hml => ?_⟩⟩
        · cases h : (l.setIfInBounds i true).getD n false with
          | false => rfl
          | true =>
            rcases listed_set h with h2 | h2
            · omega
            · rw [hnl] at h2; cases h2
        · show (a.tmps.setIfInBounds _ _).size = _
          rw [Array.size_setIfInBounds]; exact hasz
        · by_cases hki : k = i
          · subst hki
            rw [eval_put_same _ _ _ (by rw [hasz]; exact hsz _ (ds_mem G hin))]
            exact hphi
          · rw [eval_put_other _ _ _ _ (fun e => hki (ds_inj G hk hin e))]
            have hf := hF k hk ((listed_set hkl).resolve_left hki)
            by_cases hkm : k = m
            · subst hkm
              rw [if_neg (fun e => hki e.symm)] at hrel
              exact hΦm _ _ _ hf hrel
            · exact hΦ k _ _ _ hkm hf hR
        · have hmi : i ≠ m := fun e => by
            subst e
            have h2 := (getD_set_iff (k := i) hil).mpr (.inl rfl)
            rw [hml] at h2; cases h2
          rw [if_neg hmi] at hrel
          refine hJ w w' (hJw ?_) hrel
          cases h : l.getD m false with
          | false => rfl
          | true =>
            have h2 := (getD_set_iff (k := m) hil).mpr (.inr h)
            rw [hml] at h2; cases h2
      · obtain rfl : i = n := by have := G.size; omega
        have hall : ∀ k, k < i → l.getD k false = true := fun k hk => by
          obtain ⟨e, he, h1, h2⟩ := G.last o ho k hk
          rw [← h1]
          exact hpre e he h2
        refine wpOp_at ho (G.guard i o ho) (Oper.wp_mono (fun a' w' hq => ?_) (hlast o ho a w hIw hAD hasz hadf (fun k hk => hF k hk (hall k hk))))
        refine ⟨by rw [Array.size_setIfInBounds]; exact hls, .inr ⟨fun k hk => (getD_set_iff hil).mpr ?_, hq⟩⟩
        rcases Nat.lt_or_ge k i with h | h
        · exact .inr (hall k h)
        · exact .inl (by omega)
    · exfalso
      have := hall i (by have := G.size; omega)
      simp [hil] at this hun
      rw [this] at hun
      cases hun
  · rintro l a w ⟨hls, hV⟩ hr
    have hall := all_listed (by rw [hls, G.size]) G.back hr
    rcases hV with ⟨hnl, _⟩ | ⟨_, hq⟩
    · have := hall n (by rw [G.size]; omega)
      rw [hnl] at this
      cases this
    · exact hq
/-- The frame behind: the slots ds hold what was yielded, the others what they held at the door. -/
def fillL (ds : List Nat) (vals : Nat → Value) : Nat → List Value → List Value
  | _, [] => []
  | t, x :: l => (bif ds.contains t then vals t else x) :: fillL ds vals (t + 1) l
theorem fillL_at (ds : List Nat) (vals : Nat → Value) : ∀ (l : List Value) (t i : Nat), (fillL ds vals t l)[i]? = l[i]?.map fun x => bif ds.contains (t + i) then vals (t + i) else x
  | [], t, i => by simp [fillL]
  | x :: l, t, 0 => by simp [fillL]
  | x :: l, t, i + 1 => by
    have := fillL_at ds vals l (t + 1) i
    rw [show t + 1 + i = t + (i + 1) by omega] at this
    simpa [fillL] using this
def fillA (a0 : Act) (ds : List Nat) (vals : Nat → Value) : List Value := fillL ds vals 0 a0.tmps.toList
theorem act_fill {a0 a : Act} {ds : List Nat} (h : AtDoor a0 ds a.eval) (hs : a.tmps.size = a0.tmps.size) (hd : a.defers = a0.defers) : a = ⟨(fillA a0 ds fun t => a.eval (.tmp t)).toArray, a0.defers⟩ := by
  obtain ⟨tmps, defers⟩ := a
  obtain rfl : defers = a0.defers := hd
  congr 1
  apply Array.toList_inj.mp
  apply List.ext_getElem?
  intro t
  unfold fillA
  rw [fillL_at, Nat.zero_add]
  rcases Nat.lt_or_ge t tmps.size with ht | ht
  · have ht0 : t < a0.tmps.toList.length := by simpa [← hs] using ht
    have e1 : (Act.mk tmps a0.defers).eval (.tmp t) = tmps[t] := by
      show tmps.getD t undef = _
      simp [ht]
    rw [List.getElem?_eq_getElem ht0, List.getElem?_eq_getElem (by simpa using ht)]
    simp only [Option.map_some, Array.getElem_toList, Option.some.injEq]
    cases hc : ds.contains t with
    | true => exact e1.symm
    | false =>
      have := h.tmp t (fun q => by rw [List.contains_iff_mem.mpr q] at hc; cases hc)
      rw [e1] at this
      rw [this]
      show a0.tmps.getD t undef = _
      have ht1 : t < a0.tmps.size := by simpa using ht0
      simp [ht1]
  · rw [List.getElem?_eq_none (by simpa using ht), List.getElem?_eq_none (by simpa [← hs] using ht)]
    rfl
theorem wp_region_gather' (n m : Nat) (ds : List Nat) {id : Nat} {a0 : Act} {w0 : World} (hm : P.follows .mixedOrders = true) (hG : gatherB ops n ds = true) (hsz : ∀ d ∈ ds, d < a0.tmps.size)
    (I J : World → Prop) (R : World → World → Prop) (Φ : Nat → Value → World → Prop)
    (hBR : ∀ w w', Below w.heap.size w w' → R w w') (hI : ∀ w w', I w → R w w' → I w') (hJ : ∀ w w', J w → Below w.heap.size w w' → J w')
    (hΦ : ∀ k v w w', k ≠ m → Φ k v w → R w w' → Φ k v w') (hΦm : ∀ v w w', Φ m v w → Below w.heap.size w w' → Φ m v w')
    (h0 : I { w0 with drawn := w0.drawn + 1 }) (h1 : J { w0 with drawn := w0.drawn + 1 })
    (hstep : ∀ (k : Nat) (o : Oper), k < n → ops[k]? = some o → ∀ (ρ : Operand → Value) (w : World), I w → AtDoor a0 ds ρ → (∀ e ∈ o.after, Region.binds .any e = true → Φ e.on (ρ (.tmp (ds.getD e.on 0))) w) → (k = m → J w) →
      ∃ v w', (execOp ρ o).run P w = .ok (.value v) w' ∧ Φ k v w' ∧ (if k = m then R w w' else Below w.heap.size w w'))
    (hlast : ∀ (o : Oper), ops[n]? = some o → ∀ (vals : Nat → Value) (w : World), I w → (∀ k, k < n → Φ k (vals (ds.getD k 0)) w) →
      o.wp P ⟨(fillA a0 ds vals).toArray, a0.defers⟩ w (fun a' w' => Q .normal a' w') Q) :
    (Code.region id ops true).wp P Q a0 w0 :=
  wp_region_gather n m ds hm hG hsz I J R Φ hBR hI hJ hΦ hΦm h0 h1 hstep (fun o ho a w hIw hA hs hd hF => by
    have := hlast o ho (fun t => a.eval (.tmp t)) w hIw hF
    rwa [← act_fill hA hs hd] at this)
end
end Go.Proofs.YtfahabphncmbfaaGreatDoor
