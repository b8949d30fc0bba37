/- The contracts of (light).tell, (heavy).tell and taskOf, in the seat YtohgdeddepfanaaDoor. No statement is proved here. -/
import Derived.Test.YtohgdeddepfanaaDoorClassSmall
import Derived.Test.YtohgdeddepfanaaDoorClassMem
set_option linter.unusedVariables false
set_option linter.unusedSimpArgs false
namespace Go.Proofs.YtohgdeddepfanaaDoor
open Go Go.RowKit

def toldV (a b : Int) : Value := .agg #[.int .i64 a, .int .i64 b]
theorem light_any (s : Shp) (w : World) : Calls Tryd.prog 38 #[s.val] w
    fun e w' => e = .returned (toldV 1 0) ∧ Below w.heap.size w w' := by
  obtain ⟨t, l, m, d, p⟩ := s
  unfold Shp.val toldV
  dsimp only
  go_enter Tryd.func38, Tryd.ntmps38
  go_wp2
  go_returns
  refine ⟨rfl, ?_⟩
  go_grown
theorem load_told {w : World} {q : Nat} {a b : Value} (h : RowV q 46 [a, b] w) : (loadVar 46 ⟨q, 0, none⟩).run Tryd.prog w = .ok (.agg #[a, b]) w :=
  run_loadVar_row _ q _ _ _ _ _ h Tryd.underlying46 rfl (by kernel_rfl)
theorem results_cell1 {fn : Func} {p : Tmp} {ty : TypeId} (h : fn.results = #[.cell p ty]) (tmps : Array Value) (P : Program) (w : World) :
    (results fn tmps).run P w = ((asAddr (tmps.getD p undef)).run P w).andThen fun a w₁ => (loadVar ty a).run P w₁ := by
  simp only [results, h]
  simp [Sem.run_bind, Result.andThen]
theorem ret_told {fn : Func} {p : Tmp} (h : fn.results = #[.cell p 46]) {tmps : Array Value} {w : World} {q : Nat} {a b : Value} (hp : tmps.getD p undef = .pointer (some ⟨q, 0, none⟩)) (h1 : RowV q 46 [a, b] w) :
    (results fn tmps).run Tryd.prog w = .ok (.agg #[a, b]) w := by
  rw [results_cell1 h, hp]
  simp [asAddr, load_told h1, Result.andThen]
set_option maxHeartbeats 8000000 in
theorem heavy_any (s : Shp) (w : World) (hs : s.Ok) (hd : s.d < s.t) : Calls Tryd.prog 64 #[s.val] w
    fun e w' => e = .returned (toldV (coresH s) (faultH s)) ∧ Below w.heap.size w w' := by
  by_cases hl : s.d ≤ s.l
  · have e1 : coresH s = 0 := if_pos hl
    have e2 : faultH s = 141 := if_pos hl
    rw [e1, e2]
    obtain ⟨t, l, m, d, p⟩ := s
    unfold Shp.val toldV
    dsimp only at hl hd ⊢
    clear e1 e2 hs hd
    go_enter Tryd.func64, Tryd.ntmps64
    go_wp2
    go_returns
    refine ⟨rfl, ?_⟩
    go_grown
  · have hq := many_spec hs hd (by omega)
    have hb : ff [s.t - s.l, s.d - s.l] = 0 := by
      obtain ⟨⟨t0, t1⟩, ⟨l0, l1⟩, ⟨m0, m1⟩, -, d0, d1⟩ := hs
      exact ff_pair_ok (by omega) (by omega) (by omega) (by omega)
    have hb1 : ff [s.t, s.l] = 0 := by
      obtain ⟨⟨t0, t1⟩, ⟨l0, l1⟩, ⟨m0, m1⟩, -, d0, d1⟩ := hs
      exact ff_pair_ok (by omega) (by omega) (by omega) (by omega)
    have hb2 : ff [s.d, s.l] = 0 := by
      obtain ⟨⟨t0, t1⟩, ⟨l0, l1⟩, ⟨m0, m1⟩, -, d0, d1⟩ := hs
      exact ff_pair_ok (by omega) (by omega) (by omega) (by omega)
    have s1 : ∀ W, Calls Tryd.prog 65 #[.int .i64 s.t, .int .i64 s.l] W fun e w' => e = .returned (.tuple #[.int .i64 (s.t - s.l), .int .i64 (subE s.t s.l)]) ∧ Below W.heap.size W w' := fun W => by
      have := sub_any s.t s.l W
      rw [subS_fine hb1 (by omega)] at this
      exact this
    have s2 : ∀ W, Calls Tryd.prog 65 #[.int .i64 s.d, .int .i64 s.l] W fun e w' => e = .returned (.tuple #[.int .i64 (s.d - s.l), .int .i64 (subE s.d s.l)]) ∧ Below W.heap.size W w' := fun W => by
      have := sub_any s.d s.l W
      rw [subS_fine hb2 (by omega)] at this
      exact this
    have s3 : ∀ W, Calls Tryd.prog 66 #[.int .i64 (s.t - s.l), .int .i64 (s.d - s.l)] W fun e w' => e = .returned (.tuple #[.int .i64 (manyS s), .int .i64 (downE (s.t - s.l) (s.d - s.l))]) ∧ Below W.heap.size W w' := fun W => up_any _ _ W
    have e1 : coresH s = if 8 < manyS s then 0 else manyS s := if_neg hl
    have e2 : faultH s = if 8 < manyS s then 142 else 0 := if_neg hl
    obtain ⟨n, hn⟩ : ∃ n, n = manyS s := ⟨_, rfl⟩
    obtain ⟨x1, hx1⟩ : ∃ n, n = subE s.t s.l := ⟨_, rfl⟩
    obtain ⟨x2, hx2⟩ : ∃ n, n = subE s.d s.l := ⟨_, rfl⟩
    obtain ⟨x3, hx3⟩ : ∃ n, n = downE (s.t - s.l) (s.d - s.l) := ⟨_, rfl⟩
    rw [← hn] at e1 e2 s3
    rw [← hx1] at s1
    rw [← hx2] at s2
    rw [← hx3] at s3
    rw [e1, e2]
    obtain ⟨t, l, m, d, p⟩ := s
    unfold Shp.val toldV
    dsimp only at s1 s2 s3 hl hd ⊢
    obtain ⟨u, hu⟩ : ∃ u, u = t - l := ⟨_, rfl⟩
    obtain ⟨v, hv⟩ : ∃ v, v = d - l := ⟨_, rfl⟩
    rw [← hu] at s1 s3
    rw [← hv] at s2 s3
    have s1 := Lib.hid s1
    have s2 := Lib.hid s2
    have s3 := Lib.hid s3
    clear e1 e2 hs hb hb1 hb2 hx1 hx2 hx3 hu hv hq hn
    have hl : l < d := by omega
    go_enter Tryd.func64, Tryd.ntmps64
    go_wp2_with fail
    have B0 := Lib.hid (Rwk.start w [(53, [.int .i64 t, .int .i64 l, .int .i64 m, .int .i64 d, .int .i64 p]), (46, [.int .i64 0, .int .i64 0])])
    refine (s1.out _).mono ?_
    rintro e w1 ⟨rfl, b1⟩
    have B1 := Lib.hid (B0.out.next b1)
    clear b1 B0
    have c00 := B1.out.cell 0 0 rfl rfl
    have c01 := B1.out.cell 0 1 rfl rfl
    have c03 := B1.out.cell 0 3 rfl rfl
    simp only [Nat.add_zero] at c00 c01 c03
    go_wp2_with fail
    refine (s2.out _).mono ?_
    rintro e w2 ⟨rfl, b2⟩
    have B2 := Lib.hid (B1.out.next b2)
    clear b2 B1 c00 c01 c03
    go_wp2_with fail
    refine (s3.out _).mono ?_
    rintro e w3 ⟨rfl, b3⟩
    have B3 := Lib.hid (B2.out.next b3)
    clear b3 B2
    have c10 := B3.out.cell 1 0 rfl rfl
    have c11 := B3.out.cell 1 1 rfl rfl
    have z10 := B3.out.frozen 1 0 rfl
    have z11 := B3.out.frozen 1 1 rfl
    by_cases h8 : 8 < n
    · go_wp2
      have B4 := B3.out.set2 1 rfl (.int .i64 0) (.int .i64 142)
      refine bodyPost_ret (ret_told rfl rfl (B4.row 1 _ _ rfl)) rfl ?_
      exact ⟨rfl, B4.bel⟩
    · have h8' : n ≤ 8 := by omega
      go_wp2
      have B4 := B3.out.set2 1 rfl (.int .i64 n) (.int .i64 0)
      refine bodyPost_ret (ret_told rfl rfl (B4.row 1 _ _ rfl)) rfl ?_
      exact ⟨rfl, B4.bel⟩
end Go.Proofs.YtohgdeddepfanaaDoor
