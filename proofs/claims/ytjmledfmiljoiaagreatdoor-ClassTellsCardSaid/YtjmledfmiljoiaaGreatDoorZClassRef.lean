/- The contracts of trefoilref14.Check, Cores and Bound, in the seat YtjmledfmiljoiaaGreatDoor (printed by class/mk_ref.py). No statement is proved here. -/
import Derived.Test.YtjmledfmiljoiaaGreatDoorZM3
import Derived.Test.YtjmledfmiljoiaaGreatDoorZM5
set_option linter.unusedSimpArgs false
set_option linter.unusedVariables false
set_option linter.unusedSimpArgs false
namespace Go.Proofs.YtjmledfmiljoiaaGreatDoor
open Go Go.RowKit

set_option maxRecDepth 100000 in
set_option maxHeartbeats 16000000 in
theorem rchk_any (s : Shp) (w : World) : Calls Tryz.prog 10 #[s.val] w
    fun e w' => e = .returned (.bool (decide s.Ok)) ∧ Below w.heap.size w w' := by
  obtain ⟨t, l, m, d, p⟩ := s
  by_cases hn : ∃ k : Nat, k < 40 ∧ p = ((2 ^ k : Nat) : Int)
  · have HP : Hid (isP p = decide (p ≤ 4096)) := by
      obtain ⟨k, hk, rfl⟩ := hn
      exact Lib.hid isP_pow
    have C : ∃ k : Nat, ∀ W, Calls Tryz.prog 20 #[.int .i64 p] W fun e w' => e = .returned (.tuple #[.int .i64 k, .bool true]) ∧ W = w' := by
      obtain ⟨k, hk, rfl⟩ := hn
      exact ⟨k, fun W => rtwo_yes k hk W⟩
    obtain ⟨k, C⟩ := C
    have C := Lib.hid C
    clear hn
    by_cases h0 : p ≤ 4096
    · by_cases h1 : 1 ≤ d
      · by_cases h2 : d ≤ p
        · by_cases h3 : 1 ≤ t
          · by_cases h4 : t ≤ 4096
            · by_cases h5 : 1 ≤ l
              · by_cases h6 : l ≤ t
                · by_cases h7 : 1 ≤ m
                  · by_cases h8 : m ≤ l
                    · have e0 : decide (Shp.Ok ⟨t, l, m, d, p⟩) = true := decide_eq_true ⟨⟨h3, h4⟩, ⟨h5, h6⟩, ⟨h7, h8⟩, by rw [HP.out, decide_eq_true h0], h1, h2⟩
                      rw [e0]
                      clear e0
                      unfold Shp.val
                      dsimp only
                      go_enter Tryz.func10, Tryz.ntmps10
                      go_wp2_with fail
                      refine (C.out _).mono ?_
                      rintro e w1 ⟨rfl, rfl⟩
                      go_wp2
                      go_ret
                      exact ⟨rfl, below_alloc _⟩
                    · have e0 : decide (Shp.Ok ⟨t, l, m, d, p⟩) = false := decide_eq_false fun q => h8 q.2.2.1.2
                      rw [e0]
                      clear e0
                      unfold Shp.val
                      dsimp only
                      go_enter Tryz.func10, Tryz.ntmps10
                      go_wp2_with fail
                      refine (C.out _).mono ?_
                      rintro e w1 ⟨rfl, rfl⟩
                      go_wp2
                      go_ret
                      refine ⟨?_, below_alloc _⟩
                      have e9 : decide (m ≤ l) = false := decide_eq_false (by omega)
                      show Ending.returned (.bool (decide (m ≤ l))) = _
                      rw [e9]
                  · have e0 : decide (Shp.Ok ⟨t, l, m, d, p⟩) = false := decide_eq_false fun q => h7 q.2.2.1.1
                    rw [e0]
                    clear e0
                    unfold Shp.val
                    dsimp only
                    go_enter Tryz.func10, Tryz.ntmps10
                    go_wp2_with fail
                    refine (C.out _).mono ?_
                    rintro e w1 ⟨rfl, rfl⟩
                    go_wp2
                    go_ret
                    exact ⟨rfl, below_alloc _⟩
                · have e0 : decide (Shp.Ok ⟨t, l, m, d, p⟩) = false := decide_eq_false fun q => h6 q.2.1.2
                  rw [e0]
                  clear e0
                  unfold Shp.val
                  dsimp only
                  go_enter Tryz.func10, Tryz.ntmps10
                  go_wp2_with fail
                  refine (C.out _).mono ?_
                  rintro e w1 ⟨rfl, rfl⟩
                  go_wp2
                  go_ret
                  exact ⟨rfl, below_alloc _⟩
              · have e0 : decide (Shp.Ok ⟨t, l, m, d, p⟩) = false := decide_eq_false fun q => h5 q.2.1.1
                rw [e0]
                clear e0
                unfold Shp.val
                dsimp only
                go_enter Tryz.func10, Tryz.ntmps10
                go_wp2_with fail
                refine (C.out _).mono ?_
                rintro e w1 ⟨rfl, rfl⟩
                go_wp2
                go_ret
                exact ⟨rfl, below_alloc _⟩
            · have e0 : decide (Shp.Ok ⟨t, l, m, d, p⟩) = false := decide_eq_false fun q => h4 q.1.2
              rw [e0]
              clear e0
              unfold Shp.val
              dsimp only
              go_enter Tryz.func10, Tryz.ntmps10
              go_wp2_with fail
              refine (C.out _).mono ?_
              rintro e w1 ⟨rfl, rfl⟩
              go_wp2
              go_ret
              exact ⟨rfl, below_alloc _⟩
          · have e0 : decide (Shp.Ok ⟨t, l, m, d, p⟩) = false := decide_eq_false fun q => h3 q.1.1
            rw [e0]
            clear e0
            unfold Shp.val
            dsimp only
            go_enter Tryz.func10, Tryz.ntmps10
            go_wp2_with fail
            refine (C.out _).mono ?_
            rintro e w1 ⟨rfl, rfl⟩
            go_wp2
            go_ret
            exact ⟨rfl, below_alloc _⟩
        · have e0 : decide (Shp.Ok ⟨t, l, m, d, p⟩) = false := decide_eq_false fun q => h2 q.2.2.2.2.2
          rw [e0]
          clear e0
          unfold Shp.val
          dsimp only
          go_enter Tryz.func10, Tryz.ntmps10
          go_wp2_with fail
          refine (C.out _).mono ?_
          rintro e w1 ⟨rfl, rfl⟩
          go_wp2
          go_ret
          exact ⟨rfl, below_alloc _⟩
      · have e0 : decide (Shp.Ok ⟨t, l, m, d, p⟩) = false := decide_eq_false fun q => h1 q.2.2.2.2.1
        rw [e0]
        clear e0
        unfold Shp.val
        dsimp only
        go_enter Tryz.func10, Tryz.ntmps10
        go_wp2_with fail
        refine (C.out _).mono ?_
        rintro e w1 ⟨rfl, rfl⟩
        go_wp2
        go_ret
        exact ⟨rfl, below_alloc _⟩
    · have e0 : decide (Shp.Ok ⟨t, l, m, d, p⟩) = false := decide_eq_false fun q => h0 q.le
      rw [e0]
      clear e0
      unfold Shp.val
      dsimp only
      go_enter Tryz.func10, Tryz.ntmps10
      go_wp2_with fail
      refine (C.out _).mono ?_
      rintro e w1 ⟨rfl, rfl⟩
      go_wp2
      go_ret
      exact ⟨rfl, below_alloc _⟩
  · have hno : ∀ k : Nat, k < 40 → p ≠ ((2 ^ k : Nat) : Int) := fun k hk e => hn ⟨k, hk, e⟩
    have C := Lib.hid (fun W => rtwo_no p W hno)
    have h0 : isP p = false := isP_no hno
    clear hn hno
    have e0 : decide (Shp.Ok ⟨t, l, m, d, p⟩) = false := decide_eq_false fun q => by have := q.2.2.2.1; dsimp only at this; rw [h0] at this; cases this
    rw [e0]
    clear e0
    unfold Shp.val
    dsimp only
    go_enter Tryz.func10, Tryz.ntmps10
    go_wp2_with fail
    refine (C.out _).mono ?_
    rintro e w1 ⟨rfl, rfl⟩
    go_wp2
    go_ret
    exact ⟨rfl, below_alloc _⟩
/-- Counted up, or by the quotient: the same. -/
theorem many_step {s : Shp} (h : s.Ok) (hd : s.d < s.t) (hl : s.l < s.d) (n : Int) : s.t - s.l ≤ n * (s.d - s.l) ↔ manyS s ≤ n := by
  obtain ⟨h2, h3, h4⟩ := many_spec h hd hl
  obtain ⟨b, hb⟩ : ∃ b, b = s.d - s.l := ⟨_, rfl⟩
  have hb0 : 0 < b := by omega
  rw [← hb] at h3 h4 ⊢
  constructor
  · intro q
    have q2 : (manyS s - 1) * b < n * b := by omega
    have := Int.lt_of_mul_lt_mul_right q2 (by omega)
    omega
  · intro q
    have := Int.mul_le_mul_of_nonneg_right q (by omega : 0 ≤ b)
    omega
set_option maxRecDepth 100000 in
set_option maxHeartbeats 16000000 in
theorem rcores_any (s : Shp) (w : World) : Calls Tryz.prog 9 #[s.val] w
    fun e w' => e = .returned (.tuple #[.int .i64 (coresS s), .int .i64 (faultS s)]) ∧ Below w.heap.size w w' := by
  have TT := Lib.hid (fun W => rchk_any s W)
  have B := Lib.hid (Rwk.start w [(23, [.int .i64 s.t, .int .i64 s.l, .int .i64 s.m, .int .i64 s.d, .int .i64 s.p])])
  by_cases hs : s.Ok
  · rw [decide_eq_true hs] at TT
    by_cases hd : s.d < s.t
    · have e1 : coresS s = coresH s := by unfold coresS; rw [if_neg (fun q => q hs), if_pos hd]
      have e2 : faultS s = faultH s := by unfold faultS; rw [if_neg (fun q => q hs), if_pos hd]
      rw [e1, e2]
      by_cases hl : s.d ≤ s.l
      · have e1 : coresH s = 0 := if_pos hl
        have e2 : faultH s = 141 := if_pos hl
        rw [e1, e2]
        clear e1 e2 hs
        obtain ⟨t, l, m, d, p⟩ := s
        unfold Shp.val at TT ⊢
        dsimp only at TT B hd hl ⊢
        go_enter Tryz.func9, Tryz.ntmps9
        go_wp2_with fail
        refine (TT.out _).mono ?_
        rintro e w1 ⟨rfl, b⟩
        have B := Lib.hid (B.out.next b)
        clear b TT
        obtain ⟨⟨c0, c1⟩, c2, c3, c4⟩ := shp_cells (s := ⟨t, l, m, d, p⟩) B.out
        dsimp only at c0 c1 c2 c3 c4
        go_wp2
        go_ret2
        exact ⟨rfl, B.out.bel⟩
      · have hl : s.l < s.d := by omega
        obtain ⟨q2, -, -⟩ := many_spec hs hd hl
        have MS := Lib.hid (many_step hs hd hl)
        have e1 : coresH s = if 8 < manyS s then 0 else manyS s := if_neg (by omega)
        have e2 : faultH s = if 8 < manyS s then 142 else 0 := if_neg (by omega)
        obtain ⟨x, hx⟩ : ∃ x, x = manyS s := ⟨_, rfl⟩
        rw [← hx] at MS e1 e2 q2
        rw [e1, e2]
        obtain ⟨⟨t0, t1⟩, ⟨l0, l1⟩, ⟨-, -⟩, -, d0, d1⟩ := hs
        clear e1 e2 hx
        obtain ⟨t, l, m, d, p⟩ := s
        unfold Shp.val at TT ⊢
        dsimp only at TT B hd hl MS t0 t1 l0 l1 d0 d1 ⊢
        go_enter Tryz.func9, Tryz.ntmps9
        go_wp2_with fail
        refine (TT.out _).mono ?_
        rintro e w1 ⟨rfl, b⟩
        have B := Lib.hid (B.out.next b)
        clear b TT
        obtain ⟨⟨c0, c1⟩, c2, c3, c4⟩ := shp_cells (s := ⟨t, l, m, d, p⟩) B.out
        dsimp only at c0 c1 c2 c3 c4
        go_wp2
        go_loop [4] (fun i => ∃ n : Int, 1 ≤ n ∧ n ≤ 9 ∧ n ≤ x ∧ i = .int .i64 n) (fun i => (9 - intOf i).toNat)
        case atStart => exact ⟨1, by omega, by omega, by omega, rfl⟩
        case round =>
          obtain ⟨n, n1, n9, nx, rfl⟩ := hrel
          have ms := MS.out n
          have z0 : 0 ≤ n * (d - l) := Int.mul_nonneg (by omega) (by omega)
          have z1 : n * (d - l) ≤ 9 * (d - l) := Int.mul_le_mul_of_nonneg_right n9 (by omega)
          obtain ⟨z, hz⟩ : ∃ z, z = n * (d - l) := ⟨_, rfl⟩
          rw [← hz] at ms z0 z1
          have hwz : wrap64 (n * (d - l)) = z := by rw [← hz]; go_arith
          by_cases h8 : n ≤ 8
          · by_cases hx : x ≤ n
            · have haz : t - l ≤ z := ms.mpr hx
              obtain rfl : n = x := by omega
              clear ms hz z0 z1
              go_wp2
              go_ret2
              first
              | exact ⟨rfl, B.out.bel⟩
              | (rw [if_neg (by omega), if_neg (by omega)]; exact ⟨rfl, B.out.bel⟩)
            · have haz : ¬ t - l ≤ z := fun q => hx (ms.mp q)
              clear ms hz z0 z1
              go_wp2
              go_round
              case rel => exact ⟨n + 1, by omega, by omega, by omega, by go_num⟩
              case measure => simp [intOf]; omega
          · clear ms hz z0 z1
            go_wp2
            go_ret2
            first
            | exact ⟨rfl, B.out.bel⟩
            | (rw [if_pos (by omega), if_pos (by omega)]; exact ⟨rfl, B.out.bel⟩)
    · have e1 : coresS s = 1 := by unfold coresS; rw [if_neg (fun q => q hs), if_neg hd]
      have e2 : faultS s = 0 := by unfold faultS; rw [if_neg (fun q => q hs), if_neg hd]
      rw [e1, e2]
      clear e1 e2 hs
      obtain ⟨t, l, m, d, p⟩ := s
      unfold Shp.val at TT ⊢
      dsimp only at TT B hd ⊢
      go_enter Tryz.func9, Tryz.ntmps9
      go_wp2_with fail
      refine (TT.out _).mono ?_
      rintro e w1 ⟨rfl, b⟩
      have B := Lib.hid (B.out.next b)
      clear b TT
      obtain ⟨⟨c0, c1⟩, c2, c3, c4⟩ := shp_cells (s := ⟨t, l, m, d, p⟩) B.out
      dsimp only at c0 c1 c2 c3 c4
      have hd : t ≤ d := by omega
      go_wp2
      go_ret2
      exact ⟨rfl, B.out.bel⟩
  · have e1 : coresS s = 0 := if_pos hs
    have e2 : faultS s = 140 := if_pos hs
    rw [decide_eq_false hs] at TT
    rw [e1, e2]
    clear e1 e2 hs
    obtain ⟨t, l, m, d, p⟩ := s
    unfold Shp.val at TT ⊢
    dsimp only at TT B ⊢
    go_enter Tryz.func9, Tryz.ntmps9
    go_wp2_with fail
    refine (TT.out _).mono ?_
    rintro e w1 ⟨rfl, b⟩
    have B := Lib.hid (B.out.next b)
    clear b TT
    go_wp2
    go_ret2
    exact ⟨rfl, B.out.bel⟩
/-- The sum that Bound divides. -/
theorem rbound_sum {s : Shp} (h : s.Ok) {m : Int} (h1 : 1 ≤ m) (h8 : m ≤ 8) : 0 ≤ (m - 1) * s.l ∧ (m - 1) * s.l ≤ 28672 := by
  obtain ⟨⟨t0, t1⟩, ⟨l0, l1⟩, -⟩ := h
  have : m = 1 ∨ m = 2 ∨ m = 3 ∨ m = 4 ∨ m = 5 ∨ m = 6 ∨ m = 7 ∨ m = 8 := by omega
  rcases this with rfl | rfl | rfl | rfl | rfl | rfl | rfl | rfl <;> constructor <;> omega
set_option maxRecDepth 100000 in
set_option maxHeartbeats 16000000 in
theorem rbound_any (s : Shp) (m : Int) (w : World) : Calls Tryz.prog 14 #[s.val, .int .i64 m] w
    fun e w' => e = .returned (.int .i64 (boundS s m)) ∧ Below w.heap.size w w' := by
  have TT := Lib.hid (fun W => rchk_any s W)
  have B := Lib.hid (Rwk.start w [(23, [.int .i64 s.t, .int .i64 s.l, .int .i64 s.m, .int .i64 s.d, .int .i64 s.p])])
  by_cases hs : s.Ok
  · rw [decide_eq_true hs] at TT
    by_cases hm : 1 ≤ m ∧ m ≤ 8
    · obtain ⟨g0, g1⟩ := rbound_sum hs hm.1 hm.2
      have e0 : boundS s m = (s.t + (m - 1) * s.l) / m := if_pos ⟨hs, hm⟩
      obtain ⟨m1, m8⟩ := hm
      obtain ⟨⟨t0, t1⟩, ⟨l0, l1⟩, -⟩ := hs
      rw [e0]
      obtain ⟨t, l, mm, d, p⟩ := s
      unfold Shp.val at TT ⊢
      dsimp only at TT B t0 t1 l0 l1 g0 g1 ⊢
      obtain ⟨g, hg⟩ : ∃ g, g = (m - 1) * l := ⟨_, rfl⟩
      have hwg : wrap64 ((m - 1) * l) = g := by rw [← hg] at g0 g1 ⊢; go_arith
      rw [← hg] at g0 g1 ⊢
      obtain ⟨x, hx⟩ : ∃ x, x = (t + g) / m := ⟨_, rfl⟩
      have x0 : 0 ≤ x := by rw [hx]; exact Int.ediv_nonneg (by omega) (by omega)
      have x1 : x ≤ t + g := by
        rw [hx]
        exact Int.ediv_le_self _ (by omega)
      have MS := Lib.hid (fun n : Int => (show n * m ≤ t + g ↔ n ≤ x by rw [hx]; exact (Int.le_ediv_iff_mul_le (by omega)).symm))
      rw [← hx]
      clear e0 hx hg
      go_enter Tryz.func14, Tryz.ntmps14
      go_wp2_with fail
      refine (TT.out _).mono ?_
      rintro e w1 ⟨rfl, b⟩
      have B := Lib.hid (B.out.next b)
      clear b TT
      obtain ⟨⟨c0, c1⟩, c2, c3, c4⟩ := shp_cells (s := ⟨t, l, mm, d, p⟩) B.out
      dsimp only at c0 c1 c2 c3 c4
      go_wp2
      go_loop [5] (fun i => ∃ n : Int, 0 ≤ n ∧ n ≤ x ∧ i = .int .i64 n) (fun i => (x - intOf i).toNat)
      case atStart => exact ⟨0, by omega, by omega, rfl⟩
      case round =>
        obtain ⟨n, n0, nx, rfl⟩ := hrel
        have ms := MS.out (n + 1)
        have z0 : 0 ≤ (n + 1) * m := Int.mul_nonneg (by omega) (by omega)
        have z1 : (n + 1) * m ≤ (n + 1) * 8 := Int.mul_le_mul_of_nonneg_left m8 (by omega)
        obtain ⟨z, hz⟩ : ∃ z, z = (n + 1) * m := ⟨_, rfl⟩
        rw [← hz] at ms z0 z1
        have hwz : wrap64 ((n + 1) * m) = z := by rw [← hz]; go_arith
        by_cases hx : n + 1 ≤ x
        · have haz : z ≤ t + g := ms.mpr hx
          clear ms hz
          go_wp2
          go_round
          case rel => exact ⟨n + 1, by omega, by omega, by go_num⟩
          case measure => simp [intOf]; omega
        · have haz : ¬ z ≤ t + g := fun q => hx (ms.mp q)
          obtain rfl : n = x := by omega
          clear ms hz
          go_wp2
          go_ret
          exact ⟨rfl, B.out.bel⟩
    · have e0 : boundS s m = 0 := if_neg fun q => hm q.2
      rw [e0]
      clear e0 hs
      obtain ⟨t, l, mm, d, p⟩ := s
      unfold Shp.val at TT ⊢
      dsimp only at TT B ⊢
      by_cases h1 : m < 1
      · go_enter Tryz.func14, Tryz.ntmps14
        go_wp2_with fail
        refine (TT.out _).mono ?_
        rintro e w1 ⟨rfl, b⟩
        have B := Lib.hid (B.out.next b)
        clear b TT
        go_wp2
        go_ret
        exact ⟨rfl, B.out.bel⟩
      · have h8 : 8 < m := by omega
        go_enter Tryz.func14, Tryz.ntmps14
        go_wp2_with fail
        refine (TT.out _).mono ?_
        rintro e w1 ⟨rfl, b⟩
        have B := Lib.hid (B.out.next b)
        clear b TT
        go_wp2
        go_ret
        exact ⟨rfl, B.out.bel⟩
  · have e0 : boundS s m = 0 := if_neg fun q => hs q.1
    rw [decide_eq_false hs] at TT
    rw [e0]
    clear e0 hs
    obtain ⟨t, l, mm, d, p⟩ := s
    unfold Shp.val at TT ⊢
    dsimp only at TT B ⊢
    go_enter Tryz.func14, Tryz.ntmps14
    go_wp2_with fail
    refine (TT.out _).mono ?_
    rintro e w1 ⟨rfl, b⟩
    have B := Lib.hid (B.out.next b)
    clear b TT
    go_wp2
    go_ret
    exact ⟨rfl, B.out.bel⟩
end Go.Proofs.YtjmledfmiljoiaaGreatDoor
