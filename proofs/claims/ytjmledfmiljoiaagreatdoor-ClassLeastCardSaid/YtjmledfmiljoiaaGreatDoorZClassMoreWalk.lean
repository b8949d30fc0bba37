/- The walk of ClassMore in the seat YtjmledfmiljoiaaGreatDoor. No statement is proved here. -/
import Derived.Test.YtjmledfmiljoiaaGreatDoorZM22
set_option linter.unusedSimpArgs false
set_option linter.unusedVariables false
set_option linter.unusedSimpArgs false
namespace Go.Proofs.YtjmledfmiljoiaaGreatDoor
open Go Go.RowKit

theorem bound_facts {s : Shp} (h : s.Ok) {m : Int} (h1 : 1 ≤ m) (h8 : m ≤ 8) : s.l ≤ boundS s m ∧ boundS s m ≤ s.t ∧ (2 ≤ m → boundS s m ≤ boundS s (m - 1)) := by
  have e : ∀ j, 1 ≤ j → j ≤ 8 → boundS s j = (s.t + (j - 1) * s.l) / j := fun j a b => if_pos ⟨h, a, b⟩
  obtain ⟨⟨t0, t1⟩, ⟨l0, l1⟩, -⟩ := h
  rw [e m h1 h8]
  have e2 := e (m - 1)
  have : m = 1 ∨ m = 2 ∨ m = 3 ∨ m = 4 ∨ m = 5 ∨ m = 6 ∨ m = 7 ∨ m = 8 := by omega
  rcases this with rfl | rfl | rfl | rfl | rfl | rfl | rfl | rfl
  · exact ⟨by omega, by omega, fun q => absurd q (by decide)⟩
  all_goals
    have e3 := e2 (by decide) (by decide)
    refine ⟨by omega, by omega, fun _ => ?_⟩
    rw [e3]
    omega
theorem bound_one {s : Shp} (h : s.Ok) : boundS s 1 = s.t := by
  have e : boundS s 1 = (s.t + (1 - 1) * s.l) / 1 := if_pos ⟨h, by decide, by decide⟩
  rw [e]
  omega
set_option maxRecDepth 100000 in
set_option maxHeartbeats 32000000 in
theorem walk_ClassMore (w : World) (s : Shp) (hT : DTab w) : Calls Tryz.prog 6 #[s.val] w fun e w' => e = .returned (.bool true) ∧ Below w.heap.size w w' := by
  have TT := Lib.hid (fun W (b : Below w.heap.size w W) => (hT.via b : DTab W))
  clear hT
  have AW := Lib.hid (fun W (b : Below w.heap.size w W) => awake14_any W (TT.out W b))
  have CC := Lib.hid (fun W (b : Below w.heap.size w W) => ccheck_any s W (TT.out W b))
  have R := Lib.hid (Rwk.start w [(23, [.int .i64 s.t, .int .i64 s.l, .int .i64 s.m, .int .i64 s.d, .int .i64 s.p])])
  by_cases hs : s.Ok
  · rw [chkS_ok hs] at CC
    have BB := Lib.hid (fun m W (b : Below w.heap.size w W) => cbound_any s m W (TT.out W b))
    have BF := Lib.hid (fun (m : Int) h1 h8 => bound_facts hs (m := m) h1 h8)
    have B1 := bound_one hs
    obtain ⟨bd, hbd⟩ : ∃ bd : Int → Int, ∀ m, bd m = boundS s m := ⟨fun m => boundS s m, fun _ => rfl⟩
    simp only [← hbd] at BB BF B1
    obtain ⟨t, l, m, d, p⟩ := s
    unfold Shp.val at CC BB ⊢
    dsimp only at CC BB BF B1 R ⊢
    clear hs hbd
    go_enter Tryz.func6, Tryz.ntmps6
    go_wp2_with fail
    refine (AW.out _ R.out.bel).mono ?_
    rintro e w1 ⟨rfl, b⟩
    have R := Lib.hid (R.out.next b)
    clear b
    obtain ⟨⟨c0, c1⟩, c2, c3, c4⟩ := shp_cells (s := ⟨t, l, m, d, p⟩) R.out
    dsimp only at c0 c1 c2 c3 c4
    go_wp2_with fail
    refine (CC.out _ R.out.bel).mono ?_
    rintro e w2 ⟨rfl, b⟩
    have R := Lib.hid (R.out.next b)
    clear b c0 c1 c2 c3 c4 CC AW
    go_wp2_with fail
    go_loopw [3] (fun kv wr => ∃ k : Int, 1 ≤ k ∧ k ≤ 9 ∧ kv = .int .i64 k ∧ Hid (Rwk w [(23, [.int .i64 t, .int .i64 l, .int .i64 m, .int .i64 d, .int .i64 p])] wr)) (fun kv _ => (9 - intOf kv).toNat)
    case atStart => exact ⟨1, by decide, by decide, rfl, R⟩
    case round =>
      obtain ⟨k, k1, k9, rfl, RW⟩ := hrel
      obtain ⟨⟨c0, c1⟩, c2, c3, c4⟩ := shp_cells (s := ⟨t, l, m, d, p⟩) RW.out
      dsimp only at c0 c1 c2 c3 c4
      by_cases hk : k ≤ 8
      · obtain ⟨f1, f2, f3⟩ := BF.out k k1 hk
        have F3 := Lib.hid f3
        clear f3
        go_wp2_with fail
        refine (BB.out k _ RW.out.bel).mono ?_
        rintro e w3 ⟨rfl, b⟩
        have RW := Lib.hid (RW.out.next b)
        clear b c0 c1 c2 c3 c4
        obtain ⟨⟨c0, c1⟩, c2, c3, c4⟩ := shp_cells (s := ⟨t, l, m, d, p⟩) RW.out
        dsimp only at c0 c1 c2 c3 c4
        by_cases hk2 : 1 < k
        · have f3 := F3.out (by omega)
          go_wp2_with fail
          refine (BB.out (k - 1) _ RW.out.bel).mono ?_
          rintro e w4 ⟨rfl, b⟩
          have RW := Lib.hid (RW.out.next b)
          clear b c0 c1 c2 c3 c4
          go_wp2
          go_roundw
          case rel => exact ⟨k + 1, by omega, by omega, by go_num, RW⟩
          case measure => simp [intOf]; omega
        · go_wp2
          go_roundw
          case rel => exact ⟨k + 1, by omega, by omega, by go_num, RW⟩
          case measure => simp [intOf]; omega
      · go_wp2_with fail
        have RD := Lib.hid (RW.out.next ((Below.refl _ _).drew))
        clear c0 c1 c2 c3 c4
        obtain ⟨⟨c0, c1⟩, c2, c3, c4⟩ := shp_cells (s := ⟨t, l, m, d, p⟩) RW.out
        dsimp only at c0 c1 c2 c3 c4
        go_region_with (go_at_call 13; refine (BB.out 1 _ RD.out.bel).mono ?_; rintro e w4 ⟨rfl, b⟩; have RW := Lib.hid (RD.out.next b); clear b; obtain ⟨⟨c0, c1⟩, c2, c3, c4⟩ := shp_cells (s := ⟨t, l, m, d, p⟩) RW.out; dsimp only at c0 c1 c2 c3 c4)
        all_goals
          go_wp2
          go_ret
          exact ⟨rfl, RW.out.bel⟩
  · rw [chkS_no hs] at CC
    obtain ⟨t, l, m, d, p⟩ := s
    unfold Shp.val at CC ⊢
    dsimp only at CC R ⊢
    clear hs
    go_enter Tryz.func6, Tryz.ntmps6
    go_wp2_with fail
    refine (AW.out _ R.out.bel).mono ?_
    rintro e w1 ⟨rfl, b⟩
    have R := Lib.hid (R.out.next b)
    clear b
    obtain ⟨⟨c0, c1⟩, c2, c3, c4⟩ := shp_cells (s := ⟨t, l, m, d, p⟩) R.out
    dsimp only at c0 c1 c2 c3 c4
    go_wp2_with fail
    refine (CC.out _ R.out.bel).mono ?_
    rintro e w2 ⟨rfl, b⟩
    have R := Lib.hid (R.out.next b)
    clear b c0 c1 c2 c3 c4 CC
    go_wp2_with fail
    refine (AW.out _ R.out.bel).mono ?_
    rintro e w3 ⟨rfl, b⟩
    have R := Lib.hid (R.out.next b)
    clear b
    go_wp2
    go_ret
    exact ⟨rfl, R.out.bel⟩
end Go.Proofs.YtjmledfmiljoiaaGreatDoor
