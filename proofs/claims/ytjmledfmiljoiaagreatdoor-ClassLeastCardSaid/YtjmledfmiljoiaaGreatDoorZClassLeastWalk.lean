/- The walk of ClassLeast in the seat YtjmledfmiljoiaaGreatDoor (printed by class/mk_least.py). No statement is proved here. -/
import Derived.Test.YtjmledfmiljoiaaGreatDoorZM22
import Derived.Test.YtjmledfmiljoiaaGreatDoorZClassMoreWalk
import Derived.Test.YtjmledfmiljoiaaGreatDoorZFacts2
set_option linter.unusedSimpArgs false
set_option linter.unusedVariables false
set_option linter.unusedSimpArgs false
namespace Go.Proofs.YtjmledfmiljoiaaGreatDoor
open Go Go.RowKit

def PhiL6 (w0 : World) (t l m d p n b n1 n2 q1 q2 q3 q4 q5 q6 : Int) : Nat → Value → World → Prop
  | 0, v, w => v = .agg #[.int .i64 t, .int .i64 l, .int .i64 m, .int .i64 d, .int .i64 p]
  | 1, v, w => v = .int .i64 n
  | 2, v, w => v = .int .i64 b
  | 3, v, w => v = .pointer (some ⟨w0.heap.size, 3, none⟩)
  | 4, v, w => v = .int .i64 d
  | 5, v, w => v = .bool false
  | 6, v, w => v = .bool false
  | 7, v, w => v = .int .i64 n
  | 8, v, w => v = .pointer (some ⟨w0.heap.size, 3, none⟩)
  | 9, v, w => v = .int .i64 d
  | 10, v, w => v = .int .i64 q1
  | 11, v, w => v = .pointer (some ⟨w0.heap.size, 0, none⟩)
  | 12, v, w => v = .int .i64 t
  | 13, v, w => v = .int .i64 n
  | 14, v, w => v = .int .i64 n1
  | 15, v, w => v = .pointer (some ⟨w0.heap.size, 1, none⟩)
  | 16, v, w => v = .int .i64 l
  | 17, v, w => v = .int .i64 q2
  | 18, v, w => v = .int .i64 q3
  | 19, v, w => v = .bool false
  | 20, v, w => v = .bool false
  | _, _, _ => True
theorem phiL6_below (w0 : World) (t l m d p n b n1 n2 q1 q2 q3 q4 q5 q6 : Int) : ∀ kq v w w', PhiL6 w0 t l m d p n b n1 n2 q1 q2 q3 q4 q5 q6 kq v w → Below w.heap.size w w' → PhiL6 w0 t l m d p n b n1 n2 q1 q2 q3 q4 q5 q6 kq v w' := by
  intro kq v w w' h hb
  match kq, h with
  | 0, h => exact h
  | 1, h => exact h
  | 2, h => exact h
  | 3, h => exact h
  | 4, h => exact h
  | 5, h => exact h
  | 6, h => exact h
  | 7, h => exact h
  | 8, h => exact h
  | 9, h => exact h
  | 10, h => exact h
  | 11, h => exact h
  | 12, h => exact h
  | 13, h => exact h
  | 14, h => exact h
  | 15, h => exact h
  | 16, h => exact h
  | 17, h => exact h
  | 18, h => exact h
  | 19, h => exact h
  | 20, h => exact h
  | kq + 21, h => exact trivial
theorem least_heavy {s : Shp} (h : s.Ok) (hd : s.d < s.t) (hl : s.l < s.d) (h8 : manyS s ≤ 8) : 2 ≤ manyS s ∧ s.t + (manyS s - 1) * s.l ≤ manyS s * s.d ∧ (manyS s - 1) * s.d < s.t + (manyS s - 2) * s.l := by
  obtain ⟨h2, h3, h4⟩ := many_spec h hd hl
  obtain ⟨n, hn⟩ : ∃ n, n = manyS s := ⟨_, rfl⟩
  rw [← hn] at h2 h3 h4 h8 ⊢
  clear hn
  have : n = 2 ∨ n = 3 ∨ n = 4 ∨ n = 5 ∨ n = 6 ∨ n = 7 ∨ n = 8 := by omega
  rcases this with rfl | rfl | rfl | rfl | rfl | rfl | rfl <;> refine ⟨by omega, by omega, by omega⟩
theorem least_bound {s : Shp} (h : s.Ok) {n : Int} (h1 : 1 ≤ n) (h8 : n ≤ 8) (hq : s.t + (n - 1) * s.l ≤ n * s.d) : boundS s n ≤ s.d := by
  have e : boundS s n = (s.t + (n - 1) * s.l) / n := if_pos ⟨h, h1, h8⟩
  rw [e]
  have : n = 1 ∨ n = 2 ∨ n = 3 ∨ n = 4 ∨ n = 5 ∨ n = 6 ∨ n = 7 ∨ n = 8 := by omega
  rcases this with rfl | rfl | rfl | rfl | rfl | rfl | rfl | rfl <;> omega
theorem cores_ways {s : Shp} : (faultS s ≠ 0 ∧ coresS s = 0) ∨ (faultS s = 0 ∧ s.Ok ∧ ((s.t ≤ s.d ∧ coresS s = 1) ∨ (s.d < s.t ∧ s.l < s.d ∧ coresS s = manyS s ∧ manyS s ≤ 8))) := by
  unfold faultS coresS
  by_cases hs : s.Ok
  · have e : ¬ ¬ s.Ok := fun q => q hs
    rw [if_neg e, if_neg e]
    by_cases hd : s.d < s.t
    · rw [if_pos hd, if_pos hd]
      unfold faultH coresH
      by_cases hl : s.d ≤ s.l
      · rw [if_pos hl, if_pos hl]; exact .inl ⟨by decide, rfl⟩
      · rw [if_neg hl, if_neg hl]
        by_cases h8 : 8 < manyS s
        · rw [if_pos h8, if_pos h8]; exact .inl ⟨by decide, rfl⟩
        · rw [if_neg h8, if_neg h8]; exact .inr ⟨rfl, hs, .inr ⟨hd, by omega, rfl, by omega⟩⟩
    · rw [if_neg hd, if_neg hd]; exact .inr ⟨rfl, hs, .inl ⟨by omega, rfl⟩⟩
  · have e : ¬ s.Ok := hs
    rw [if_pos e, if_pos e]; exact .inl ⟨by decide, rfl⟩

set_option maxRecDepth 100000 in
set_option maxHeartbeats 32000000 in
theorem walk_ClassLeast (w0 : World) (s : Shp) (hT : DTab w0) : Calls Tryz.prog 5 #[s.val] w0 fun e w' => e = .returned (.bool true) ∧ Below w0.heap.size w0 w' := by
  have TT := Lib.hid (fun W (b : Below w0.heap.size w0 W) => (hT.via b : DTab W))
  clear hT
  have AW := Lib.hid (fun W (b : Below w0.heap.size w0 W) => awake14_any W (TT.out W b))
  have KK := Lib.hid (fun W (b : Below w0.heap.size w0 W) => ccores_any s W (TT.out W b))
  have HH := Lib.hid (fun W (b : Below w0.heap.size w0 W) => cheavy_any s W (TT.out W b))
  have R := Lib.hid (Rwk.start w0 [(23, [.int .i64 s.t, .int .i64 s.l, .int .i64 s.m, .int .i64 s.d, .int .i64 s.p])])
  rcases cores_ways (s := s) with ⟨hf, hc⟩ | ⟨hf, hs, hway⟩
  · rw [hc] at KK
    obtain ⟨e, he⟩ : ∃ n, n = faultS s := ⟨_, rfl⟩
    rw [← he] at KK hf
    have hb : (e != 0) = true := bne_iff_ne.mpr hf
    clear he hf hc
    obtain ⟨t, l, m, d, p⟩ := s
    unfold Shp.val at KK ⊢
    dsimp only at KK R ⊢
    go_enter Tryz.func5, Tryz.ntmps5
    go_wp2_with fail
    refine (AW.out _ R.out.bel).mono ?_
    rintro e w1 ⟨rfl, bb⟩
    have R := Lib.hid (R.out.next bb)
    clear bb AW
    obtain ⟨⟨c0, c1⟩, c2, c3, c4⟩ := shp_cells (s := ⟨t, l, m, d, p⟩) R.out
    dsimp only at c0 c1 c2 c3 c4
    go_wp2_with fail
    refine (KK.out _ R.out.bel).mono ?_
    rintro e2 w2 ⟨rfl, bb⟩
    have R := Lib.hid (R.out.next bb)
    clear bb KK c0 c1 c2 c3 c4
    go_wp2
    go_ret
    exact ⟨rfl, R.out.bel⟩
  · rw [hf] at KK
    have BF : 1 ≤ coresS s ∧ coresS s ≤ 8 ∧ s.t + (coresS s - 1) * s.l ≤ coresS s * s.d ∧ (s.d < s.t → 2 ≤ coresS s ∧ (coresS s - 1) * s.d < s.t + (coresS s - 2) * s.l) ∧ (s.t ≤ s.d → coresS s = 1) := by
      rcases hway with ⟨hd, hc⟩ | ⟨hd, hl, hc, h8⟩
      · rw [hc]; exact ⟨by decide, by decide, by omega, fun q => absurd q (by omega), fun _ => rfl⟩
      · rw [hc]
        obtain ⟨a1, a2, a3⟩ := least_heavy hs hd hl h8
        exact ⟨by omega, h8, a2, fun _ => ⟨a1, a3⟩, fun q => absurd q (by omega)⟩
    have HV : heavyS s = decide (s.d < s.t) := decide_eq_decide.mpr ⟨fun q => q.2, fun q => ⟨hs, q⟩⟩
    rw [HV] at HH
    obtain ⟨n, hn⟩ : ∃ n, n = coresS s := ⟨_, rfl⟩
    rw [← hn] at KK BF
    clear hway hn HV hf
    obtain ⟨f1, f8, f2, f3, f4⟩ := BF
    have BB := Lib.hid (fun W (b : Below w0.heap.size w0 W) => cbound_any s n W (TT.out W b))
    have hbd := least_bound hs f1 f8 f2
    obtain ⟨b, hb⟩ : ∃ x, x = boundS s n := ⟨_, rfl⟩
    rw [← hb] at BB hbd
    obtain ⟨⟨t0, t1⟩, ⟨l0, l1⟩, -, hp, d0, d1⟩ := hs
    have d2 := (isP_le hp).2
    have hn8 : n = 1 ∨ n = 2 ∨ n = 3 ∨ n = 4 ∨ n = 5 ∨ n = 6 ∨ n = 7 ∨ n = 8 := by omega
    obtain ⟨q1, hq1⟩ : ∃ q, q = n * s.d := ⟨_, rfl⟩
    obtain ⟨n1, hn1⟩ : ∃ q, q = n - 1 := ⟨_, rfl⟩
    obtain ⟨q2, hq2⟩ : ∃ q, q = n1 * s.l := ⟨_, rfl⟩
    obtain ⟨q3, hq3⟩ : ∃ q, q = s.t + q2 := ⟨_, rfl⟩
    obtain ⟨q4, hq4⟩ : ∃ q, q = n1 * s.d := ⟨_, rfl⟩
    obtain ⟨n2, hn2⟩ : ∃ q, q = n - 2 := ⟨_, rfl⟩
    obtain ⟨q5, hq5⟩ : ∃ q, q = n2 * s.l := ⟨_, rfl⟩
    obtain ⟨q6, hq6⟩ : ∃ q, q = s.t + q5 := ⟨_, rfl⟩
    have bd2 : 0 ≤ q2 ∧ q2 ≤ 28672 := by rw [hq2, hn1]; rcases hn8 with h | h | h | h | h | h | h | h <;> rw [h] <;> constructor <;> omega
    have bd5 : -4096 ≤ q5 ∧ q5 ≤ 28672 := by rw [hq5, hn2]; rcases hn8 with h | h | h | h | h | h | h | h <;> rw [h] <;> constructor <;> omega
    have W1 := Lib.hid (show wrap64 (n * s.d) = q1 by rw [hq1]; rcases hn8 with h | h | h | h | h | h | h | h <;> rw [h] <;> go_arith)
    have W2 := Lib.hid (show wrap64 (n - 1) = n1 by rw [hn1]; go_arith)
    have W3 := Lib.hid (show wrap64 (n1 * s.l) = q2 by rw [hq2, hn1]; rcases hn8 with h | h | h | h | h | h | h | h <;> rw [h] <;> go_arith)
    have W4 := Lib.hid (show wrap64 (s.t + q2) = q3 by rw [hq3]; go_arith)
    have W5 := Lib.hid (show wrap64 (n1 * s.d) = q4 by rw [hq4, hn1]; rcases hn8 with h | h | h | h | h | h | h | h <;> rw [h] <;> go_arith)
    have W6 := Lib.hid (show wrap64 (n - 2) = n2 by rw [hn2]; go_arith)
    have W7 := Lib.hid (show wrap64 (n2 * s.l) = q5 by rw [hq5, hn2]; rcases hn8 with h | h | h | h | h | h | h | h <;> rw [h] <;> go_arith)
    have W8 := Lib.hid (show wrap64 (s.t + q5) = q6 by rw [hq6]; go_arith)
    have H1 := Lib.hid (show q3 ≤ q1 by rw [hq3, hq2, hn1, hq1]; exact f2)
    rw [← hn1] at f3
    rw [← hn2] at f3
    rw [← hq4, ← hq5, ← hq6] at f3
    have H0 := Lib.hid hbd
    clear hb hbd hp bd2 bd5 f2
    by_cases hd : s.d < s.t
    · obtain ⟨g1, g2⟩ := f3 hd
      have H3 := Lib.hid g1
      have H4 := Lib.hid f8
      have H5 := Lib.hid g2
      have H9 := Lib.hid (show decide (wrap64 ((n - 1) * s.d) < wrap64 (s.t + wrap64 ((n - 2) * s.l))) = true by rw [← hn1, ← hn2, W5.out, W7.out, W8.out]; exact decide_eq_true g2)
      rw [decide_eq_true hd] at HH
      clear f1 f8 f3 f4 g1 g2 hq1 hq2 hq3 hq4 hq5 hq6 hn1 hn2 t0 t1 l0 l1 d0 d1 d2 hn8 hd
      obtain ⟨t, l, m, d, p⟩ := s
      unfold Shp.val at HH BB KK ⊢
      dsimp only at HH BB KK R W1 W2 W3 W4 W5 W6 W7 W8 H0 H1 H9 ⊢
      go_enter Tryz.func5, Tryz.ntmps5
      go_wp2_with fail
      refine (AW.out _ R.out.bel).mono ?_
      rintro e w1 ⟨rfl, bb⟩
      have R := Lib.hid (R.out.next bb)
      clear bb AW
      obtain ⟨⟨c0, c1⟩, c2, c3, c4⟩ := shp_cells (s := ⟨t, l, m, d, p⟩) R.out
      dsimp only at c0 c1 c2 c3 c4
      go_wp2_with fail
      refine (KK.out _ R.out.bel).mono ?_
      rintro e2 w2 ⟨rfl, bb⟩
      have R := Lib.hid (R.out.next bb)
      clear bb KK c0 c1 c2 c3 c4
      go_wp2_with fail
      refine wp_region_facts' [16, 17, 18, 19, 20, 21, 22, 23, 24, 25, 26, 27, 28, 29, 30, 31, 32, 33, 34, 35, 36] [] [(6, false)] (by kernel_rfl) (by kernel_rfl) (by kernel_rfl) (by intro d hd; simp at hd ⊢; omega) (Rwk w0 [(23, [.int .i64 t, .int .i64 l, .int .i64 m, .int .i64 d, .int .i64 p])]) (PhiL6 w0 t l m d p n b n1 n2 q1 q2 q3 q4 q5 q6)
        (fun y y' h hb => h.next hb) (phiL6_below w0 t l m d p n b n1 n2 q1 q2 q3 q4 q5 q6) (R.out.next ((Below.refl _ _).drew)) (fun p hp v w hv => by
          simp only [List.mem_cons, List.not_mem_nil, or_false] at hp
          subst hp
          exact hv) (fun kq hkq => by simp at hkq) ?hstep ?hend
      case hstep =>
        intro kq o ho hw a w hI hA hd K hK
        obtain ⟨ρ, hρ⟩ : ∃ ρ, a.eval = ρ := ⟨_, rfl⟩
        rw [hρ] at hA hd
        match kq, ho with
        | 0, ho =>
          have hoo := Option.some.inj ho
          subst hoo
          exact fx_val hK hρ _ (by have h := hA.tmp 1 (by decide); have h0 := (shp_cells (s := ⟨t, l, m, d, p⟩) hI).1.1; have h1 := (shp_cells (s := ⟨t, l, m, d, p⟩) hI).1.2; have h2 := (shp_cells (s := ⟨t, l, m, d, p⟩) hI).2.1; have h3 := (shp_cells (s := ⟨t, l, m, d, p⟩) hI).2.2.1; have h4 := (shp_cells (s := ⟨t, l, m, d, p⟩) hI).2.2.2; simp [execOp, h, h0, h1, h2, h3, h4, go_sem]) rfl
        | 1, ho =>
          have hoo := Option.some.inj ho
          subst hoo
          exact fx_val hK hρ (.int .i64 n) (by have h := hA.tmp 3 (by decide); simp [execOp, h, go_sem]) rfl
        | 2, ho =>
          have hoo := Option.some.inj ho
          subst hoo
          have f0 : (ρ (.tmp 16)) = .agg #[.int .i64 t, .int .i64 l, .int .i64 m, .int .i64 d, .int .i64 p] := hd ⟨0, .data⟩ (by simp) (by rfl)
          have f1 : (ρ (.tmp 17)) = .int .i64 n := hd ⟨1, .data⟩ (by simp) (by rfl)
          exact fx_call hK hρ 13 _ _ #[.agg #[.int .i64 t, .int .i64 l, .int .i64 m, .int .i64 d, .int .i64 p], .int .i64 n] rfl (by simp only [List.map_toArray, List.map_cons, List.map_nil, hA.const, f0, f1]) (eg_of Tryz.func13 (by kernel_rfl) rfl) ((BB.out w hI.bel).mono fun e w' ⟨he, hb⟩ => ⟨_, he, rfl, hb⟩)
        | 3, ho =>
          have hoo := Option.some.inj ho
          subst hoo
          exact fx_val hK hρ (.pointer (some ⟨w0.heap.size, 3, none⟩)) (by have h := hA.tmp 1 (by decide); simp [execOp, h, go_sem]) rfl
        | 4, ho =>
          have hoo := Option.some.inj ho
          subst hoo
          have f3 : (ρ (.tmp 19)) = .pointer (some ⟨w0.heap.size, 3, none⟩) := hd ⟨3, .data⟩ (by simp) (by rfl)
          have h0 := (shp_cells (s := ⟨t, l, m, d, p⟩) hI).2.2.1
          exact fx_val hK hρ (.int .i64 d) (by simp [execOp, f3, h0, go_sem]) rfl
        | 5, ho =>
          have hoo := Option.some.inj ho
          subst hoo
          have f2 : (ρ (.tmp 18)) = .int .i64 b := hd ⟨2, .data⟩ (by simp) (by rfl)
          have f4 : (ρ (.tmp 20)) = .int .i64 d := hd ⟨4, .data⟩ (by simp) (by rfl)
          have h0 := H0.out
          exact fx_val hK hρ (.bool false) (by simp [execOp, f2, f4, hA.const, h0, go_sem]) rfl
        | 6, ho =>
          have hoo := Option.some.inj ho
          subst hoo
          have f5 : (ρ (.tmp 21)) = .bool false := hd ⟨5, .data⟩ (by simp) (by rfl)
          exact fx_val hK hρ (.bool false) (by simp [execOp, f5, hA.const, go_sem]) rfl
        | 7, ho =>
          have hoo := Option.some.inj ho
          subst hoo
          exact fx_val hK hρ (.int .i64 n) (by have h := hA.tmp 3 (by decide); simp [execOp, h, go_sem]) rfl
        | 8, ho =>
          have hoo := Option.some.inj ho
          subst hoo
          exact fx_val hK hρ (.pointer (some ⟨w0.heap.size, 3, none⟩)) (by have h := hA.tmp 1 (by decide); simp [execOp, h, go_sem]) rfl
        | 9, ho =>
          have hoo := Option.some.inj ho
          subst hoo
          have f8 : (ρ (.tmp 24)) = .pointer (some ⟨w0.heap.size, 3, none⟩) := hd ⟨8, .data⟩ (by simp) (by rfl)
          have h0 := (shp_cells (s := ⟨t, l, m, d, p⟩) hI).2.2.1
          exact fx_val hK hρ (.int .i64 d) (by simp [execOp, f8, h0, go_sem]) rfl
        | 10, ho =>
          have hoo := Option.some.inj ho
          subst hoo
          have f7 : (ρ (.tmp 23)) = .int .i64 n := hd ⟨7, .data⟩ (by simp) (by rfl)
          have f9 : (ρ (.tmp 25)) = .int .i64 d := hd ⟨9, .data⟩ (by simp) (by rfl)
          have h0 := (IntWalk.i64_left _).trans W1.out
          exact fx_val hK hρ (.int .i64 q1) (by simp [execOp, f7, f9, hA.const, h0, go_sem]) rfl
        | 11, ho =>
          have hoo := Option.some.inj ho
          subst hoo
          exact fx_val hK hρ (.pointer (some ⟨w0.heap.size, 0, none⟩)) (by have h := hA.tmp 1 (by decide); simp [execOp, h, go_sem]) rfl
        | 12, ho =>
          have hoo := Option.some.inj ho
          subst hoo
          have f11 : (ρ (.tmp 27)) = .pointer (some ⟨w0.heap.size, 0, none⟩) := hd ⟨11, .data⟩ (by simp) (by rfl)
          have h0 := (shp_cells (s := ⟨t, l, m, d, p⟩) hI).1.1
          exact fx_val hK hρ (.int .i64 t) (by simp [execOp, f11, h0, go_sem]) rfl
        | 13, ho =>
          have hoo := Option.some.inj ho
          subst hoo
          exact fx_val hK hρ (.int .i64 n) (by have h := hA.tmp 3 (by decide); simp [execOp, h, go_sem]) rfl
        | 14, ho =>
          have hoo := Option.some.inj ho
          subst hoo
          have f13 : (ρ (.tmp 29)) = .int .i64 n := hd ⟨13, .data⟩ (by simp) (by rfl)
          have h0 := (IntWalk.i64_left _).trans W2.out
          exact fx_val hK hρ (.int .i64 n1) (by simp [execOp, f13, hA.const, h0, go_sem]) rfl
        | 15, ho =>
          have hoo := Option.some.inj ho
          subst hoo
          exact fx_val hK hρ (.pointer (some ⟨w0.heap.size, 1, none⟩)) (by have h := hA.tmp 1 (by decide); simp [execOp, h, go_sem]) rfl
        | 16, ho =>
          have hoo := Option.some.inj ho
          subst hoo
          have f15 : (ρ (.tmp 31)) = .pointer (some ⟨w0.heap.size, 1, none⟩) := hd ⟨15, .data⟩ (by simp) (by rfl)
          have h0 := (shp_cells (s := ⟨t, l, m, d, p⟩) hI).1.2
          exact fx_val hK hρ (.int .i64 l) (by simp [execOp, f15, h0, go_sem]) rfl
        | 17, ho =>
          have hoo := Option.some.inj ho
          subst hoo
          have f14 : (ρ (.tmp 30)) = .int .i64 n1 := hd ⟨14, .data⟩ (by simp) (by rfl)
          have f16 : (ρ (.tmp 32)) = .int .i64 l := hd ⟨16, .data⟩ (by simp) (by rfl)
          have h0 := (IntWalk.i64_left _).trans W3.out
          exact fx_val hK hρ (.int .i64 q2) (by simp [execOp, f14, f16, hA.const, h0, go_sem]) rfl
        | 18, ho =>
          have hoo := Option.some.inj ho
          subst hoo
          have f12 : (ρ (.tmp 28)) = .int .i64 t := hd ⟨12, .data⟩ (by simp) (by rfl)
          have f17 : (ρ (.tmp 33)) = .int .i64 q2 := hd ⟨17, .data⟩ (by simp) (by rfl)
          have h0 := (IntWalk.i64_left _).trans W4.out
          exact fx_val hK hρ (.int .i64 q3) (by simp [execOp, f12, f17, hA.const, h0, go_sem]) rfl
        | 19, ho =>
          have hoo := Option.some.inj ho
          subst hoo
          have f10 : (ρ (.tmp 26)) = .int .i64 q1 := hd ⟨10, .data⟩ (by simp) (by rfl)
          have f18 : (ρ (.tmp 34)) = .int .i64 q3 := hd ⟨18, .data⟩ (by simp) (by rfl)
          have h0 := H1.out
          exact fx_val hK hρ (.bool false) (by simp [execOp, f10, f18, hA.const, h0, go_sem]) rfl
        | 20, ho =>
          have hoo := Option.some.inj ho
          subst hoo
          have f6 : (ρ (.tmp 22)) = .bool false := hd ⟨6, .data⟩ (by simp) (by rfl)
          have f19 : (ρ (.tmp 35)) = .bool false := hd ⟨19, .data⟩ (by simp) (by rfl)
          exact fx_val hK hρ (.bool false) (by simp [execOp, f6, f19, hA.const, hA.const, go_sem]) rfl
        | kq + 21, ho => simp at ho
      case hend =>
        intro vals xw hI hF
        have fz : vals 36 = .bool false := hF 20 (by decide)
        simp only [fz, fillA, fillL, List.contains_cons, List.contains_nil, Nat.reduceBEq, Bool.or_false, Bool.false_or, Bool.or_true, Bool.true_or, cond_true, cond_false, Nat.zero_add, Nat.reduceAdd]
        have R := Lib.hid hI
        clear hF hI
        obtain ⟨⟨c0, c1⟩, c2, c3, c4⟩ := shp_cells (s := ⟨t, l, m, d, p⟩) R.out
        dsimp only at c0 c1 c2 c3 c4
        go_wp2_with fail
        refine (HH.out _ R.out.bel).mono ?_
        rintro e2 W9 ⟨rfl, bb⟩
        have R := Lib.hid (R.out.next bb)
        clear bb c0 c1 c2 c3 c4
        obtain ⟨⟨c0, c1⟩, c2, c3, c4⟩ := shp_cells (s := ⟨t, l, m, d, p⟩) R.out
        dsimp only at c0 c1 c2 c3 c4
        go_wp2_with fail
        refine (HH.out _ R.out.bel).mono ?_
        rintro e2 W9 ⟨rfl, bb⟩
        have R := Lib.hid (R.out.next bb)
        clear bb c0 c1 c2 c3 c4
        obtain ⟨⟨c0, c1⟩, c2, c3, c4⟩ := shp_cells (s := ⟨t, l, m, d, p⟩) R.out
        dsimp only at c0 c1 c2 c3 c4
        have h3 := H3.out
        have h4 := H4.out
        have h5 := H5.out
        go_wp2
        go_ret
        exact ⟨congrArg (fun b => Ending.returned (.bool b)) H9.out, R.out.bel⟩
    · have H2 := Lib.hid (f4 (by omega))
      rw [decide_eq_false hd] at HH
      clear f1 f8 f3 f4 hq1 hq2 hq3 hq4 hq5 hq6 hn1 hn2 t0 t1 l0 l1 d0 d1 d2 hn8 hd
      obtain ⟨t, l, m, d, p⟩ := s
      unfold Shp.val at HH BB KK ⊢
      dsimp only at HH BB KK R W1 W2 W3 W4 W5 W6 W7 W8 H0 H1 ⊢
      go_enter Tryz.func5, Tryz.ntmps5
      go_wp2_with fail
      refine (AW.out _ R.out.bel).mono ?_
      rintro e w1 ⟨rfl, bb⟩
      have R := Lib.hid (R.out.next bb)
      clear bb AW
      obtain ⟨⟨c0, c1⟩, c2, c3, c4⟩ := shp_cells (s := ⟨t, l, m, d, p⟩) R.out
      dsimp only at c0 c1 c2 c3 c4
      go_wp2_with fail
      refine (KK.out _ R.out.bel).mono ?_
      rintro e2 w2 ⟨rfl, bb⟩
      have R := Lib.hid (R.out.next bb)
      clear bb KK c0 c1 c2 c3 c4
      go_wp2_with fail
      refine wp_region_facts' [16, 17, 18, 19, 20, 21, 22, 23, 24, 25, 26, 27, 28, 29, 30, 31, 32, 33, 34, 35, 36] [] [(6, false)] (by kernel_rfl) (by kernel_rfl) (by kernel_rfl) (by intro d hd; simp at hd ⊢; omega) (Rwk w0 [(23, [.int .i64 t, .int .i64 l, .int .i64 m, .int .i64 d, .int .i64 p])]) (PhiL6 w0 t l m d p n b n1 n2 q1 q2 q3 q4 q5 q6)
        (fun y y' h hb => h.next hb) (phiL6_below w0 t l m d p n b n1 n2 q1 q2 q3 q4 q5 q6) (R.out.next ((Below.refl _ _).drew)) (fun p hp v w hv => by
          simp only [List.mem_cons, List.not_mem_nil, or_false] at hp
          subst hp
          exact hv) (fun kq hkq => by simp at hkq) ?hstep ?hend
      case hstep =>
        intro kq o ho hw a w hI hA hd K hK
        obtain ⟨ρ, hρ⟩ : ∃ ρ, a.eval = ρ := ⟨_, rfl⟩
        rw [hρ] at hA hd
        match kq, ho with
        | 0, ho =>
          have hoo := Option.some.inj ho
          subst hoo
          exact fx_val hK hρ _ (by have h := hA.tmp 1 (by decide); have h0 := (shp_cells (s := ⟨t, l, m, d, p⟩) hI).1.1; have h1 := (shp_cells (s := ⟨t, l, m, d, p⟩) hI).1.2; have h2 := (shp_cells (s := ⟨t, l, m, d, p⟩) hI).2.1; have h3 := (shp_cells (s := ⟨t, l, m, d, p⟩) hI).2.2.1; have h4 := (shp_cells (s := ⟨t, l, m, d, p⟩) hI).2.2.2; simp [execOp, h, h0, h1, h2, h3, h4, go_sem]) rfl
        | 1, ho =>
          have hoo := Option.some.inj ho
          subst hoo
          exact fx_val hK hρ (.int .i64 n) (by have h := hA.tmp 3 (by decide); simp [execOp, h, go_sem]) rfl
        | 2, ho =>
          have hoo := Option.some.inj ho
          subst hoo
          have f0 : (ρ (.tmp 16)) = .agg #[.int .i64 t, .int .i64 l, .int .i64 m, .int .i64 d, .int .i64 p] := hd ⟨0, .data⟩ (by simp) (by rfl)
          have f1 : (ρ (.tmp 17)) = .int .i64 n := hd ⟨1, .data⟩ (by simp) (by rfl)
          exact fx_call hK hρ 13 _ _ #[.agg #[.int .i64 t, .int .i64 l, .int .i64 m, .int .i64 d, .int .i64 p], .int .i64 n] rfl (by simp only [List.map_toArray, List.map_cons, List.map_nil, hA.const, f0, f1]) (eg_of Tryz.func13 (by kernel_rfl) rfl) ((BB.out w hI.bel).mono fun e w' ⟨he, hb⟩ => ⟨_, he, rfl, hb⟩)
        | 3, ho =>
          have hoo := Option.some.inj ho
          subst hoo
          exact fx_val hK hρ (.pointer (some ⟨w0.heap.size, 3, none⟩)) (by have h := hA.tmp 1 (by decide); simp [execOp, h, go_sem]) rfl
        | 4, ho =>
          have hoo := Option.some.inj ho
          subst hoo
          have f3 : (ρ (.tmp 19)) = .pointer (some ⟨w0.heap.size, 3, none⟩) := hd ⟨3, .data⟩ (by simp) (by rfl)
          have h0 := (shp_cells (s := ⟨t, l, m, d, p⟩) hI).2.2.1
          exact fx_val hK hρ (.int .i64 d) (by simp [execOp, f3, h0, go_sem]) rfl
        | 5, ho =>
          have hoo := Option.some.inj ho
          subst hoo
          have f2 : (ρ (.tmp 18)) = .int .i64 b := hd ⟨2, .data⟩ (by simp) (by rfl)
          have f4 : (ρ (.tmp 20)) = .int .i64 d := hd ⟨4, .data⟩ (by simp) (by rfl)
          have h0 := H0.out
          exact fx_val hK hρ (.bool false) (by simp [execOp, f2, f4, hA.const, h0, go_sem]) rfl
        | 6, ho =>
          have hoo := Option.some.inj ho
          subst hoo
          have f5 : (ρ (.tmp 21)) = .bool false := hd ⟨5, .data⟩ (by simp) (by rfl)
          exact fx_val hK hρ (.bool false) (by simp [execOp, f5, hA.const, go_sem]) rfl
        | 7, ho =>
          have hoo := Option.some.inj ho
          subst hoo
          exact fx_val hK hρ (.int .i64 n) (by have h := hA.tmp 3 (by decide); simp [execOp, h, go_sem]) rfl
        | 8, ho =>
          have hoo := Option.some.inj ho
          subst hoo
          exact fx_val hK hρ (.pointer (some ⟨w0.heap.size, 3, none⟩)) (by have h := hA.tmp 1 (by decide); simp [execOp, h, go_sem]) rfl
        | 9, ho =>
          have hoo := Option.some.inj ho
          subst hoo
          have f8 : (ρ (.tmp 24)) = .pointer (some ⟨w0.heap.size, 3, none⟩) := hd ⟨8, .data⟩ (by simp) (by rfl)
          have h0 := (shp_cells (s := ⟨t, l, m, d, p⟩) hI).2.2.1
          exact fx_val hK hρ (.int .i64 d) (by simp [execOp, f8, h0, go_sem]) rfl
        | 10, ho =>
          have hoo := Option.some.inj ho
          subst hoo
          have f7 : (ρ (.tmp 23)) = .int .i64 n := hd ⟨7, .data⟩ (by simp) (by rfl)
          have f9 : (ρ (.tmp 25)) = .int .i64 d := hd ⟨9, .data⟩ (by simp) (by rfl)
          have h0 := (IntWalk.i64_left _).trans W1.out
          exact fx_val hK hρ (.int .i64 q1) (by simp [execOp, f7, f9, hA.const, h0, go_sem]) rfl
        | 11, ho =>
          have hoo := Option.some.inj ho
          subst hoo
          exact fx_val hK hρ (.pointer (some ⟨w0.heap.size, 0, none⟩)) (by have h := hA.tmp 1 (by decide); simp [execOp, h, go_sem]) rfl
        | 12, ho =>
          have hoo := Option.some.inj ho
          subst hoo
          have f11 : (ρ (.tmp 27)) = .pointer (some ⟨w0.heap.size, 0, none⟩) := hd ⟨11, .data⟩ (by simp) (by rfl)
          have h0 := (shp_cells (s := ⟨t, l, m, d, p⟩) hI).1.1
          exact fx_val hK hρ (.int .i64 t) (by simp [execOp, f11, h0, go_sem]) rfl
        | 13, ho =>
          have hoo := Option.some.inj ho
          subst hoo
          exact fx_val hK hρ (.int .i64 n) (by have h := hA.tmp 3 (by decide); simp [execOp, h, go_sem]) rfl
        | 14, ho =>
          have hoo := Option.some.inj ho
          subst hoo
          have f13 : (ρ (.tmp 29)) = .int .i64 n := hd ⟨13, .data⟩ (by simp) (by rfl)
          have h0 := (IntWalk.i64_left _).trans W2.out
          exact fx_val hK hρ (.int .i64 n1) (by simp [execOp, f13, hA.const, h0, go_sem]) rfl
        | 15, ho =>
          have hoo := Option.some.inj ho
          subst hoo
          exact fx_val hK hρ (.pointer (some ⟨w0.heap.size, 1, none⟩)) (by have h := hA.tmp 1 (by decide); simp [execOp, h, go_sem]) rfl
        | 16, ho =>
          have hoo := Option.some.inj ho
          subst hoo
          have f15 : (ρ (.tmp 31)) = .pointer (some ⟨w0.heap.size, 1, none⟩) := hd ⟨15, .data⟩ (by simp) (by rfl)
          have h0 := (shp_cells (s := ⟨t, l, m, d, p⟩) hI).1.2
          exact fx_val hK hρ (.int .i64 l) (by simp [execOp, f15, h0, go_sem]) rfl
        | 17, ho =>
          have hoo := Option.some.inj ho
          subst hoo
          have f14 : (ρ (.tmp 30)) = .int .i64 n1 := hd ⟨14, .data⟩ (by simp) (by rfl)
          have f16 : (ρ (.tmp 32)) = .int .i64 l := hd ⟨16, .data⟩ (by simp) (by rfl)
          have h0 := (IntWalk.i64_left _).trans W3.out
          exact fx_val hK hρ (.int .i64 q2) (by simp [execOp, f14, f16, hA.const, h0, go_sem]) rfl
        | 18, ho =>
          have hoo := Option.some.inj ho
          subst hoo
          have f12 : (ρ (.tmp 28)) = .int .i64 t := hd ⟨12, .data⟩ (by simp) (by rfl)
          have f17 : (ρ (.tmp 33)) = .int .i64 q2 := hd ⟨17, .data⟩ (by simp) (by rfl)
          have h0 := (IntWalk.i64_left _).trans W4.out
          exact fx_val hK hρ (.int .i64 q3) (by simp [execOp, f12, f17, hA.const, h0, go_sem]) rfl
        | 19, ho =>
          have hoo := Option.some.inj ho
          subst hoo
          have f10 : (ρ (.tmp 26)) = .int .i64 q1 := hd ⟨10, .data⟩ (by simp) (by rfl)
          have f18 : (ρ (.tmp 34)) = .int .i64 q3 := hd ⟨18, .data⟩ (by simp) (by rfl)
          have h0 := H1.out
          exact fx_val hK hρ (.bool false) (by simp [execOp, f10, f18, hA.const, h0, go_sem]) rfl
        | 20, ho =>
          have hoo := Option.some.inj ho
          subst hoo
          have f6 : (ρ (.tmp 22)) = .bool false := hd ⟨6, .data⟩ (by simp) (by rfl)
          have f19 : (ρ (.tmp 35)) = .bool false := hd ⟨19, .data⟩ (by simp) (by rfl)
          exact fx_val hK hρ (.bool false) (by simp [execOp, f6, f19, hA.const, hA.const, go_sem]) rfl
        | kq + 21, ho => simp at ho
      case hend =>
        intro vals xw hI hF
        have fz : vals 36 = .bool false := hF 20 (by decide)
        simp only [fz, fillA, fillL, List.contains_cons, List.contains_nil, Nat.reduceBEq, Bool.or_false, Bool.false_or, Bool.or_true, Bool.true_or, cond_true, cond_false, Nat.zero_add, Nat.reduceAdd]
        have R := Lib.hid hI
        clear hF hI
        obtain ⟨⟨c0, c1⟩, c2, c3, c4⟩ := shp_cells (s := ⟨t, l, m, d, p⟩) R.out
        dsimp only at c0 c1 c2 c3 c4
        go_wp2_with fail
        refine (HH.out _ R.out.bel).mono ?_
        rintro e2 W9 ⟨rfl, bb⟩
        have R := Lib.hid (R.out.next bb)
        clear bb c0 c1 c2 c3 c4
        have h2 := H2.out
        go_wp2
        go_ret
        exact ⟨rfl, R.out.bel⟩

end Go.Proofs.YtjmledfmiljoiaaGreatDoor
