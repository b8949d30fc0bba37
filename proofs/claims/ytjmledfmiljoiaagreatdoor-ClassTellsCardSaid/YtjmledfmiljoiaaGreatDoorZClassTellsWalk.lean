/- The walk of ClassTells in the seat YtjmledfmiljoiaaGreatDoor (printed by class/mk_tells.py). No statement is proved here. -/
import Derived.Test.YtjmledfmiljoiaaGreatDoorZM22
import Derived.Test.YtjmledfmiljoiaaGreatDoorZClassRef
import Derived.Test.YtjmledfmiljoiaaGreatDoorZM4
set_option linter.unusedSimpArgs false
set_option linter.unusedVariables false
set_option linter.unusedSimpArgs false
namespace Go.Proofs.YtjmledfmiljoiaaGreatDoor
open Go Go.RowKit

def PhiTy (w0 : World) (t l m d p n e k b : Int) (hv : Bool) : Nat → Value → World → Prop
  | 0, v, w => v = .int .i64 n
  | 1, v, w => v = .int .i64 n
  | 2, v, w => v = .bool true
  | 3, v, w => v = .bool true
  | 4, v, w => v = .int .i64 e
  | 5, v, w => v = .int .i64 e
  | 6, v, w => v = .bool true
  | 7, v, w => v = .bool true
  | 8, v, w => v = .bool true
  | 9, v, w => v = .agg #[.int .i64 t, .int .i64 l, .int .i64 m, .int .i64 d, .int .i64 p]
  | 10, v, w => v = .int .i64 0
  | 11, v, w => v = .bool true
  | 12, v, w => v = .bool true
  | 13, v, w => v = .bool true
  | 14, v, w => v = .bool true
  | 15, v, w => v = .bool true
  | 16, v, w => v = .agg #[.int .i64 t, .int .i64 l, .int .i64 m, .int .i64 d, .int .i64 p]
  | 17, v, w => v = .bool hv
  | 18, v, w => v = .bool true
  | 19, v, w => v = .bool true
  | 20, v, w => v = .pointer (some ⟨w0.heap.size, 0, none⟩)
  | 21, v, w => v = .int .i64 t
  | 22, v, w => v = .pointer (some ⟨w0.heap.size, 3, none⟩)
  | 23, v, w => v = .int .i64 d
  | 24, v, w => v = .bool hv
  | 25, v, w => v = .bool hv
  | 26, v, w => v = .bool true
  | 27, v, w => v = .bool true
  | 28, v, w => v = .bool true
  | 29, v, w => v = .agg #[.int .i64 t, .int .i64 l, .int .i64 m, .int .i64 d, .int .i64 p]
  | 30, v, w => v = .int .i64 k
  | 31, v, w => v = .int .i64 b
  | 32, v, w => v = .agg #[.int .i64 t, .int .i64 l, .int .i64 m, .int .i64 d, .int .i64 p]
  | 33, v, w => v = .int .i64 k
  | 34, v, w => v = .int .i64 b
  | 35, v, w => v = .bool true
  | 36, v, w => v = .bool true
  | 37, v, w => v = .bool true
  | _, _, _ => True
theorem phiTy_below (w0 : World) (t l m d p n e k b : Int) (hv : Bool) : ∀ kq v w w', PhiTy w0 t l m d p n e k b hv kq v w → Below w.heap.size w w' → PhiTy w0 t l m d p n e k b hv kq v w' := by
  intro kq v w w' h hb
  match kq, h with
  | 0, h => exact h
  | 1, h => exact h
  | 2, h => exact h
  | 3, h => exact h
  | 4, h => exact h
  | 5, h => exact h
  | 6, h => exact h
  | 7, h => exact h
  | 8, h => exact h
  | 9, h => exact h
  | 10, h => exact h
  | 11, h => exact h
  | 12, h => exact h
  | 13, h => exact h
  | 14, h => exact h
  | 15, h => exact h
  | 16, h => exact h
  | 17, h => exact h
  | 18, h => exact h
  | 19, h => exact h
  | 20, h => exact h
  | 21, h => exact h
  | 22, h => exact h
  | 23, h => exact h
  | 24, h => exact h
  | 25, h => exact h
  | 26, h => exact h
  | 27, h => exact h
  | 28, h => exact h
  | 29, h => exact h
  | 30, h => exact h
  | 31, h => exact h
  | 32, h => exact h
  | 33, h => exact h
  | 34, h => exact h
  | 35, h => exact h
  | 36, h => exact h
  | 37, h => exact h
  | kq + 38, h => exact trivial
def PhiTn (w0 : World) (t l m d p n e k b : Int) (hv : Bool) : Nat → Value → World → Prop
  | 0, v, w => v = .int .i64 n
  | 1, v, w => v = .int .i64 n
  | 2, v, w => v = .bool true
  | 3, v, w => v = .bool true
  | 4, v, w => v = .int .i64 e
  | 5, v, w => v = .int .i64 e
  | 6, v, w => v = .bool true
  | 7, v, w => v = .bool true
  | 8, v, w => v = .bool true
  | 9, v, w => v = .agg #[.int .i64 t, .int .i64 l, .int .i64 m, .int .i64 d, .int .i64 p]
  | 10, v, w => v = .int .i64 140
  | 11, v, w => v = .bool false
  | 12, v, w => v = .bool false
  | 13, v, w => v = .bool true
  | 14, v, w => v = .bool true
  | 15, v, w => v = .bool true
  | 16, v, w => v = .agg #[.int .i64 t, .int .i64 l, .int .i64 m, .int .i64 d, .int .i64 p]
  | 17, v, w => v = .bool hv
  | 18, v, w => v = .bool false
  | 19, v, w => v = .bool false
  | 20, v, w => True
  | 21, v, w => True
  | 22, v, w => True
  | 23, v, w => True
  | 24, v, w => True
  | 25, v, w => v = .bool hv
  | 26, v, w => v = .bool true
  | 27, v, w => v = .bool true
  | 28, v, w => v = .bool true
  | 29, v, w => v = .agg #[.int .i64 t, .int .i64 l, .int .i64 m, .int .i64 d, .int .i64 p]
  | 30, v, w => v = .int .i64 k
  | 31, v, w => v = .int .i64 b
  | 32, v, w => v = .agg #[.int .i64 t, .int .i64 l, .int .i64 m, .int .i64 d, .int .i64 p]
  | 33, v, w => v = .int .i64 k
  | 34, v, w => v = .int .i64 b
  | 35, v, w => v = .bool true
  | 36, v, w => v = .bool true
  | 37, v, w => v = .bool true
  | _, _, _ => True
theorem phiTn_below (w0 : World) (t l m d p n e k b : Int) (hv : Bool) : ∀ kq v w w', PhiTn w0 t l m d p n e k b hv kq v w → Below w.heap.size w w' → PhiTn w0 t l m d p n e k b hv kq v w' := by
  intro kq v w w' h hb
  match kq, h with
  | 0, h => exact h
  | 1, h => exact h
  | 2, h => exact h
  | 3, h => exact h
  | 4, h => exact h
  | 5, h => exact h
  | 6, h => exact h
  | 7, h => exact h
  | 8, h => exact h
  | 9, h => exact h
  | 10, h => exact h
  | 11, h => exact h
  | 12, h => exact h
  | 13, h => exact h
  | 14, h => exact h
  | 15, h => exact h
  | 16, h => exact h
  | 17, h => exact h
  | 18, h => exact h
  | 19, h => exact h
  | 20, h => exact h
  | 21, h => exact h
  | 22, h => exact h
  | 23, h => exact h
  | 24, h => exact h
  | 25, h => exact h
  | 26, h => exact h
  | 27, h => exact h
  | 28, h => exact h
  | 29, h => exact h
  | 30, h => exact h
  | 31, h => exact h
  | 32, h => exact h
  | 33, h => exact h
  | 34, h => exact h
  | 35, h => exact h
  | 36, h => exact h
  | 37, h => exact h
  | kq + 38, h => exact trivial
set_option maxRecDepth 100000 in
set_option maxHeartbeats 32000000 in
theorem walk_ClassTells (w0 : World) (s : Shp) (k : Int) (hk : -9223372036854775808 ≤ k ∧ k ≤ 9223372036854775807) (hT : DTab w0) : Calls Tryz.prog 3 #[s.val, .int .i64 k] w0 fun e w' => e = .returned (.bool true) ∧ Below w0.heap.size w0 w' := by
  have TT := Lib.hid (fun W (b : Below w0.heap.size w0 W) => (hT.via b : DTab W))
  clear hT hk
  have AW := Lib.hid (fun W (b : Below w0.heap.size w0 W) => awake14_any W (TT.out W b))
  have CC := Lib.hid (fun W (b : Below w0.heap.size w0 W) => ccheck_any s W (TT.out W b))
  have KK := Lib.hid (fun W (b : Below w0.heap.size w0 W) => ccores_any s W (TT.out W b))
  have HH := Lib.hid (fun W (b : Below w0.heap.size w0 W) => cheavy_any s W (TT.out W b))
  have BB := Lib.hid (fun W (b : Below w0.heap.size w0 W) => cbound_any s k W (TT.out W b))
  have RB := Lib.hid (fun W => rbound_any s k W)
  have RK := Lib.hid (fun W => rcores_any s W)
  have RC := Lib.hid (fun W => rchk_any s W)
  have R := Lib.hid (Rwk.start w0 [(23, [.int .i64 s.t, .int .i64 s.l, .int .i64 s.m, .int .i64 s.d, .int .i64 s.p])])
  obtain ⟨n, hn⟩ : ∃ n, n = coresS s := ⟨_, rfl⟩
  obtain ⟨e, he⟩ : ∃ n, n = faultS s := ⟨_, rfl⟩
  obtain ⟨b, hb⟩ : ∃ n, n = boundS s k := ⟨_, rfl⟩
  obtain ⟨hv, hh⟩ : ∃ n, n = heavyS s := ⟨_, rfl⟩
  rw [← hn, ← he] at KK RK
  rw [← hb] at BB RB
  rw [← hh] at HH
  clear hn he hb
  by_cases hs : s.Ok
  · rw [chkS_ok hs] at CC
    rw [decide_eq_true hs] at RC
    have HV : Hid (hv = decide (s.d < s.t)) := Lib.hid (by rw [hh]; exact decide_eq_decide.mpr ⟨fun q => q.2, fun q => ⟨hs, q⟩⟩)
    clear hh hs
    obtain ⟨t, l, m, d, p⟩ := s
    unfold Shp.val at CC HH BB RB KK RK RC ⊢
    dsimp only at CC HH BB RB KK RK RC R HV ⊢
    go_enter Tryz.func3, Tryz.ntmps3
    go_wp2_with fail
    refine (AW.out _ R.out.bel).mono ?_
    rintro e w1 ⟨rfl, bb⟩
    have R := Lib.hid (R.out.next bb)
    clear bb AW
    obtain ⟨⟨c0, c1⟩, c2, c3, c4⟩ := shp_cells (s := ⟨t, l, m, d, p⟩) R.out
    dsimp only at c0 c1 c2 c3 c4
    go_wp2_with fail
    refine (KK.out _ R.out.bel).mono ?_
    rintro e2 w2 ⟨rfl, bb⟩
    have R := Lib.hid (R.out.next bb)
    clear bb KK c0 c1 c2 c3 c4
    obtain ⟨⟨c0, c1⟩, c2, c3, c4⟩ := shp_cells (s := ⟨t, l, m, d, p⟩) R.out
    dsimp only at c0 c1 c2 c3 c4
    go_wp2_with fail
    refine (RK.out _).mono ?_
    rintro e2 w3 ⟨rfl, bb⟩
    have R := Lib.hid (R.out.next bb)
    clear bb RK c0 c1 c2 c3 c4
    obtain ⟨⟨c0, c1⟩, c2, c3, c4⟩ := shp_cells (s := ⟨t, l, m, d, p⟩) R.out
    dsimp only at c0 c1 c2 c3 c4
    go_wp2_with fail
    refine (RC.out _).mono ?_
    rintro e2 w4 ⟨rfl, bb⟩
    have R := Lib.hid (R.out.next bb)
    clear bb RC c0 c1 c2 c3 c4
    go_wp2_with fail
    refine wp_region_facts' [24, 25, 26, 27, 28, 29, 30, 31, 32, 33, 34, 35, 36, 37, 38, 39, 40, 41, 42, 43, 44, 45, 46, 47, 48, 49, 50, 51, 52, 53, 54, 55, 56, 57, 58, 59, 60, 4] [] [(3, true), (8, true), (15, true), (19, true), (28, true)] (by kernel_rfl) (by kernel_rfl) (by kernel_rfl) (by intro d hd; simp at hd ⊢; omega) (Rwk w0 [(23, [.int .i64 t, .int .i64 l, .int .i64 m, .int .i64 d, .int .i64 p])]) (PhiTy w0 t l m d p n e k b hv)
      (fun y y' h hb => h.next hb) (phiTy_below w0 t l m d p n e k b hv) (R.out.next ((Below.refl _ _).drew)) (fun p hp v w hv => by
        simp only [List.mem_cons, List.not_mem_nil, or_false] at hp
        rcases hp with rfl | rfl | rfl | rfl | rfl <;> exact hv) (fun kq hkq => by simp at hkq) ?hstep ?hend
    case hstep =>
      intro kq o ho hw a w hI hA hd K hK
      obtain ⟨ρ, hρ⟩ : ∃ ρ, a.eval = ρ := ⟨_, rfl⟩
      rw [hρ] at hA hd
      match kq, ho with
      | 0, ho =>
        have hoo := Option.some.inj ho
        subst hoo
        exact fx_val hK hρ (.int .i64 n) (by have h := hA.tmp 5 (by decide); simp [execOp, h, go_sem]) rfl
      | 1, ho =>
        have hoo := Option.some.inj ho
        subst hoo
        exact fx_val hK hρ (.int .i64 n) (by have h := hA.tmp 7 (by decide); simp [execOp, h, go_sem]) rfl
      | 2, ho =>
        have hoo := Option.some.inj ho
        subst hoo
        have f0 : (ρ (.tmp 24)) = .int .i64 n := hd ⟨0, .data⟩ (by simp) (by rfl)
        have f1 : (ρ (.tmp 25)) = .int .i64 n := hd ⟨1, .data⟩ (by simp) (by rfl)
        exact fx_val hK hρ (.bool true) (by simp [execOp, f0, f1, hA.const, go_sem]) rfl
      | 3, ho =>
        have hoo := Option.some.inj ho
        subst hoo
        have f2 : (ρ (.tmp 26)) = .bool true := hd ⟨2, .data⟩ (by simp) (by rfl)
        exact fx_val hK hρ (.bool true) (by simp [execOp, f2, hA.const, go_sem]) rfl
      | 4, ho =>
        have hoo := Option.some.inj ho
        subst hoo
        exact fx_val hK hρ (.int .i64 e) (by have h := hA.tmp 6 (by decide); simp [execOp, h, go_sem]) rfl
      | 5, ho =>
        have hoo := Option.some.inj ho
        subst hoo
        exact fx_val hK hρ (.int .i64 e) (by have h := hA.tmp 8 (by decide); simp [execOp, h, go_sem]) rfl
      | 6, ho =>
        have hoo := Option.some.inj ho
        subst hoo
        have f4 : (ρ (.tmp 28)) = .int .i64 e := hd ⟨4, .data⟩ (by simp) (by rfl)
        have f5 : (ρ (.tmp 29)) = .int .i64 e := hd ⟨5, .data⟩ (by simp) (by rfl)
        exact fx_val hK hρ (.bool true) (by simp [execOp, f4, f5, hA.const, go_sem]) rfl
      | 7, ho =>
        have hoo := Option.some.inj ho
        subst hoo
        have f3 : (ρ (.tmp 27)) = .bool true := hd ⟨3, .data⟩ (by simp) (by rfl)
        have f6 : (ρ (.tmp 30)) = .bool true := hd ⟨6, .data⟩ (by simp) (by rfl)
        exact fx_val hK hρ (.bool true) (by simp [execOp, f3, f6, hA.const, hA.const, go_sem]) rfl
      | 8, ho =>
        have hoo := Option.some.inj ho
        subst hoo
        have f7 : (ρ (.tmp 31)) = .bool true := hd ⟨7, .data⟩ (by simp) (by rfl)
        exact fx_val hK hρ (.bool true) (by simp [execOp, f7, hA.const, go_sem]) rfl
      | 9, ho =>
        have hoo := Option.some.inj ho
        subst hoo
        exact fx_val hK hρ _ (by have h := hA.tmp 2 (by decide); have h0 := (shp_cells (s := ⟨t, l, m, d, p⟩) hI).1.1; have h1 := (shp_cells (s := ⟨t, l, m, d, p⟩) hI).1.2; have h2 := (shp_cells (s := ⟨t, l, m, d, p⟩) hI).2.1; have h3 := (shp_cells (s := ⟨t, l, m, d, p⟩) hI).2.2.1; have h4 := (shp_cells (s := ⟨t, l, m, d, p⟩) hI).2.2.2; simp [execOp, h, h0, h1, h2, h3, h4, go_sem]) rfl
      | 10, ho =>
        have hoo := Option.some.inj ho
        subst hoo
        have f9 : (ρ (.tmp 33)) = .agg #[.int .i64 t, .int .i64 l, .int .i64 m, .int .i64 d, .int .i64 p] := hd ⟨9, .data⟩ (by simp) (by rfl)
        exact fx_call hK hρ 11 _ _ #[.agg #[.int .i64 t, .int .i64 l, .int .i64 m, .int .i64 d, .int .i64 p]] rfl (by simp only [List.map_toArray, List.map_cons, List.map_nil, hA.const, f9]) (eg_of Tryz.func11 (by kernel_rfl) rfl) ((CC.out w hI.bel).mono fun e w' ⟨he, hb⟩ => ⟨_, he, rfl, hb⟩)
      | 11, ho =>
        have hoo := Option.some.inj ho
        subst hoo
        have f10 : (ρ (.tmp 34)) = .int .i64 0 := hd ⟨10, .data⟩ (by simp) (by rfl)
        exact fx_val hK hρ (.bool true) (by simp [execOp, f10, hA.const, hA.const, go_sem]) rfl
      | 12, ho =>
        have hoo := Option.some.inj ho
        subst hoo
        exact fx_val hK hρ (.bool true) (by have h := hA.tmp 9 (by decide); simp [execOp, h, go_sem]) rfl
      | 13, ho =>
        have hoo := Option.some.inj ho
        subst hoo
        have f11 : (ρ (.tmp 35)) = .bool true := hd ⟨11, .data⟩ (by simp) (by rfl)
        have f12 : (ρ (.tmp 36)) = .bool true := hd ⟨12, .data⟩ (by simp) (by rfl)
        exact fx_val hK hρ (.bool true) (by simp [execOp, f11, f12, hA.const, go_sem]) rfl
      | 14, ho =>
        have hoo := Option.some.inj ho
        subst hoo
        have f8 : (ρ (.tmp 32)) = .bool true := hd ⟨8, .data⟩ (by simp) (by rfl)
        have f13 : (ρ (.tmp 37)) = .bool true := hd ⟨13, .data⟩ (by simp) (by rfl)
        exact fx_val hK hρ (.bool true) (by simp [execOp, f8, f13, hA.const, hA.const, go_sem]) rfl
      | 15, ho =>
        have hoo := Option.some.inj ho
        subst hoo
        have f14 : (ρ (.tmp 38)) = .bool true := hd ⟨14, .data⟩ (by simp) (by rfl)
        exact fx_val hK hρ (.bool true) (by simp [execOp, f14, hA.const, go_sem]) rfl
      | 16, ho =>
        have hoo := Option.some.inj ho
        subst hoo
        exact fx_val hK hρ _ (by have h := hA.tmp 2 (by decide); have h0 := (shp_cells (s := ⟨t, l, m, d, p⟩) hI).1.1; have h1 := (shp_cells (s := ⟨t, l, m, d, p⟩) hI).1.2; have h2 := (shp_cells (s := ⟨t, l, m, d, p⟩) hI).2.1; have h3 := (shp_cells (s := ⟨t, l, m, d, p⟩) hI).2.2.1; have h4 := (shp_cells (s := ⟨t, l, m, d, p⟩) hI).2.2.2; simp [execOp, h, h0, h1, h2, h3, h4, go_sem]) rfl
      | 17, ho =>
        have hoo := Option.some.inj ho
        subst hoo
        have f16 : (ρ (.tmp 40)) = .agg #[.int .i64 t, .int .i64 l, .int .i64 m, .int .i64 d, .int .i64 p] := hd ⟨16, .data⟩ (by simp) (by rfl)
        exact fx_call hK hρ 12 _ _ #[.agg #[.int .i64 t, .int .i64 l, .int .i64 m, .int .i64 d, .int .i64 p]] rfl (by simp only [List.map_toArray, List.map_cons, List.map_nil, hA.const, f16]) (eg_of Tryz.func12 (by kernel_rfl) rfl) ((HH.out w hI.bel).mono fun e w' ⟨he, hb⟩ => ⟨_, he, rfl, hb⟩)
      | 18, ho =>
        have hoo := Option.some.inj ho
        subst hoo
        exact fx_val hK hρ (.bool true) (by have h := hA.tmp 9 (by decide); simp [execOp, h, go_sem]) rfl
      | 19, ho =>
        have hoo := Option.some.inj ho
        subst hoo
        have f18 : (ρ (.tmp 42)) = .bool true := hd ⟨18, .data⟩ (by simp) (by rfl)
        exact fx_val hK hρ (.bool true) (by simp [execOp, f18, hA.const, go_sem]) rfl
      | 20, ho =>
        have hoo := Option.some.inj ho
        subst hoo
        exact fx_val hK hρ (.pointer (some ⟨w0.heap.size, 0, none⟩)) (by have h := hA.tmp 2 (by decide); simp [execOp, h, go_sem]) rfl
      | 21, ho =>
        have hoo := Option.some.inj ho
        subst hoo
        have f20 : (ρ (.tmp 44)) = .pointer (some ⟨w0.heap.size, 0, none⟩) := hd ⟨20, .data⟩ (by simp) (by rfl)
        have h0 := (shp_cells (s := ⟨t, l, m, d, p⟩) hI).1.1
        exact fx_val hK hρ (.int .i64 t) (by simp [execOp, f20, h0, go_sem]) rfl
      | 22, ho =>
        have hoo := Option.some.inj ho
        subst hoo
        exact fx_val hK hρ (.pointer (some ⟨w0.heap.size, 3, none⟩)) (by have h := hA.tmp 2 (by decide); simp [execOp, h, go_sem]) rfl
      | 23, ho =>
        have hoo := Option.some.inj ho
        subst hoo
        have f22 : (ρ (.tmp 46)) = .pointer (some ⟨w0.heap.size, 3, none⟩) := hd ⟨22, .data⟩ (by simp) (by rfl)
        have h0 := (shp_cells (s := ⟨t, l, m, d, p⟩) hI).2.2.1
        exact fx_val hK hρ (.int .i64 d) (by simp [execOp, f22, h0, go_sem]) rfl
      | 24, ho =>
        have hoo := Option.some.inj ho
        subst hoo
        have f21 : (ρ (.tmp 45)) = .int .i64 t := hd ⟨21, .data⟩ (by simp) (by rfl)
        have f23 : (ρ (.tmp 47)) = .int .i64 d := hd ⟨23, .data⟩ (by simp) (by rfl)
        have h0 := HV.out
        exact fx_val hK hρ (.bool hv) (by rw [h0]; simp [execOp, f21, f23, go_sem]) rfl
      | 25, ho =>
        have hoo := Option.some.inj ho
        subst hoo
        have f19 : (ρ (.tmp 43)) = .bool true := hd ⟨19, .data⟩ (by simp) (by rfl)
        have f24 : (ρ (.tmp 48)) = .bool hv := hd ⟨24, .data⟩ (by simp) (by rfl)
        exact fx_val hK hρ (.bool hv) (by simp [execOp, f19, f24, hA.const, hA.const, go_sem]) rfl
      | 26, ho =>
        have hoo := Option.some.inj ho
        subst hoo
        have f17 : (ρ (.tmp 41)) = .bool hv := hd ⟨17, .data⟩ (by simp) (by rfl)
        have f25 : (ρ (.tmp 49)) = .bool hv := hd ⟨25, .data⟩ (by simp) (by rfl)
        exact fx_val hK hρ (.bool true) (by simp [execOp, f17, f25, hA.const, go_sem]) rfl
      | 27, ho =>
        have hoo := Option.some.inj ho
        subst hoo
        have f15 : (ρ (.tmp 39)) = .bool true := hd ⟨15, .data⟩ (by simp) (by rfl)
        have f26 : (ρ (.tmp 50)) = .bool true := hd ⟨26, .data⟩ (by simp) (by rfl)
        exact fx_val hK hρ (.bool true) (by simp [execOp, f15, f26, hA.const, hA.const, go_sem]) rfl
      | 28, ho =>
        have hoo := Option.some.inj ho
        subst hoo
        have f27 : (ρ (.tmp 51)) = .bool true := hd ⟨27, .data⟩ (by simp) (by rfl)
        exact fx_val hK hρ (.bool true) (by simp [execOp, f27, hA.const, go_sem]) rfl
      | 29, ho =>
        have hoo := Option.some.inj ho
        subst hoo
        exact fx_val hK hρ _ (by have h := hA.tmp 2 (by decide); have h0 := (shp_cells (s := ⟨t, l, m, d, p⟩) hI).1.1; have h1 := (shp_cells (s := ⟨t, l, m, d, p⟩) hI).1.2; have h2 := (shp_cells (s := ⟨t, l, m, d, p⟩) hI).2.1; have h3 := (shp_cells (s := ⟨t, l, m, d, p⟩) hI).2.2.1; have h4 := (shp_cells (s := ⟨t, l, m, d, p⟩) hI).2.2.2; simp [execOp, h, h0, h1, h2, h3, h4, go_sem]) rfl
      | 30, ho =>
        have hoo := Option.some.inj ho
        subst hoo
        exact fx_val hK hρ (.int .i64 k) (by have h := hA.tmp 1 (by decide); simp [execOp, h, go_sem]) rfl
      | 31, ho =>
        have hoo := Option.some.inj ho
        subst hoo
        have f29 : (ρ (.tmp 53)) = .agg #[.int .i64 t, .int .i64 l, .int .i64 m, .int .i64 d, .int .i64 p] := hd ⟨29, .data⟩ (by simp) (by rfl)
        have f30 : (ρ (.tmp 54)) = .int .i64 k := hd ⟨30, .data⟩ (by simp) (by rfl)
        exact fx_call hK hρ 13 _ _ #[.agg #[.int .i64 t, .int .i64 l, .int .i64 m, .int .i64 d, .int .i64 p], .int .i64 k] rfl (by simp only [List.map_toArray, List.map_cons, List.map_nil, hA.const, f29, f30]) (eg_of Tryz.func13 (by kernel_rfl) rfl) ((BB.out w hI.bel).mono fun e w' ⟨he, hb⟩ => ⟨_, he, rfl, hb⟩)
      | 32, ho =>
        have hoo := Option.some.inj ho
        subst hoo
        exact fx_val hK hρ _ (by have h := hA.tmp 2 (by decide); have h0 := (shp_cells (s := ⟨t, l, m, d, p⟩) hI).1.1; have h1 := (shp_cells (s := ⟨t, l, m, d, p⟩) hI).1.2; have h2 := (shp_cells (s := ⟨t, l, m, d, p⟩) hI).2.1; have h3 := (shp_cells (s := ⟨t, l, m, d, p⟩) hI).2.2.1; have h4 := (shp_cells (s := ⟨t, l, m, d, p⟩) hI).2.2.2; simp [execOp, h, h0, h1, h2, h3, h4, go_sem]) rfl
      | 33, ho =>
        have hoo := Option.some.inj ho
        subst hoo
        exact fx_val hK hρ (.int .i64 k) (by have h := hA.tmp 1 (by decide); simp [execOp, h, go_sem]) rfl
      | 34, ho =>
        have hoo := Option.some.inj ho
        subst hoo
        have f32 : (ρ (.tmp 56)) = .agg #[.int .i64 t, .int .i64 l, .int .i64 m, .int .i64 d, .int .i64 p] := hd ⟨32, .data⟩ (by simp) (by rfl)
        have f33 : (ρ (.tmp 57)) = .int .i64 k := hd ⟨33, .data⟩ (by simp) (by rfl)
        exact fx_call hK hρ 14 _ _ #[.agg #[.int .i64 t, .int .i64 l, .int .i64 m, .int .i64 d, .int .i64 p], .int .i64 k] rfl (by simp only [List.map_toArray, List.map_cons, List.map_nil, hA.const, f32, f33]) (eg_of Tryz.func14 (by kernel_rfl) rfl) ((RB.out w).mono fun e w' ⟨he, hb⟩ => ⟨_, he, rfl, hb⟩)
      | 35, ho =>
        have hoo := Option.some.inj ho
        subst hoo
        have f31 : (ρ (.tmp 55)) = .int .i64 b := hd ⟨31, .data⟩ (by simp) (by rfl)
        have f34 : (ρ (.tmp 58)) = .int .i64 b := hd ⟨34, .data⟩ (by simp) (by rfl)
        exact fx_val hK hρ (.bool true) (by simp [execOp, f31, f34, hA.const, go_sem]) rfl
      | 36, ho =>
        have hoo := Option.some.inj ho
        subst hoo
        have f28 : (ρ (.tmp 52)) = .bool true := hd ⟨28, .data⟩ (by simp) (by rfl)
        have f35 : (ρ (.tmp 59)) = .bool true := hd ⟨35, .data⟩ (by simp) (by rfl)
        exact fx_val hK hρ (.bool true) (by simp [execOp, f28, f35, hA.const, hA.const, go_sem]) rfl
      | 37, ho =>
        have hoo := Option.some.inj ho
        subst hoo
        have f36 : (ρ (.tmp 60)) = .bool true := hd ⟨36, .data⟩ (by simp) (by rfl)
        exact fx_val hK hρ (.bool true) (by simp [execOp, f36, hA.const, go_sem]) rfl
      | kq + 38, ho => simp at ho
    case hend =>
      intro vals xw hI hF
      have f37 : vals 4 = .bool true := hF 37 (by decide)
      simp only [f37, fillA, fillL, List.contains_cons, List.contains_nil, Nat.reduceBEq, Bool.or_false, Bool.false_or, Bool.or_true, Bool.true_or, cond_true, cond_false, Nat.zero_add, Nat.reduceAdd]
      go_wp2
      go_ret
      exact ⟨rfl, hI.bel⟩
  · rw [chkS_no hs] at CC
    rw [decide_eq_false hs] at RC
    have HV : Hid (hv = false) := Lib.hid (by rw [hh]; exact decide_eq_false fun q => hs q.1)
    clear hh hs
    obtain ⟨t, l, m, d, p⟩ := s
    unfold Shp.val at CC HH BB RB KK RK RC ⊢
    dsimp only at CC HH BB RB KK RK RC R HV ⊢
    go_enter Tryz.func3, Tryz.ntmps3
    go_wp2_with fail
    refine (AW.out _ R.out.bel).mono ?_
    rintro e w1 ⟨rfl, bb⟩
    have R := Lib.hid (R.out.next bb)
    clear bb AW
    obtain ⟨⟨c0, c1⟩, c2, c3, c4⟩ := shp_cells (s := ⟨t, l, m, d, p⟩) R.out
    dsimp only at c0 c1 c2 c3 c4
    go_wp2_with fail
    refine (KK.out _ R.out.bel).mono ?_
    rintro e2 w2 ⟨rfl, bb⟩
    have R := Lib.hid (R.out.next bb)
    clear bb KK c0 c1 c2 c3 c4
    obtain ⟨⟨c0, c1⟩, c2, c3, c4⟩ := shp_cells (s := ⟨t, l, m, d, p⟩) R.out
    dsimp only at c0 c1 c2 c3 c4
    go_wp2_with fail
    refine (RK.out _).mono ?_
    rintro e2 w3 ⟨rfl, bb⟩
    have R := Lib.hid (R.out.next bb)
    clear bb RK c0 c1 c2 c3 c4
    obtain ⟨⟨c0, c1⟩, c2, c3, c4⟩ := shp_cells (s := ⟨t, l, m, d, p⟩) R.out
    dsimp only at c0 c1 c2 c3 c4
    go_wp2_with fail
    refine (RC.out _).mono ?_
    rintro e2 w4 ⟨rfl, bb⟩
    have R := Lib.hid (R.out.next bb)
    clear bb RC c0 c1 c2 c3 c4
    go_wp2_with fail
    refine wp_region_facts' [24, 25, 26, 27, 28, 29, 30, 31, 32, 33, 34, 35, 36, 37, 38, 39, 40, 41, 42, 43, 44, 45, 46, 47, 48, 49, 50, 51, 52, 53, 54, 55, 56, 57, 58, 59, 60, 4] [true, true, true, true, true, true, true, true, true, true, true, true, true, true, true, true, true, true, true, true, false, false, false, false, false, true, true, true, true, true, true, true, true, true, true, true, true, true] [(3, true), (8, true), (15, true), (19, false), (28, true)] (by kernel_rfl) (by kernel_rfl) (by kernel_rfl) (by intro d hd; simp at hd ⊢; omega) (Rwk w0 [(23, [.int .i64 t, .int .i64 l, .int .i64 m, .int .i64 d, .int .i64 p])]) (PhiTn w0 t l m d p n e k b hv)
      (fun y y' h hb => h.next hb) (phiTn_below w0 t l m d p n e k b hv) (R.out.next ((Below.refl _ _).drew)) (fun p hp v w hv => by
        simp only [List.mem_cons, List.not_mem_nil, or_false] at hp
        rcases hp with rfl | rfl | rfl | rfl | rfl <;> exact hv) (fun kq hkq w => by
        have hlt : kq < 38 := by
          apply Classical.byContradiction
          intro h
          rw [List.getD_eq_getElem?_getD, List.getElem?_eq_none (by simp; omega)] at hkq
          simp at hkq
        match kq, hlt, hkq with
        | 0, _, h => exact absurd h (by decide)
        | 1, _, h => exact absurd h (by decide)
        | 2, _, h => exact absurd h (by decide)
        | 3, _, h => exact absurd h (by decide)
        | 4, _, h => exact absurd h (by decide)
        | 5, _, h => exact absurd h (by decide)
        | 6, _, h => exact absurd h (by decide)
        | 7, _, h => exact absurd h (by decide)
        | 8, _, h => exact absurd h (by decide)
        | 9, _, h => exact absurd h (by decide)
        | 10, _, h => exact absurd h (by decide)
        | 11, _, h => exact absurd h (by decide)
        | 12, _, h => exact absurd h (by decide)
        | 13, _, h => exact absurd h (by decide)
        | 14, _, h => exact absurd h (by decide)
        | 15, _, h => exact absurd h (by decide)
        | 16, _, h => exact absurd h (by decide)
        | 17, _, h => exact absurd h (by decide)
        | 18, _, h => exact absurd h (by decide)
        | 19, _, h => exact absurd h (by decide)
        | 20, _, _ => exact trivial
        | 21, _, _ => exact trivial
        | 22, _, _ => exact trivial
        | 23, _, _ => exact trivial
        | 24, _, _ => exact trivial
        | 25, _, h => exact absurd h (by decide)
        | 26, _, h => exact absurd h (by decide)
        | 27, _, h => exact absurd h (by decide)
        | 28, _, h => exact absurd h (by decide)
        | 29, _, h => exact absurd h (by decide)
        | 30, _, h => exact absurd h (by decide)
        | 31, _, h => exact absurd h (by decide)
        | 32, _, h => exact absurd h (by decide)
        | 33, _, h => exact absurd h (by decide)
        | 34, _, h => exact absurd h (by decide)
        | 35, _, h => exact absurd h (by decide)
        | 36, _, h => exact absurd h (by decide)
        | 37, _, h => exact absurd h (by decide)
        | kq + 38, h, _ => omega) ?hstep ?hend
    case hstep =>
      intro kq o ho hw a w hI hA hd K hK
      obtain ⟨ρ, hρ⟩ : ∃ ρ, a.eval = ρ := ⟨_, rfl⟩
      rw [hρ] at hA hd
      match kq, ho with
      | 0, ho =>
        have hoo := Option.some.inj ho
        subst hoo
        exact fx_val hK hρ (.int .i64 n) (by have h := hA.tmp 5 (by decide); simp [execOp, h, go_sem]) rfl
      | 1, ho =>
        have hoo := Option.some.inj ho
        subst hoo
        exact fx_val hK hρ (.int .i64 n) (by have h := hA.tmp 7 (by decide); simp [execOp, h, go_sem]) rfl
      | 2, ho =>
        have hoo := Option.some.inj ho
        subst hoo
        have f0 : (ρ (.tmp 24)) = .int .i64 n := hd ⟨0, .data⟩ (by simp) (by rfl)
        have f1 : (ρ (.tmp 25)) = .int .i64 n := hd ⟨1, .data⟩ (by simp) (by rfl)
        exact fx_val hK hρ (.bool true) (by simp [execOp, f0, f1, hA.const, go_sem]) rfl
      | 3, ho =>
        have hoo := Option.some.inj ho
        subst hoo
        have f2 : (ρ (.tmp 26)) = .bool true := hd ⟨2, .data⟩ (by simp) (by rfl)
        exact fx_val hK hρ (.bool true) (by simp [execOp, f2, hA.const, go_sem]) rfl
      | 4, ho =>
        have hoo := Option.some.inj ho
        subst hoo
        exact fx_val hK hρ (.int .i64 e) (by have h := hA.tmp 6 (by decide); simp [execOp, h, go_sem]) rfl
      | 5, ho =>
        have hoo := Option.some.inj ho
        subst hoo
        exact fx_val hK hρ (.int .i64 e) (by have h := hA.tmp 8 (by decide); simp [execOp, h, go_sem]) rfl
      | 6, ho =>
        have hoo := Option.some.inj ho
        subst hoo
        have f4 : (ρ (.tmp 28)) = .int .i64 e := hd ⟨4, .data⟩ (by simp) (by rfl)
        have f5 : (ρ (.tmp 29)) = .int .i64 e := hd ⟨5, .data⟩ (by simp) (by rfl)
        exact fx_val hK hρ (.bool true) (by simp [execOp, f4, f5, hA.const, go_sem]) rfl
      | 7, ho =>
        have hoo := Option.some.inj ho
        subst hoo
        have f3 : (ρ (.tmp 27)) = .bool true := hd ⟨3, .data⟩ (by simp) (by rfl)
        have f6 : (ρ (.tmp 30)) = .bool true := hd ⟨6, .data⟩ (by simp) (by rfl)
        exact fx_val hK hρ (.bool true) (by simp [execOp, f3, f6, hA.const, hA.const, go_sem]) rfl
      | 8, ho =>
        have hoo := Option.some.inj ho
        subst hoo
        have f7 : (ρ (.tmp 31)) = .bool true := hd ⟨7, .data⟩ (by simp) (by rfl)
        exact fx_val hK hρ (.bool true) (by simp [execOp, f7, hA.const, go_sem]) rfl
      | 9, ho =>
        have hoo := Option.some.inj ho
        subst hoo
        exact fx_val hK hρ _ (by have h := hA.tmp 2 (by decide); have h0 := (shp_cells (s := ⟨t, l, m, d, p⟩) hI).1.1; have h1 := (shp_cells (s := ⟨t, l, m, d, p⟩) hI).1.2; have h2 := (shp_cells (s := ⟨t, l, m, d, p⟩) hI).2.1; have h3 := (shp_cells (s := ⟨t, l, m, d, p⟩) hI).2.2.1; have h4 := (shp_cells (s := ⟨t, l, m, d, p⟩) hI).2.2.2; simp [execOp, h, h0, h1, h2, h3, h4, go_sem]) rfl
      | 10, ho =>
        have hoo := Option.some.inj ho
        subst hoo
        have f9 : (ρ (.tmp 33)) = .agg #[.int .i64 t, .int .i64 l, .int .i64 m, .int .i64 d, .int .i64 p] := hd ⟨9, .data⟩ (by simp) (by rfl)
        exact fx_call hK hρ 11 _ _ #[.agg #[.int .i64 t, .int .i64 l, .int .i64 m, .int .i64 d, .int .i64 p]] rfl (by simp only [List.map_toArray, List.map_cons, List.map_nil, hA.const, f9]) (eg_of Tryz.func11 (by kernel_rfl) rfl) ((CC.out w hI.bel).mono fun e w' ⟨he, hb⟩ => ⟨_, he, rfl, hb⟩)
      | 11, ho =>
        have hoo := Option.some.inj ho
        subst hoo
        have f10 : (ρ (.tmp 34)) = .int .i64 140 := hd ⟨10, .data⟩ (by simp) (by rfl)
        exact fx_val hK hρ (.bool false) (by simp [execOp, f10, hA.const, hA.const, go_sem]) rfl
      | 12, ho =>
        have hoo := Option.some.inj ho
        subst hoo
        exact fx_val hK hρ (.bool false) (by have h := hA.tmp 9 (by decide); simp [execOp, h, go_sem]) rfl
      | 13, ho =>
        have hoo := Option.some.inj ho
        subst hoo
        have f11 : (ρ (.tmp 35)) = .bool false := hd ⟨11, .data⟩ (by simp) (by rfl)
        have f12 : (ρ (.tmp 36)) = .bool false := hd ⟨12, .data⟩ (by simp) (by rfl)
        exact fx_val hK hρ (.bool true) (by simp [execOp, f11, f12, hA.const, go_sem]) rfl
      | 14, ho =>
        have hoo := Option.some.inj ho
        subst hoo
        have f8 : (ρ (.tmp 32)) = .bool true := hd ⟨8, .data⟩ (by simp) (by rfl)
        have f13 : (ρ (.tmp 37)) = .bool true := hd ⟨13, .data⟩ (by simp) (by rfl)
        exact fx_val hK hρ (.bool true) (by simp [execOp, f8, f13, hA.const, hA.const, go_sem]) rfl
      | 15, ho =>
        have hoo := Option.some.inj ho
        subst hoo
        have f14 : (ρ (.tmp 38)) = .bool true := hd ⟨14, .data⟩ (by simp) (by rfl)
        exact fx_val hK hρ (.bool true) (by simp [execOp, f14, hA.const, go_sem]) rfl
      | 16, ho =>
        have hoo := Option.some.inj ho
        subst hoo
        exact fx_val hK hρ _ (by have h := hA.tmp 2 (by decide); have h0 := (shp_cells (s := ⟨t, l, m, d, p⟩) hI).1.1; have h1 := (shp_cells (s := ⟨t, l, m, d, p⟩) hI).1.2; have h2 := (shp_cells (s := ⟨t, l, m, d, p⟩) hI).2.1; have h3 := (shp_cells (s := ⟨t, l, m, d, p⟩) hI).2.2.1; have h4 := (shp_cells (s := ⟨t, l, m, d, p⟩) hI).2.2.2; simp [execOp, h, h0, h1, h2, h3, h4, go_sem]) rfl
      | 17, ho =>
        have hoo := Option.some.inj ho
        subst hoo
        have f16 : (ρ (.tmp 40)) = .agg #[.int .i64 t, .int .i64 l, .int .i64 m, .int .i64 d, .int .i64 p] := hd ⟨16, .data⟩ (by simp) (by rfl)
        exact fx_call hK hρ 12 _ _ #[.agg #[.int .i64 t, .int .i64 l, .int .i64 m, .int .i64 d, .int .i64 p]] rfl (by simp only [List.map_toArray, List.map_cons, List.map_nil, hA.const, f16]) (eg_of Tryz.func12 (by kernel_rfl) rfl) ((HH.out w hI.bel).mono fun e w' ⟨he, hb⟩ => ⟨_, he, rfl, hb⟩)
      | 18, ho =>
        have hoo := Option.some.inj ho
        subst hoo
        exact fx_val hK hρ (.bool false) (by have h := hA.tmp 9 (by decide); simp [execOp, h, go_sem]) rfl
      | 19, ho =>
        have hoo := Option.some.inj ho
        subst hoo
        have f18 : (ρ (.tmp 42)) = .bool false := hd ⟨18, .data⟩ (by simp) (by rfl)
        exact fx_val hK hρ (.bool false) (by simp [execOp, f18, hA.const, go_sem]) rfl
      | 20, ho =>
        exact absurd hw (by decide)
      | 21, ho =>
        exact absurd hw (by decide)
      | 22, ho =>
        exact absurd hw (by decide)
      | 23, ho =>
        exact absurd hw (by decide)
      | 24, ho =>
        exact absurd hw (by decide)
      | 25, ho =>
        have hoo := Option.some.inj ho
        subst hoo
        have f19 : (ρ (.tmp 43)) = .bool false := hd ⟨19, .data⟩ (by simp) (by rfl)
        have h0 := HV.out
        exact fx_val hK hρ (.bool hv) (by rw [h0]; simp [execOp, f19, hA.const, go_sem]) rfl
      | 26, ho =>
        have hoo := Option.some.inj ho
        subst hoo
        have f17 : (ρ (.tmp 41)) = .bool hv := hd ⟨17, .data⟩ (by simp) (by rfl)
        have f25 : (ρ (.tmp 49)) = .bool hv := hd ⟨25, .data⟩ (by simp) (by rfl)
        exact fx_val hK hρ (.bool true) (by simp [execOp, f17, f25, hA.const, go_sem]) rfl
      | 27, ho =>
        have hoo := Option.some.inj ho
        subst hoo
        have f15 : (ρ (.tmp 39)) = .bool true := hd ⟨15, .data⟩ (by simp) (by rfl)
        have f26 : (ρ (.tmp 50)) = .bool true := hd ⟨26, .data⟩ (by simp) (by rfl)
        exact fx_val hK hρ (.bool true) (by simp [execOp, f15, f26, hA.const, hA.const, go_sem]) rfl
      | 28, ho =>
        have hoo := Option.some.inj ho
        subst hoo
        have f27 : (ρ (.tmp 51)) = .bool true := hd ⟨27, .data⟩ (by simp) (by rfl)
        exact fx_val hK hρ (.bool true) (by simp [execOp, f27, hA.const, go_sem]) rfl
      | 29, ho =>
        have hoo := Option.some.inj ho
        subst hoo
        exact fx_val hK hρ _ (by have h := hA.tmp 2 (by decide); have h0 := (shp_cells (s := ⟨t, l, m, d, p⟩) hI).1.1; have h1 := (shp_cells (s := ⟨t, l, m, d, p⟩) hI).1.2; have h2 := (shp_cells (s := ⟨t, l, m, d, p⟩) hI).2.1; have h3 := (shp_cells (s := ⟨t, l, m, d, p⟩) hI).2.2.1; have h4 := (shp_cells (s := ⟨t, l, m, d, p⟩) hI).2.2.2; simp [execOp, h, h0, h1, h2, h3, h4, go_sem]) rfl
      | 30, ho =>
        have hoo := Option.some.inj ho
        subst hoo
        exact fx_val hK hρ (.int .i64 k) (by have h := hA.tmp 1 (by decide); simp [execOp, h, go_sem]) rfl
      | 31, ho =>
        have hoo := Option.some.inj ho
        subst hoo
        have f29 : (ρ (.tmp 53)) = .agg #[.int .i64 t, .int .i64 l, .int .i64 m, .int .i64 d, .int .i64 p] := hd ⟨29, .data⟩ (by simp) (by rfl)
        have f30 : (ρ (.tmp 54)) = .int .i64 k := hd ⟨30, .data⟩ (by simp) (by rfl)
        exact fx_call hK hρ 13 _ _ #[.agg #[.int .i64 t, .int .i64 l, .int .i64 m, .int .i64 d, .int .i64 p], .int .i64 k] rfl (by simp only [List.map_toArray, List.map_cons, List.map_nil, hA.const, f29, f30]) (eg_of Tryz.func13 (by kernel_rfl) rfl) ((BB.out w hI.bel).mono fun e w' ⟨he, hb⟩ => ⟨_, he, rfl, hb⟩)
      | 32, ho =>
        have hoo := Option.some.inj ho
        subst hoo
        exact fx_val hK hρ _ (by have h := hA.tmp 2 (by decide); have h0 := (shp_cells (s := ⟨t, l, m, d, p⟩) hI).1.1; have h1 := (shp_cells (s := ⟨t, l, m, d, p⟩) hI).1.2; have h2 := (shp_cells (s := ⟨t, l, m, d, p⟩) hI).2.1; have h3 := (shp_cells (s := ⟨t, l, m, d, p⟩) hI).2.2.1; have h4 := (shp_cells (s := ⟨t, l, m, d, p⟩) hI).2.2.2; simp [execOp, h, h0, h1, h2, h3, h4, go_sem]) rfl
      | 33, ho =>
        have hoo := Option.some.inj ho
        subst hoo
        exact fx_val hK hρ (.int .i64 k) (by have h := hA.tmp 1 (by decide); simp [execOp, h, go_sem]) rfl
      | 34, ho =>
        have hoo := Option.some.inj ho
        subst hoo
        have f32 : (ρ (.tmp 56)) = .agg #[.int .i64 t, .int .i64 l, .int .i64 m, .int .i64 d, .int .i64 p] := hd ⟨32, .data⟩ (by simp) (by rfl)
        have f33 : (ρ (.tmp 57)) = .int .i64 k := hd ⟨33, .data⟩ (by simp) (by rfl)
        exact fx_call hK hρ 14 _ _ #[.agg #[.int .i64 t, .int .i64 l, .int .i64 m, .int .i64 d, .int .i64 p], .int .i64 k] rfl (by simp only [List.map_toArray, List.map_cons, List.map_nil, hA.const, f32, f33]) (eg_of Tryz.func14 (by kernel_rfl) rfl) ((RB.out w).mono fun e w' ⟨he, hb⟩ => ⟨_, he, rfl, hb⟩)
      | 35, ho =>
        have hoo := Option.some.inj ho
        subst hoo
        have f31 : (ρ (.tmp 55)) = .int .i64 b := hd ⟨31, .data⟩ (by simp) (by rfl)
        have f34 : (ρ (.tmp 58)) = .int .i64 b := hd ⟨34, .data⟩ (by simp) (by rfl)
        exact fx_val hK hρ (.bool true) (by simp [execOp, f31, f34, hA.const, go_sem]) rfl
      | 36, ho =>
        have hoo := Option.some.inj ho
        subst hoo
        have f28 : (ρ (.tmp 52)) = .bool true := hd ⟨28, .data⟩ (by simp) (by rfl)
        have f35 : (ρ (.tmp 59)) = .bool true := hd ⟨35, .data⟩ (by simp) (by rfl)
        exact fx_val hK hρ (.bool true) (by simp [execOp, f28, f35, hA.const, hA.const, go_sem]) rfl
      | 37, ho =>
        have hoo := Option.some.inj ho
        subst hoo
        have f36 : (ρ (.tmp 60)) = .bool true := hd ⟨36, .data⟩ (by simp) (by rfl)
        exact fx_val hK hρ (.bool true) (by simp [execOp, f36, hA.const, go_sem]) rfl
      | kq + 38, ho => simp at ho
    case hend =>
      intro vals xw hI hF
      have f37 : vals 4 = .bool true := hF 37 (by decide)
      simp only [f37, fillA, fillL, List.contains_cons, List.contains_nil, Nat.reduceBEq, Bool.or_false, Bool.false_or, Bool.or_true, Bool.true_or, cond_true, cond_false, Nat.zero_add, Nat.reduceAdd]
      go_wp2
      go_ret
      exact ⟨rfl, hI.bel⟩

end Go.Proofs.YtjmledfmiljoiaaGreatDoor
