/- The walk of SchedChecks in the seat YtpaambpajpmjdaaDoor (printed by sched/mk_checks.py). No statement is proved here. -/
import Derived.Test.YtpaambpajpmjdaaDoorZM19
import Derived.Test.YtpaambpajpmjdaaDoorZSchedGx
import Derived.Test.YtpaambpajpmjdaaDoorZSchedRef6
import Derived.Test.YtpaambpajpmjdaaDoorZM17
set_option linter.unusedSimpArgs false
set_option linter.unusedVariables false
set_option linter.unusedSimpArgs false
namespace Go.Proofs.YtpaambpajpmjdaaDoor
open Go Go.RowKit

section
variable {A : Option Addr} {n c : Nat} {F : Option Addr} {m d : Nat} {W : List Int} {E : List (Int × Int)} {N : Option Addr} {nn nc : Nat} {need : List Int} {T : Option Addr} {tn tc : Nat} {t : List (List Int)}

end
def PhiCk (w0 : World) (A : Option Addr) (n c : Nat) (F : Option Addr) (m d : Nat) (W : List Int) (E : List (Int × Int)) (N : Option Addr) (nn nc : Nat) (need : List Int) (T : Option Addr) (tn tc : Nat) (t : List (List Int)) (cores : Int) : Nat → Value → World → Prop
  | 0, v, w => v = .agg #[.slice A n c, .slice F m d]
  | 1, v, w => GXd n m W E v w
  | 2, v, w => v = .slice N nn nc
  | 3, v, w => GXn nn need v w
  | 4, v, w => v = .int .i64 cores
  | 5, v, w => v = .slice T tn tc
  | 6, v, w => GXt tn t v w
  | 7, v, w => v = .int .i64 (schedE W E need cores t)
  | 8, v, w => v = .agg #[.slice A n c, .slice F m d]
  | 9, v, w => GXd n m W E v w
  | 10, v, w => v = .slice N nn nc
  | 11, v, w => GXn nn need v w
  | 12, v, w => v = .int .i64 cores
  | 13, v, w => v = .slice T tn tc
  | 14, v, w => GXt tn t v w
  | 15, v, w => GXi (endsV W E need cores t) v w
  | 16, v, w => v = .agg #[.slice A n c, .slice F m d]
  | 17, v, w => GXd n m W E v w
  | 18, v, w => v = .slice N nn nc
  | 19, v, w => GXn nn need v w
  | 20, v, w => v = .int .i64 cores
  | 21, v, w => v = .slice T tn tc
  | 22, v, w => GXt tn t v w
  | 23, v, w => v = .bool (greedyB W E need cores t)
  | 24, v, w => v = .int .i64 (schedE W E need cores t)
  | 25, v, w => GXi (endsV W E need cores t) v w
  | 26, v, w => v = .bool (greedyB W E need cores t)
  | _, _, _ => True
theorem phiCk_below (w0 : World) (A : Option Addr) (n c : Nat) (F : Option Addr) (m d : Nat) (W : List Int) (E : List (Int × Int)) (N : Option Addr) (nn nc : Nat) (need : List Int) (T : Option Addr) (tn tc : Nat) (t : List (List Int)) (cores : Int) : ∀ kq v w w', PhiCk w0 A n c F m d W E N nn nc need T tn tc t cores kq v w → Below w.heap.size w w' → PhiCk w0 A n c F m d W E N nn nc need T tn tc t cores kq v w' := by
  intro kq v w w' h hb
  match kq, h with
  | 0, h => exact h
  | 1, h => exact GXd.below h hb
  | 2, h => exact h
  | 3, h => exact GXn.below h hb
  | 4, h => exact h
  | 5, h => exact h
  | 6, h => exact GXt.below h hb
  | 7, h => exact h
  | 8, h => exact h
  | 9, h => exact GXd.below h hb
  | 10, h => exact h
  | 11, h => exact GXn.below h hb
  | 12, h => exact h
  | 13, h => exact h
  | 14, h => exact GXt.below h hb
  | 15, h => exact GXi.below h hb
  | 16, h => exact h
  | 17, h => exact GXd.below h hb
  | 18, h => exact h
  | 19, h => exact GXn.below h hb
  | 20, h => exact h
  | 21, h => exact h
  | 22, h => exact GXt.below h hb
  | 23, h => exact h
  | 24, h => exact h
  | 25, h => exact GXi.below h hb
  | 26, h => exact h
  | kq + 27, h => exact trivial
section
variable {A : Option Addr} {n c : Nat} {F : Option Addr} {m d : Nat} {W : List Int} {E : List (Int × Int)} {N : Option Addr} {nn nc : Nat} {need : List Int} {T : Option Addr} {tn tc : Nat} {t : List (List Int)}
set_option maxRecDepth 100000 in
set_option maxHeartbeats 16000000 in
theorem checks_many (w0 : World) (cores : Int) (hT : Tab64 w0) (hg : InG w0 A n c F m d W E) (hs : InS w0 N nn nc T tn tc need t) (h : ¬ ((n ≤ 70 ∧ m ≤ 300) ∧ FewS need t)) : Calls Tryd.prog 3 #[.agg #[.slice A n c, .slice F m d], .slice N nn nc, .int .i64 cores, .slice T tn tc] w0 fun e w' => e = .returned (.bool true) ∧ Below w0.heap.size w0 w' := by
  have HTW := Lib.hid (fun W (h : Below w0.heap.size w0 W) => Tab64.via hT h)
  have B0 := Lib.hid (BxB.start (Below.refl w0.heap.size w0) A n c F m d)
  by_cases hd : n ≤ 70 ∧ m ≤ 300
  · have F1 := Lib.hid (fun W => few_yes A F n c m d W hd.1 hd.2)
    have F2 := Lib.hid (fun W (hb : Below w0.heap.size w0 W) => rfew_any (N := N) (nc := nc) (tc := tc) false ⟨fun e => absurd e (by decide), fun q => absurd ⟨hd, q⟩ h⟩ w0.heap.size W hs.hn hs.ht hs.ln hs.lt hs.lr (hs.rows.below hb))
    clear hg hs h hd hT
    go_enter Tryd.func3, Tryd.ntmps3
    go_wp2_with fail
    refine (awake10_any _ (HTW.out _ B0.out.bel)).mono ?_
    rintro e y1 ⟨rfl, b⟩
    have B1 := Lib.hid (B0.out.next b)
    clear b
    obtain ⟨q0, q1⟩ := B1.out.cells
    go_wp2_with fail
    refine (F1.out _).mono ?_
    rintro e y2 ⟨rfl, b⟩
    have B2 := Lib.hid (B1.out.next b)
    clear b q0 q1
    go_wp2_with fail
    refine (F2.out _ B2.out.bel).mono ?_
    rintro e y2' ⟨rfl, rfl⟩
    go_wp2_with fail
    refine (awake10_any _ (HTW.out _ B2.out.bel)).mono ?_
    rintro e y3 ⟨rfl, b⟩
    have B3 := Lib.hid (B2.out.next b)
    clear b
    go_wp2_with fail
    go_ret
    exact ⟨rfl, B3.out.bel⟩
  · have F1 := Lib.hid (fun W => few_no A F n c m d W hg.ln hg.lm hd)
    clear hg hs h hd hT
    go_enter Tryd.func3, Tryd.ntmps3
    go_wp2_with fail
    refine (awake10_any _ (HTW.out _ B0.out.bel)).mono ?_
    rintro e y1 ⟨rfl, b⟩
    have B1 := Lib.hid (B0.out.next b)
    clear b
    obtain ⟨q0, q1⟩ := B1.out.cells
    go_wp2_with fail
    refine (F1.out _).mono ?_
    rintro e y2 ⟨rfl, b⟩
    have B2 := Lib.hid (B1.out.next b)
    clear b q0 q1
    go_wp2_with fail
    refine (awake10_any _ (HTW.out _ B2.out.bel)).mono ?_
    rintro e y3 ⟨rfl, b⟩
    have B3 := Lib.hid (B2.out.next b)
    clear b
    go_wp2_with fail
    go_ret
    exact ⟨rfl, B3.out.bel⟩

set_option maxRecDepth 100000 in
set_option maxHeartbeats 64000000 in
theorem checks_few (w0 : World) (cores : Int) (hG : IsG w0 A n c F m d W E) (hS0 : IsS w0 N nn nc T tn tc need t) (l1 : n ≤ 70) (l2 : m ≤ 300) (hf : FewS need t) : Calls Tryd.prog 3 #[.agg #[.slice A n c, .slice F m d], .slice N nn nc, .int .i64 cores, .slice T tn tc] w0 fun e w' => e = .returned (.bool true) ∧ Below w0.heap.size w0 w' := by
  have HTW := Lib.hid (fun W (h : Below w0.heap.size w0 W) => Tab64.via hG.tab h)
  have HG := Lib.hid (fun W' (h : Below w0.heap.size w0 W') => hG.below h)
  have HS := Lib.hid (fun W' (h : Below w0.heap.size w0 W') => hS0.below h)
  have HZ := Lib.hid hS0
  have B0 := Lib.hid (BxB.start (Below.refl w0.heap.size w0) A n c F m d)
  have F1 := Lib.hid (fun W => few_yes A F n c m d W l1 l2)
  have F2 := Lib.hid (fun W (hb : Below w0.heap.size w0 W) => rfew_any (N := N) (nc := nc) (tc := tc) true ⟨fun _ => hf, fun _ => rfl⟩ w0.heap.size W hS0.hn hS0.ht (by have := hS0.ln; omega) (by have := hS0.lt; omega) (fun r hr => by have := hS0.lr r hr; omega) (hS0.rows.below hb))
  have hnn : nn ≤ 70 := by have := hf.1; have := hS0.hn; omega
  have htn : tn ≤ 120 := by have := hf.2.1; have := hS0.ht; omega
  obtain ⟨z, hz⟩ : ∃ z, z = schedE W E need cores t := ⟨_, rfl⟩
  have HZE := Lib.hid hz
  clear hG hS0 hf hz
  go_enter Tryd.func3, Tryd.ntmps3
  go_wp2_with fail
  refine (awake10_any _ (HTW.out _ B0.out.bel)).mono ?_
  rintro e y1 ⟨rfl, b⟩
  have B1 := Lib.hid (B0.out.next b)
  clear b
  obtain ⟨q0, q1⟩ := B1.out.cells
  go_wp2_with fail
  refine (F1.out _).mono ?_
  rintro e y2 ⟨rfl, b⟩
  have B2 := Lib.hid (B1.out.next b)
  clear b q0 q1
  go_wp2_with fail
  refine (F2.out _ B2.out.bel).mono ?_
  rintro e y2' ⟨rfl, rfl⟩
  obtain ⟨q0, q1⟩ := B2.out.cells
  go_wp2_with fail
  refine (rcheck10_any cores _ (HG.out _ B2.out.bel) (HS.out _ B2.out.bel)).mono ?_
  rintro e y3 ⟨rfl, b⟩
  have B3 := Lib.hid (B2.out.next b)
  rw [← HZE.out]
  clear b q0 q1 B0 B1 B2
  go_wp2
  refine wp_region_facts' [32, 33, 34, 35, 36, 37, 38, 39, 40, 41, 42, 43, 44, 45, 46, 47, 48, 49, 50, 51, 52, 53, 54, 55, 10, 11, 12] [] [] (by kernel_rfl) (by kernel_rfl) (by kernel_rfl) (by intro d hd; simp at hd ⊢; omega) (fun y => BxB w0 w0.heap.size A n c F m d y) (PhiCk w0 A n c F m d W E N nn nc need T tn tc t cores)
    (fun x y h hb => h.next hb) (phiCk_below w0 A n c F m d W E N nn nc need T tn tc t cores) (B3.out.next (Below.refl _ _).drew) (fun p hp v w hv => by cases hp) (fun kq hkq => by simp at hkq) ?hstep ?hend
  case hstep =>
    intro kq o ho hw a w hI hA hd K hK
    obtain ⟨ρ, hρ⟩ : ∃ ρ, a.eval = ρ := ⟨_, rfl⟩
    rw [hρ] at hA hd
    match kq, ho with
    | 0, ho =>
      have hoo := Option.some.inj ho
      subst hoo
      exact fx_val hK hρ _ (by have h := hA.tmp 4 (by decide); have h0 := hI.p0; have h1 := hI.p1; simp [execOp, h, h0, h1, go_sem]) rfl
    | 1, ho =>
      have hoo := Option.some.inj ho
      subst hoo
      have f0 : (ρ (.tmp 32)) = .agg #[.slice A n c, .slice F m d] := hd ⟨0, .data⟩ (by simp) (by rfl)
      exact fx_call hK hρ 15 _ _ #[.agg #[.slice A n c, .slice F m d]] rfl (by simp only [List.map_toArray, List.map_cons, List.map_nil, hA.const, f0]) (eg_of Tryd.func15 (by kernel_rfl) rfl) ((own_g10 (HG.out w hI.bel)).mono fun e w' ⟨A', c', F', d', he, hg, hb⟩ => ⟨_, he, ⟨A', c', F', d', rfl, hg⟩, hb⟩)
    | 2, ho =>
      have hoo := Option.some.inj ho
      subst hoo
      exact fx_val hK hρ (.slice N nn nc) (by have h := hA.tmp 1 (by decide); simp [execOp, h, go_sem]) rfl
    | 3, ho =>
      have hoo := Option.some.inj ho
      subst hoo
      have f2 : (ρ (.tmp 34)) = .slice N nn nc := hd ⟨2, .data⟩ (by simp) (by rfl)
      exact fx_call hK hρ 16 _ _ #[.slice N nn nc] rfl (by simp only [List.map_toArray, List.map_cons, List.map_nil, hA.const, f2]) (eg_of Tryd.func16 (by kernel_rfl) rfl) ((ints10_any w HZ.out.hn (by have := HZ.out.ln; omega) (HS.out w hI.bel).ints HZ.out.hN).mono fun e w' ⟨A', c', he, h1, h2, hb⟩ => ⟨_, he, ⟨A', c', rfl, h1, h2⟩, hb⟩)
    | 4, ho =>
      have hoo := Option.some.inj ho
      subst hoo
      exact fx_val hK hρ (.int .i64 cores) (by have h := hA.tmp 2 (by decide); simp [execOp, h, go_sem]) rfl
    | 5, ho =>
      have hoo := Option.some.inj ho
      subst hoo
      exact fx_val hK hρ (.slice T tn tc) (by have h := hA.tmp 3 (by decide); simp [execOp, h, go_sem]) rfl
    | 6, ho =>
      have hoo := Option.some.inj ho
      subst hoo
      have f5 : (ρ (.tmp 37)) = .slice T tn tc := hd ⟨5, .data⟩ (by simp) (by rfl)
      exact fx_call hK hρ 17 _ _ #[.slice T tn tc] rfl (by simp only [List.map_toArray, List.map_cons, List.map_nil, hA.const, f5]) (eg_of Tryd.func17 (by kernel_rfl) rfl) ((sown_any w HZ.out.ht HZ.out.lt HZ.out.lr (HS.out w hI.bel).rows).mono fun e w' ⟨A', c', he, h1, h2, hb⟩ => ⟨_, he, ⟨A', c', rfl, h1, h2⟩, hb⟩)
    | 7, ho =>
      have hoo := Option.some.inj ho
      subst hoo
      have f1 : GXd n m W E (ρ (.tmp 33)) w := hd ⟨1, .data⟩ (by simp) (by rfl)
      have f3 : GXn nn need (ρ (.tmp 35)) w := hd ⟨3, .data⟩ (by simp) (by rfl)
      have f4 : (ρ (.tmp 36)) = .int .i64 cores := hd ⟨4, .data⟩ (by simp) (by rfl)
      have f6 : GXt tn t (ρ (.tmp 38)) w := hd ⟨6, .data⟩ (by simp) (by rfl)
      obtain ⟨A1, c1, F1, d1, f1', hg1⟩ := f1
      obtain ⟨A2, c2, f3', hi2, hn2⟩ := f3
      obtain ⟨A3, c3, f6', ht3, hn3⟩ := f6
      exact fx_call hK hρ 14 _ _ #[.agg #[.slice A1 n c1, .slice F1 m d1], .slice A2 nn c2, .int .i64 cores, .slice A3 tn c3] rfl (by simp only [List.map_toArray, List.map_cons, List.map_nil, hA.const, f1', f3', f4, f6']) (eg_of Tryd.func14 (by kernel_rfl) rfl) ((scheck_any cores w hg1 (mkS HZ.out hi2 hn2 ht3 hn3)).mono fun e w' ⟨he, hb⟩ => ⟨_, he, rfl, hb⟩)
    | 8, ho =>
      have hoo := Option.some.inj ho
      subst hoo
      exact fx_val hK hρ _ (by have h := hA.tmp 4 (by decide); have h0 := hI.p0; have h1 := hI.p1; simp [execOp, h, h0, h1, go_sem]) rfl
    | 9, ho =>
      have hoo := Option.some.inj ho
      subst hoo
      have f8 : (ρ (.tmp 40)) = .agg #[.slice A n c, .slice F m d] := hd ⟨8, .data⟩ (by simp) (by rfl)
      exact fx_call hK hρ 15 _ _ #[.agg #[.slice A n c, .slice F m d]] rfl (by simp only [List.map_toArray, List.map_cons, List.map_nil, hA.const, f8]) (eg_of Tryd.func15 (by kernel_rfl) rfl) ((own_g10 (HG.out w hI.bel)).mono fun e w' ⟨A', c', F', d', he, hg, hb⟩ => ⟨_, he, ⟨A', c', F', d', rfl, hg⟩, hb⟩)
    | 10, ho =>
      have hoo := Option.some.inj ho
      subst hoo
      exact fx_val hK hρ (.slice N nn nc) (by have h := hA.tmp 1 (by decide); simp [execOp, h, go_sem]) rfl
    | 11, ho =>
      have hoo := Option.some.inj ho
      subst hoo
      have f10 : (ρ (.tmp 42)) = .slice N nn nc := hd ⟨10, .data⟩ (by simp) (by rfl)
      exact fx_call hK hρ 16 _ _ #[.slice N nn nc] rfl (by simp only [List.map_toArray, List.map_cons, List.map_nil, hA.const, f10]) (eg_of Tryd.func16 (by kernel_rfl) rfl) ((ints10_any w HZ.out.hn (by have := HZ.out.ln; omega) (HS.out w hI.bel).ints HZ.out.hN).mono fun e w' ⟨A', c', he, h1, h2, hb⟩ => ⟨_, he, ⟨A', c', rfl, h1, h2⟩, hb⟩)
    | 12, ho =>
      have hoo := Option.some.inj ho
      subst hoo
      exact fx_val hK hρ (.int .i64 cores) (by have h := hA.tmp 2 (by decide); simp [execOp, h, go_sem]) rfl
    | 13, ho =>
      have hoo := Option.some.inj ho
      subst hoo
      exact fx_val hK hρ (.slice T tn tc) (by have h := hA.tmp 3 (by decide); simp [execOp, h, go_sem]) rfl
    | 14, ho =>
      have hoo := Option.some.inj ho
      subst hoo
      have f13 : (ρ (.tmp 45)) = .slice T tn tc := hd ⟨13, .data⟩ (by simp) (by rfl)
      exact fx_call hK hρ 17 _ _ #[.slice T tn tc] rfl (by simp only [List.map_toArray, List.map_cons, List.map_nil, hA.const, f13]) (eg_of Tryd.func17 (by kernel_rfl) rfl) ((sown_any w HZ.out.ht HZ.out.lt HZ.out.lr (HS.out w hI.bel).rows).mono fun e w' ⟨A', c', he, h1, h2, hb⟩ => ⟨_, he, ⟨A', c', rfl, h1, h2⟩, hb⟩)
    | 15, ho =>
      have hoo := Option.some.inj ho
      subst hoo
      have f9 : GXd n m W E (ρ (.tmp 41)) w := hd ⟨9, .data⟩ (by simp) (by rfl)
      have f11 : GXn nn need (ρ (.tmp 43)) w := hd ⟨11, .data⟩ (by simp) (by rfl)
      have f12 : (ρ (.tmp 44)) = .int .i64 cores := hd ⟨12, .data⟩ (by simp) (by rfl)
      have f14 : GXt tn t (ρ (.tmp 46)) w := hd ⟨14, .data⟩ (by simp) (by rfl)
      obtain ⟨A1, c1, F1, d1, f9', hg1⟩ := f9
      obtain ⟨A2, c2, f11', hi2, hn2⟩ := f11
      obtain ⟨A3, c3, f14', ht3, hn3⟩ := f14
      exact fx_call hK hρ 18 _ _ #[.agg #[.slice A1 n c1, .slice F1 m d1], .slice A2 nn c2, .int .i64 cores, .slice A3 tn c3] rfl (by simp only [List.map_toArray, List.map_cons, List.map_nil, hA.const, f9', f11', f12, f14']) (eg_of Tryd.func18 (by kernel_rfl) rfl) ((ends_any cores w hg1 (mkS HZ.out hi2 hn2 ht3 hn3)).mono fun e w' ⟨A', c', he, h1, hb⟩ => ⟨_, he, ⟨A', c', rfl, h1⟩, hb⟩)
    | 16, ho =>
      have hoo := Option.some.inj ho
      subst hoo
      exact fx_val hK hρ _ (by have h := hA.tmp 4 (by decide); have h0 := hI.p0; have h1 := hI.p1; simp [execOp, h, h0, h1, go_sem]) rfl
    | 17, ho =>
      have hoo := Option.some.inj ho
      subst hoo
      have f16 : (ρ (.tmp 48)) = .agg #[.slice A n c, .slice F m d] := hd ⟨16, .data⟩ (by simp) (by rfl)
      exact fx_call hK hρ 15 _ _ #[.agg #[.slice A n c, .slice F m d]] rfl (by simp only [List.map_toArray, List.map_cons, List.map_nil, hA.const, f16]) (eg_of Tryd.func15 (by kernel_rfl) rfl) ((own_g10 (HG.out w hI.bel)).mono fun e w' ⟨A', c', F', d', he, hg, hb⟩ => ⟨_, he, ⟨A', c', F', d', rfl, hg⟩, hb⟩)
    | 18, ho =>
      have hoo := Option.some.inj ho
      subst hoo
      exact fx_val hK hρ (.slice N nn nc) (by have h := hA.tmp 1 (by decide); simp [execOp, h, go_sem]) rfl
    | 19, ho =>
      have hoo := Option.some.inj ho
      subst hoo
      have f18 : (ρ (.tmp 50)) = .slice N nn nc := hd ⟨18, .data⟩ (by simp) (by rfl)
      exact fx_call hK hρ 16 _ _ #[.slice N nn nc] rfl (by simp only [List.map_toArray, List.map_cons, List.map_nil, hA.const, f18]) (eg_of Tryd.func16 (by kernel_rfl) rfl) ((ints10_any w HZ.out.hn (by have := HZ.out.ln; omega) (HS.out w hI.bel).ints HZ.out.hN).mono fun e w' ⟨A', c', he, h1, h2, hb⟩ => ⟨_, he, ⟨A', c', rfl, h1, h2⟩, hb⟩)
    | 20, ho =>
      have hoo := Option.some.inj ho
      subst hoo
      exact fx_val hK hρ (.int .i64 cores) (by have h := hA.tmp 2 (by decide); simp [execOp, h, go_sem]) rfl
    | 21, ho =>
      have hoo := Option.some.inj ho
      subst hoo
      exact fx_val hK hρ (.slice T tn tc) (by have h := hA.tmp 3 (by decide); simp [execOp, h, go_sem]) rfl
    | 22, ho =>
      have hoo := Option.some.inj ho
      subst hoo
      have f21 : (ρ (.tmp 53)) = .slice T tn tc := hd ⟨21, .data⟩ (by simp) (by rfl)
      exact fx_call hK hρ 17 _ _ #[.slice T tn tc] rfl (by simp only [List.map_toArray, List.map_cons, List.map_nil, hA.const, f21]) (eg_of Tryd.func17 (by kernel_rfl) rfl) ((sown_any w HZ.out.ht HZ.out.lt HZ.out.lr (HS.out w hI.bel).rows).mono fun e w' ⟨A', c', he, h1, h2, hb⟩ => ⟨_, he, ⟨A', c', rfl, h1, h2⟩, hb⟩)
    | 23, ho =>
      have hoo := Option.some.inj ho
      subst hoo
      have f17 : GXd n m W E (ρ (.tmp 49)) w := hd ⟨17, .data⟩ (by simp) (by rfl)
      have f19 : GXn nn need (ρ (.tmp 51)) w := hd ⟨19, .data⟩ (by simp) (by rfl)
      have f20 : (ρ (.tmp 52)) = .int .i64 cores := hd ⟨20, .data⟩ (by simp) (by rfl)
      have f22 : GXt tn t (ρ (.tmp 54)) w := hd ⟨22, .data⟩ (by simp) (by rfl)
      obtain ⟨A1, c1, F1, d1, f17', hg1⟩ := f17
      obtain ⟨A2, c2, f19', hi2, hn2⟩ := f19
      obtain ⟨A3, c3, f22', ht3, hn3⟩ := f22
      exact fx_call hK hρ 19 _ _ #[.agg #[.slice A1 n c1, .slice F1 m d1], .slice A2 nn c2, .int .i64 cores, .slice A3 tn c3] rfl (by simp only [List.map_toArray, List.map_cons, List.map_nil, hA.const, f17', f19', f20, f22']) (eg_of Tryd.func19 (by kernel_rfl) rfl) ((greedy_any cores w hg1 (mkS HZ.out hi2 hn2 ht3 hn3)).mono fun e w' ⟨he, hb⟩ => ⟨_, he, rfl, hb⟩)
    | 24, ho =>
      have hoo := Option.some.inj ho
      subst hoo
      have f7 : (ρ (.tmp 39)) = .int .i64 (schedE W E need cores t) := hd ⟨7, .data⟩ (by simp) (by rfl)
      exact fx_val hK hρ (.int .i64 (schedE W E need cores t)) (by simp [execOp, f7, hA.const, go_sem]) rfl
    | 25, ho =>
      have hoo := Option.some.inj ho
      subst hoo
      have f15 : GXi (endsV W E need cores t) (ρ (.tmp 47)) w := hd ⟨15, .data⟩ (by simp) (by rfl)
      obtain ⟨A5, c5, f15', hi5⟩ := f15
      exact fx_val hK hρ (.slice A5 (endsV W E need cores t).length c5) (by simp [execOp, f15', hA.const, go_sem]) ⟨A5, c5, rfl, hi5⟩
    | 26, ho =>
      have hoo := Option.some.inj ho
      subst hoo
      have f23 : (ρ (.tmp 55)) = .bool (greedyB W E need cores t) := hd ⟨23, .data⟩ (by simp) (by rfl)
      exact fx_val hK hρ (.bool (greedyB W E need cores t)) (by simp [execOp, f23, hA.const, go_sem]) rfl
    | kq + 27, ho => simp at ho
  case hend =>
    intro vals xw hI hF
    have f10 : vals 10 = .int .i64 (schedE W E need cores t) := hF 24 (by decide)
    obtain ⟨A5, c5, f11, hi5⟩ : GXi (endsV W E need cores t) (vals 11) xw := hF 25 (by decide)
    have f12 : vals 12 = .bool (greedyB W E need cores t) := hF 26 (by decide)
    have B4 := Lib.hid hI
    have HI5 := Lib.hid hi5
    clear hF hI hi5 B3
    simp only [fillA, fillL, List.contains_cons, List.contains_nil, Nat.reduceBEq, Bool.or_false, Bool.false_or, Bool.or_true, Bool.true_or, cond_true, cond_false, Nat.zero_add, Nat.reduceAdd]
    rw [f10, f11, f12, ← HZE.out]
    clear f10 f11 f12
    by_cases hz : z = 0
    · subst hz
      obtain ⟨k0, hk0, hok⟩ := schedE_zero.mp HZE.out.symm
      have HFIT : Hid (Fits need.length E) := Lib.hid (by rw [hok.form.1]; exact hok.may.fits)
      have HE := endsV_ok HZE.out.symm
      obtain ⟨L, hL⟩ : ∃ L, L = endsV W E need cores t := ⟨_, rfl⟩
      rw [← hL] at HE HI5 ⊢
      have HLE := Lib.hid HE
      have HLL : Hid (L.length ≤ 1000) := Lib.hid (by rw [HE, List.length_map, List.length_range, HZ.out.hn]; omega)
      obtain ⟨gb, hgb⟩ : ∃ g, g = greedyB W E need cores t := ⟨_, rfl⟩
      rw [← hgb]
      have HGB : Hid (gb = true ↔ GreedyT E need t) := Lib.hid (by
        rw [hgb, greedyB_iff]
        exact ⟨fun q => q.2, fun q => ⟨HZE.out.symm, q⟩⟩)
      clear hok HE hL hgb hk0
      obtain ⟨q0, q1⟩ := B4.out.cells
      go_wp2_with fail
      refine (rends_any _ (HS.out _ B4.out.bel)).mono ?_
      rintro e y5 ⟨A6, c6, rfl, hi6, b⟩
      have B5 := Lib.hid (B4.out.next b)
      rw [← HLE.out] at hi6 ⊢
      have HI6 := Lib.hid (And.intro ((HI5.out.below b).more b.size) hi6)
      clear b hi6 q0 q1
      go_wp2_with fail
      refine (ints_any _ A5 A6 c5 c6 L L _ HLL.out HLL.out HI6.out.1 HI6.out.2).mono ?_
      rintro e y6 ⟨rfl, k, hk⟩
      have B6 := Lib.hid (B5.out.next (y := y6) (by rw [hk]; exact below_drewN (Below.refl _ _) k))
      have hLL : decide (L = L) = true := decide_eq_true rfl
      rw [hLL]
      clear hk hLL
      obtain ⟨q0, q1⟩ := B6.out.cells
      go_wp2_with fail
      refine (rgreedy_any _ (HG.out _ B6.out.bel) (HS.out _ B6.out.bel) HFIT.out).mono ?_
      rintro e y7 ⟨b2, rfl, hb2, b⟩
      have B7 := Lib.hid (B6.out.next b)
      obtain rfl : b2 = gb := by rw [Bool.eq_iff_iff, hb2]; exact HGB.out.symm
      clear b hb2 q0 q1
      go_wp2
      go_ret
      exact ⟨by simp, B7.out.bel⟩
    · have hne : (z != 0) = true := bne_iff_ne.mpr hz
      have HE := endsV_bad (W := W) (E := E) (need := need) (cores := cores) (t := t) (by rw [← HZE.out]; exact hz)
      have HGF : greedyB W E need cores t = false := by
        rw [← Bool.not_eq_true, greedyB_iff]
        exact fun q => hz (HZE.out.trans q.1)
      rw [HE, HGF]
      clear hz HE HGF
      go_wp2
      go_ret
      exact ⟨by simp, B4.out.bel⟩
theorem walk_SchedChecks (w0 : World) (hg : InG w0 A n c F m d W E) (hN : InN w0 N nn nc need) (cores : Int) (hc : -9223372036854775808 ≤ cores ∧ cores ≤ 9223372036854775807) (hT' : InT w0 T tn tc t) (hT : Tab64 w0) : Calls Tryd.prog 3 #[.agg #[.slice A n c, .slice F m d], .slice N nn nc, .int .i64 cores, .slice T tn tc] w0 fun e w' => e = .returned (.bool true) ∧ Below w0.heap.size w0 w' := by
  have hs := hN.with hT'
  by_cases h : (n ≤ 70 ∧ m ≤ 300) ∧ FewS need t
  · exact checks_few w0 cores (hg.isG hT h.1.1 h.1.2) (hs.isS h.2) h.1.1 h.1.2 h.2
  · exact checks_many w0 cores hT hg hs h
end
end Go.Proofs.YtpaambpajpmjdaaDoor
