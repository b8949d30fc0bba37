/- The walk of SchedCuts in the seat YtpaambpajpmjdaaDoor (printed by sched/mk_cuts.py). No statement is proved here. -/
import Derived.Test.YtpaambpajpmjdaaDoorZM19
import Derived.Test.YtpaambpajpmjdaaDoorZSchedGx
import Derived.BigQuiet
set_option linter.unusedSimpArgs false
set_option linter.unusedVariables false
set_option linter.unusedSimpArgs false
namespace Go.Proofs.YtpaambpajpmjdaaDoor
open Go Go.RowKit

section
variable {A : Option Addr} {n c : Nat} {F : Option Addr} {m d : Nat} {W : List Int} {E : List (Int × Int)} {N : Option Addr} {nn nc : Nat} {need : List Int} {T : Option Addr} {tn tc : Nat} {t : List (List Int)}

/-- The box, and a beginning of the schedule of the call's own. -/
structure CxB (w : World) (g : Nat) (A : Option Addr) (n c : Nat) (F : Option Addr) (m d : Nat) (X : Option Addr) (cut : List (List Int)) (y : World) : Prop where
  toB : BxB w g A n c F m d y
  x : Trc y y.heap.size X cut
theorem CxB.bel {w y : World} {g : Nat} {X : Option Addr} {cut : List (List Int)} (h : CxB w g A n c F m d X cut y) : Below w.heap.size w y := h.toB.bel
theorem CxB.p0 {w y : World} {g : Nat} {X : Option Addr} {cut : List (List Int)} (h : CxB w g A n c F m d X cut y) : y.cell? ⟨g, 0, none⟩ = some (.slice A n c) := h.toB.p0
theorem CxB.p1 {w y : World} {g : Nat} {X : Option Addr} {cut : List (List Int)} (h : CxB w g A n c F m d X cut y) : y.cell? ⟨g, 1, none⟩ = some (.slice F m d) := h.toB.p1
theorem CxB.cells {w y : World} {g : Nat} {X : Option Addr} {cut : List (List Int)} (h : CxB w g A n c F m d X cut y) : y.cell? ⟨g, 0, none⟩ = some (.slice A n c) ∧ y.cell? ⟨g, 1, none⟩ = some (.slice F m d) := h.toB.cells
theorem CxB.next {w x y : World} {g : Nat} {X : Option Addr} {cut : List (List Int)} (h : CxB w g A n c F m d X cut x) (b : Below x.heap.size x y) : CxB w g A n c F m d X cut y := ⟨h.toB.next b, (h.x.below b).more b.size⟩
end
def PhiCt (w0 : World) (A : Option Addr) (n c : Nat) (F : Option Addr) (m d : Nat) (W : List Int) (E : List (Int × Int)) (N : Option Addr) (nn nc : Nat) (need : List Int) (T : Option Addr) (tn tc : Nat) (t : List (List Int)) (cores : Int) (X : Option Addr) (cx cu : Nat) : Nat → Value → World → Prop
  | 0, v, w => v = .agg #[.slice A n c, .slice F m d]
  | 1, v, w => GXd n m W E v w
  | 2, v, w => v = .slice N nn nc
  | 3, v, w => GXn nn need v w
  | 4, v, w => v = .int .i64 cores
  | 5, v, w => v = .slice T tn tc
  | 6, v, w => GXt tn t v w
  | 7, v, w => GXi (endsV W E need cores t) v w
  | 8, v, w => v = .agg #[.slice A n c, .slice F m d]
  | 9, v, w => GXd n m W E v w
  | 10, v, w => v = .slice N nn nc
  | 11, v, w => GXn nn need v w
  | 12, v, w => v = .int .i64 cores
  | 13, v, w => v = .slice X cu cx
  | 14, v, w => GXt cu (t.take cu) v w
  | 15, v, w => GXi (endsV W E need cores (t.take cu)) v w
  | 16, v, w => GXi (endsV W E need cores t) v w
  | 17, v, w => GXi (endsV W E need cores (t.take cu)) v w
  | _, _, _ => True
theorem phiCt_below (w0 : World) (A : Option Addr) (n c : Nat) (F : Option Addr) (m d : Nat) (W : List Int) (E : List (Int × Int)) (N : Option Addr) (nn nc : Nat) (need : List Int) (T : Option Addr) (tn tc : Nat) (t : List (List Int)) (cores : Int) (X : Option Addr) (cx cu : Nat) : ∀ kq v w w', PhiCt w0 A n c F m d W E N nn nc need T tn tc t cores X cx cu kq v w → Below w.heap.size w w' → PhiCt w0 A n c F m d W E N nn nc need T tn tc t cores X cx cu kq v w' := by
  intro kq v w w' h hb
  match kq, h with
  | 0, h => exact h
  | 1, h => exact GXd.below h hb
  | 2, h => exact h
  | 3, h => exact GXn.below h hb
  | 4, h => exact h
  | 5, h => exact h
  | 6, h => exact GXt.below h hb
  | 7, h => exact GXi.below h hb
  | 8, h => exact h
  | 9, h => exact GXd.below h hb
  | 10, h => exact h
  | 11, h => exact GXn.below h hb
  | 12, h => exact h
  | 13, h => exact h
  | 14, h => exact GXt.below h hb
  | 15, h => exact GXi.below h hb
  | 16, h => exact GXi.below h hb
  | 17, h => exact GXi.below h hb
  | kq + 18, h => exact trivial
section
variable {A : Option Addr} {n c : Nat} {F : Option Addr} {m d : Nat} {W : List Int} {E : List (Int × Int)} {N : Option Addr} {nn nc : Nat} {need : List Int} {T : Option Addr} {tn tc : Nat} {t : List (List Int)}
set_option maxRecDepth 100000 in
set_option maxHeartbeats 16000000 in
theorem cuts_many (w0 : World) (at' cores : Int) (hT : Tab64 w0) (hg : InG w0 A n c F m d W E) (hs : InS w0 N nn nc T tn tc need t) (h : ¬ ((n ≤ 70 ∧ m ≤ 300) ∧ FewS need t)) : Calls Tryd.prog 7 #[.agg #[.slice A n c, .slice F m d], .slice N nn nc, .int .i64 cores, .slice T tn tc, .int .i64 at'] w0 fun e w' => e = .returned (.bool true) ∧ Below w0.heap.size w0 w' := by
  have HTW := Lib.hid (fun W (h : Below w0.heap.size w0 W) => Tab64.via hT h)
  have B0 := Lib.hid (BxB.start (Below.refl w0.heap.size w0) A n c F m d)
  by_cases hd : n ≤ 70 ∧ m ≤ 300
  · have F1 := Lib.hid (fun W => few_yes A F n c m d W hd.1 hd.2)
    have F2 := Lib.hid (fun W (hb : Below w0.heap.size w0 W) => rfew_any (N := N) (nc := nc) (tc := tc) false ⟨fun e => absurd e (by decide), fun q => absurd ⟨hd, q⟩ h⟩ w0.heap.size W hs.hn hs.ht hs.ln hs.lt hs.lr (hs.rows.below hb))
    clear hg hs h hd hT
    go_enter Tryd.func7, Tryd.ntmps7
    go_wp2_with fail
    refine (awake10_any _ (HTW.out _ B0.out.bel)).mono ?_
    rintro e y1 ⟨rfl, b⟩
    have B1 := Lib.hid (B0.out.next b)
    clear b
    obtain ⟨q0, q1⟩ := B1.out.cells
    go_wp2_with fail
    refine (F1.out _).mono ?_
    rintro e y2 ⟨rfl, b⟩
    have B2 := Lib.hid (B1.out.next b)
    clear b q0 q1
    go_wp2_with fail
    refine (F2.out _ B2.out.bel).mono ?_
    rintro e y2' ⟨rfl, rfl⟩
    go_wp2_with fail
    refine (awake10_any _ (HTW.out _ B2.out.bel)).mono ?_
    rintro e y3 ⟨rfl, b⟩
    have B3 := Lib.hid (B2.out.next b)
    clear b
    go_wp2_with fail
    go_ret
    exact ⟨rfl, B3.out.bel⟩
  · have F1 := Lib.hid (fun W => few_no A F n c m d W hg.ln hg.lm hd)
    clear hg hs h hd hT
    go_enter Tryd.func7, Tryd.ntmps7
    go_wp2_with fail
    refine (awake10_any _ (HTW.out _ B0.out.bel)).mono ?_
    rintro e y1 ⟨rfl, b⟩
    have B1 := Lib.hid (B0.out.next b)
    clear b
    obtain ⟨q0, q1⟩ := B1.out.cells
    go_wp2_with fail
    refine (F1.out _).mono ?_
    rintro e y2 ⟨rfl, b⟩
    have B2 := Lib.hid (B1.out.next b)
    clear b q0 q1
    go_wp2_with fail
    refine (awake10_any _ (HTW.out _ B2.out.bel)).mono ?_
    rintro e y3 ⟨rfl, b⟩
    have B3 := Lib.hid (B2.out.next b)
    clear b
    go_wp2_with fail
    go_ret
    exact ⟨rfl, B3.out.bel⟩

set_option maxRecDepth 100000 in
set_option maxHeartbeats 64000000 in
theorem cuts_few (w0 : World) (cores at' : Int) (hct : tn ≤ tc) (hG : IsG w0 A n c F m d W E) (hS0 : IsS w0 N nn nc T tn tc need t) (l1 : n ≤ 70) (l2 : m ≤ 300) (hf : FewS need t) : Calls Tryd.prog 7 #[.agg #[.slice A n c, .slice F m d], .slice N nn nc, .int .i64 cores, .slice T tn tc, .int .i64 at'] w0 fun e w' => e = .returned (.bool true) ∧ Below w0.heap.size w0 w' := by
  have HTW := Lib.hid (fun W (h : Below w0.heap.size w0 W) => Tab64.via hG.tab h)
  have HG := Lib.hid (fun W' (h : Below w0.heap.size w0 W') => hG.below h)
  have HS := Lib.hid (fun W' (h : Below w0.heap.size w0 W') => hS0.below h)
  have HZ := Lib.hid hS0
  have B0 := Lib.hid (BxB.start (Below.refl w0.heap.size w0) A n c F m d)
  have F1 := Lib.hid (fun W => few_yes A F n c m d W l1 l2)
  have F2 := Lib.hid (fun W (hb : Below w0.heap.size w0 W) => rfew_any (N := N) (nc := nc) (tc := tc) true ⟨fun _ => hf, fun _ => rfl⟩ w0.heap.size W hS0.hn hS0.ht (by have := hS0.ln; omega) (by have := hS0.lt; omega) (fun r hr => by have := hS0.lr r hr; omega) (hS0.rows.below hb))
  have hnn : nn ≤ 70 := by have := hf.1; have := hS0.hn; omega
  have htn : tn ≤ 120 := by have := hf.2.1; have := hS0.ht; omega
  by_cases hneg : at' < 0
  · clear hG hS0 hf
    go_enter Tryd.func7, Tryd.ntmps7
    go_wp2_with fail
    refine (awake10_any _ (HTW.out _ B0.out.bel)).mono ?_
    rintro e y1 ⟨rfl, b⟩
    have B1 := Lib.hid (B0.out.next b)
    clear b
    obtain ⟨q0, q1⟩ := B1.out.cells
    go_wp2_with fail
    refine (F1.out _).mono ?_
    rintro e y2 ⟨rfl, b⟩
    have B2 := Lib.hid (B1.out.next b)
    clear b q0 q1
    go_wp2_with fail
    refine (F2.out _ B2.out.bel).mono ?_
    rintro e y2' ⟨rfl, rfl⟩
    go_wp2_with fail
    refine (awake10_any _ (HTW.out _ B2.out.bel)).mono ?_
    rintro e y3 ⟨rfl, b⟩
    have B3 := Lib.hid (B2.out.next b)
    clear b
    go_wp2_with fail
    go_ret
    exact ⟨rfl, B3.out.bel⟩
  have hneg' : decide (at' < 0) = false := decide_eq_false hneg
  obtain ⟨cu, rfl⟩ : ∃ cu : Nat, at' = (cu : Int) := ⟨at'.toNat, by omega⟩
  clear hneg
  by_cases hbig : tn < cu
  · clear hG hS0 hf
    go_enter Tryd.func7, Tryd.ntmps7
    go_wp2_with fail
    refine (awake10_any _ (HTW.out _ B0.out.bel)).mono ?_
    rintro e y1 ⟨rfl, b⟩
    have B1 := Lib.hid (B0.out.next b)
    clear b
    obtain ⟨q0, q1⟩ := B1.out.cells
    go_wp2_with fail
    refine (F1.out _).mono ?_
    rintro e y2 ⟨rfl, b⟩
    have B2 := Lib.hid (B1.out.next b)
    clear b q0 q1
    go_wp2_with fail
    refine (F2.out _ B2.out.bel).mono ?_
    rintro e y2' ⟨rfl, rfl⟩
    go_wp2_with fail
    refine (awake10_any _ (HTW.out _ B2.out.bel)).mono ?_
    rintro e y3 ⟨rfl, b⟩
    have B3 := Lib.hid (B2.out.next b)
    clear b
    go_wp2_with fail
    go_ret
    exact ⟨rfl, B3.out.bel⟩
  have hbig' : decide ((tn : Int) < (cu : Int)) = false := decide_eq_false (by omega)
  have hbig2 : decide (tn < cu) = false := decide_eq_false hbig
  have hat : cu ≤ tn := by omega
  have hac : cu ≤ tc := by omega
  have HZC : Hid (IsS w0 N nn nc T cu tc need (t.take cu)) := Lib.hid ⟨hS0.hn, by rw [List.length_take, hS0.ht]; omega, hS0.ln, by omega, fun r hr => hS0.lr r (List.mem_of_mem_take hr), hS0.ints, hS0.rows.take cu, hS0.hN, fun e => by have := hS0.hT e; omega⟩
  obtain ⟨z, hz⟩ : ∃ z, z = schedE W E need cores t := ⟨_, rfl⟩
  have HZE := Lib.hid hz
  have HTN := Lib.hid hS0.hT
  clear hG hS0 hf hz hbig
  go_enter Tryd.func7, Tryd.ntmps7
  go_wp2_with fail
  refine (awake10_any _ (HTW.out _ B0.out.bel)).mono ?_
  rintro e y1 ⟨rfl, b⟩
  have B1 := Lib.hid (B0.out.next b)
  clear b
  obtain ⟨q0, q1⟩ := B1.out.cells
  go_wp2_with fail
  refine (F1.out _).mono ?_
  rintro e y2 ⟨rfl, b⟩
  have B2 := Lib.hid (B1.out.next b)
  clear b q0 q1
  go_wp2_with fail
  refine (F2.out _ B2.out.bel).mono ?_
  rintro e y2' ⟨rfl, rfl⟩
  obtain ⟨q0, q1⟩ := B2.out.cells
  go_wp2_with fail
  refine (own_g10 (HG.out _ B2.out.bel)).mono ?_
  rintro e y3 ⟨Ad1, cd1, Fd1, dd1, rfl, hg, b⟩
  have B3 := Lib.hid (B2.out.next b)
  have HGd := Lib.hid hg
  clear b hg q0 q1
  go_wp2_with fail
  refine (ints10_any _ HZ.out.hn (by have := HZ.out.ln; omega) (HS.out _ B3.out.bel).ints HZ.out.hN).mono ?_
  rintro e y4 ⟨An1, cn1, rfl, hI, hN, b⟩
  have B4 := Lib.hid (B3.out.next b)
  have HGI := Lib.hid (And.intro (HGd.out.below b) (And.intro hI hN))
  clear b hI hN HGd
  go_wp2_with fail
  refine (sown_any _ HZ.out.ht HZ.out.lt HZ.out.lr (HS.out _ B4.out.bel).rows).mono ?_
  rintro e y5 ⟨At1, ct1, rfl, hT, hN, b⟩
  have B5 := Lib.hid (B4.out.next b)
  have HA1 := Lib.hid (And.intro (HGI.out.1.below b) (mkS HZ.out ((HGI.out.2.1.below b).more b.size) HGI.out.2.2 hT hN))
  clear b hT hN HGI
  go_wp2_with fail
  refine (scheck_any cores _ HA1.out.1 HA1.out.2).mono ?_
  rintro e y6 ⟨rfl, b⟩
  have B6' := Lib.hid (B5.out.next b)
  rw [← HZE.out]
  clear b HA1 B0 B1 B2 B3 B4 B5
  by_cases hz : z = 0
  · subst hz
    obtain ⟨k0, hk0, hok⟩ := schedE_zero.mp HZE.out.symm
    have HOK := Lib.hid hok
    have hok2 : schedE W E need cores (t.take cu) = 0 := schedE_zero.mpr ⟨k0, hk0, hok.may, hok.form, hok.good.take cu⟩
    have HZE2 := Lib.hid hok2
    clear hok hok2 hk0
    go_wp2_with fail
    refine (sown_any _ HZC.out.ht HZC.out.lt HZC.out.lr ((HS.out _ B6'.out.bel).rows.take cu)).mono ?_
    rintro e y7 ⟨X, cx, rfl, hX, hXn, b⟩
    have B7 : Hid (CxB w0 w0.heap.size A n c F m d X (t.take cu) y7) := Lib.hid ⟨B6'.out.next b, hX⟩
    have HXN := Lib.hid hXn
    clear b hX hXn B6'
    go_wp2
    refine wp_region_facts' [54, 55, 56, 57, 58, 59, 60, 61, 62, 63, 64, 65, 66, 67, 68, 69, 12, 13] [] [] (by kernel_rfl) (by kernel_rfl) (by kernel_rfl) (by intro d hd; simp at hd ⊢; omega) (fun y => CxB w0 w0.heap.size A n c F m d X (t.take cu) y) (PhiCt w0 A n c F m d W E N nn nc need T tn tc t cores X cx cu)
      (fun x y h hb => h.next hb) (phiCt_below w0 A n c F m d W E N nn nc need T tn tc t cores X cx cu) (B7.out.next (Below.refl _ _).drew) (fun p hp v w hv => by cases hp) (fun kq hkq => by simp at hkq) ?hstep ?hend
    case hstep =>
      intro kq o ho hw a w hI hA hd K hK
      obtain ⟨ρ, hρ⟩ : ∃ ρ, a.eval = ρ := ⟨_, rfl⟩
      rw [hρ] at hA hd
      match kq, ho with
      | 0, ho =>
        have hoo := Option.some.inj ho
        subst hoo
        exact fx_val hK hρ _ (by have h := hA.tmp 5 (by decide); have h0 := hI.p0; have h1 := hI.p1; simp [execOp, h, h0, h1, go_sem]) rfl
      | 1, ho =>
        have hoo := Option.some.inj ho
        subst hoo
        have f0 : (ρ (.tmp 54)) = .agg #[.slice A n c, .slice F m d] := hd ⟨0, .data⟩ (by simp) (by rfl)
        exact fx_call hK hρ 15 _ _ #[.agg #[.slice A n c, .slice F m d]] rfl (by simp only [List.map_toArray, List.map_cons, List.map_nil, hA.const, f0]) (eg_of Tryd.func15 (by kernel_rfl) rfl) ((own_g10 (HG.out w hI.bel)).mono fun e w' ⟨A', c', F', d', he, hg, hb⟩ => ⟨_, he, ⟨A', c', F', d', rfl, hg⟩, hb⟩)
      | 2, ho =>
        have hoo := Option.some.inj ho
        subst hoo
        exact fx_val hK hρ (.slice N nn nc) (by have h := hA.tmp 1 (by decide); simp [execOp, h, go_sem]) rfl
      | 3, ho =>
        have hoo := Option.some.inj ho
        subst hoo
        have f2 : (ρ (.tmp 56)) = .slice N nn nc := hd ⟨2, .data⟩ (by simp) (by rfl)
        exact fx_call hK hρ 16 _ _ #[.slice N nn nc] rfl (by simp only [List.map_toArray, List.map_cons, List.map_nil, hA.const, f2]) (eg_of Tryd.func16 (by kernel_rfl) rfl) ((ints10_any w HZ.out.hn (by have := HZ.out.ln; omega) (HS.out w hI.bel).ints HZ.out.hN).mono fun e w' ⟨A', c', he, h1, h2, hb⟩ => ⟨_, he, ⟨A', c', rfl, h1, h2⟩, hb⟩)
      | 4, ho =>
        have hoo := Option.some.inj ho
        subst hoo
        exact fx_val hK hρ (.int .i64 cores) (by have h := hA.tmp 2 (by decide); simp [execOp, h, go_sem]) rfl
      | 5, ho =>
        have hoo := Option.some.inj ho
        subst hoo
        exact fx_val hK hρ (.slice T tn tc) (by have h := hA.tmp 3 (by decide); simp [execOp, h, go_sem]) rfl
      | 6, ho =>
        have hoo := Option.some.inj ho
        subst hoo
        have f5 : (ρ (.tmp 59)) = .slice T tn tc := hd ⟨5, .data⟩ (by simp) (by rfl)
        exact fx_call hK hρ 17 _ _ #[.slice T tn tc] rfl (by simp only [List.map_toArray, List.map_cons, List.map_nil, hA.const, f5]) (eg_of Tryd.func17 (by kernel_rfl) rfl) ((sown_any w HZ.out.ht HZ.out.lt HZ.out.lr (HS.out w hI.bel).rows).mono fun e w' ⟨A', c', he, h1, h2, hb⟩ => ⟨_, he, ⟨A', c', rfl, h1, h2⟩, hb⟩)
      | 7, ho =>
        have hoo := Option.some.inj ho
        subst hoo
        have f1 : GXd n m W E (ρ (.tmp 55)) w := hd ⟨1, .data⟩ (by simp) (by rfl)
        have f3 : GXn nn need (ρ (.tmp 57)) w := hd ⟨3, .data⟩ (by simp) (by rfl)
        have f4 : (ρ (.tmp 58)) = .int .i64 cores := hd ⟨4, .data⟩ (by simp) (by rfl)
        have f6 : GXt tn t (ρ (.tmp 60)) w := hd ⟨6, .data⟩ (by simp) (by rfl)
        obtain ⟨A1, c1, F1, d1, f1', hg1⟩ := f1
        obtain ⟨A2, c2, f3', hi2, hn2⟩ := f3
        obtain ⟨A3, c3, f6', ht3, hn3⟩ := f6
        exact fx_call hK hρ 18 _ _ #[.agg #[.slice A1 n c1, .slice F1 m d1], .slice A2 nn c2, .int .i64 cores, .slice A3 tn c3] rfl (by simp only [List.map_toArray, List.map_cons, List.map_nil, hA.const, f1', f3', f4, f6']) (eg_of Tryd.func18 (by kernel_rfl) rfl) ((ends_any cores w hg1 (mkS HZ.out hi2 hn2 ht3 hn3)).mono fun e w' ⟨A', c', he, h1, hb⟩ => ⟨_, he, ⟨A', c', rfl, h1⟩, hb⟩)
      | 8, ho =>
        have hoo := Option.some.inj ho
        subst hoo
        exact fx_val hK hρ _ (by have h := hA.tmp 5 (by decide); have h0 := hI.p0; have h1 := hI.p1; simp [execOp, h, h0, h1, go_sem]) rfl
      | 9, ho =>
        have hoo := Option.some.inj ho
        subst hoo
        have f8 : (ρ (.tmp 62)) = .agg #[.slice A n c, .slice F m d] := hd ⟨8, .data⟩ (by simp) (by rfl)
        exact fx_call hK hρ 15 _ _ #[.agg #[.slice A n c, .slice F m d]] rfl (by simp only [List.map_toArray, List.map_cons, List.map_nil, hA.const, f8]) (eg_of Tryd.func15 (by kernel_rfl) rfl) ((own_g10 (HG.out w hI.bel)).mono fun e w' ⟨A', c', F', d', he, hg, hb⟩ => ⟨_, he, ⟨A', c', F', d', rfl, hg⟩, hb⟩)
      | 10, ho =>
        have hoo := Option.some.inj ho
        subst hoo
        exact fx_val hK hρ (.slice N nn nc) (by have h := hA.tmp 1 (by decide); simp [execOp, h, go_sem]) rfl
      | 11, ho =>
        have hoo := Option.some.inj ho
        subst hoo
        have f10 : (ρ (.tmp 64)) = .slice N nn nc := hd ⟨10, .data⟩ (by simp) (by rfl)
        exact fx_call hK hρ 16 _ _ #[.slice N nn nc] rfl (by simp only [List.map_toArray, List.map_cons, List.map_nil, hA.const, f10]) (eg_of Tryd.func16 (by kernel_rfl) rfl) ((ints10_any w HZ.out.hn (by have := HZ.out.ln; omega) (HS.out w hI.bel).ints HZ.out.hN).mono fun e w' ⟨A', c', he, h1, h2, hb⟩ => ⟨_, he, ⟨A', c', rfl, h1, h2⟩, hb⟩)
      | 12, ho =>
        have hoo := Option.some.inj ho
        subst hoo
        exact fx_val hK hρ (.int .i64 cores) (by have h := hA.tmp 2 (by decide); simp [execOp, h, go_sem]) rfl
      | 13, ho =>
        have hoo := Option.some.inj ho
        subst hoo
        exact fx_val hK hρ (.slice X cu cx) (by have h := hA.tmp 11 (by decide); simp [execOp, h, go_sem]) rfl
      | 14, ho =>
        have hoo := Option.some.inj ho
        subst hoo
        have f13 : (ρ (.tmp 67)) = .slice X cu cx := hd ⟨13, .data⟩ (by simp) (by rfl)
        exact fx_call hK hρ 17 _ _ #[.slice X cu cx] rfl (by simp only [List.map_toArray, List.map_cons, List.map_nil, hA.const, f13]) (eg_of Tryd.func17 (by kernel_rfl) rfl) ((sown_any w HZC.out.ht HZC.out.lt HZC.out.lr hI.x).mono fun e w' ⟨A', c', he, h1, h2, hb⟩ => ⟨_, he, ⟨A', c', rfl, h1, h2⟩, hb⟩)
      | 15, ho =>
        have hoo := Option.some.inj ho
        subst hoo
        have f9 : GXd n m W E (ρ (.tmp 63)) w := hd ⟨9, .data⟩ (by simp) (by rfl)
        have f11 : GXn nn need (ρ (.tmp 65)) w := hd ⟨11, .data⟩ (by simp) (by rfl)
        have f12 : (ρ (.tmp 66)) = .int .i64 cores := hd ⟨12, .data⟩ (by simp) (by rfl)
        have f14 : GXt cu (t.take cu) (ρ (.tmp 68)) w := hd ⟨14, .data⟩ (by simp) (by rfl)
        obtain ⟨A1, c1, F1, d1, f9', hg1⟩ := f9
        obtain ⟨A2, c2, f11', hi2, hn2⟩ := f11
        obtain ⟨A3, c3, f14', ht3, hn3⟩ := f14
        exact fx_call hK hρ 18 _ _ #[.agg #[.slice A1 n c1, .slice F1 m d1], .slice A2 nn c2, .int .i64 cores, .slice A3 cu c3] rfl (by simp only [List.map_toArray, List.map_cons, List.map_nil, hA.const, f9', f11', f12, f14']) (eg_of Tryd.func18 (by kernel_rfl) rfl) ((ends_any cores w hg1 (mkS HZC.out hi2 hn2 ht3 hn3)).mono fun e w' ⟨A', c', he, h1, hb⟩ => ⟨_, he, ⟨A', c', rfl, h1⟩, hb⟩)
      | 16, ho =>
        have hoo := Option.some.inj ho
        subst hoo
        have f7 : GXi (endsV W E need cores t) (ρ (.tmp 61)) w := hd ⟨7, .data⟩ (by simp) (by rfl)
        obtain ⟨A5, c5, f7', hi5⟩ := f7
        exact fx_val hK hρ (.slice A5 (endsV W E need cores t).length c5) (by simp [execOp, f7', hA.const, go_sem]) ⟨A5, c5, rfl, hi5⟩
      | 17, ho =>
        have hoo := Option.some.inj ho
        subst hoo
        have f15 : GXi (endsV W E need cores (t.take cu)) (ρ (.tmp 69)) w := hd ⟨15, .data⟩ (by simp) (by rfl)
        obtain ⟨A5, c5, f15', hi5⟩ := f15
        exact fx_val hK hρ (.slice A5 (endsV W E need cores (t.take cu)).length c5) (by simp [execOp, f15', hA.const, go_sem]) ⟨A5, c5, rfl, hi5⟩
      | kq + 18, ho => simp at ho
    case hend =>
      intro vals xw hI hF
      obtain ⟨A5, c5, f12, hi5⟩ : GXi (endsV W E need cores t) (vals 12) xw := hF 16 (by decide)
      obtain ⟨A6, c6, f13, hi6⟩ : GXi (endsV W E need cores (t.take cu)) (vals 13) xw := hF 17 (by decide)
      have B8 := Lib.hid hI
      have HE1 := endsV_ok (W := W) (E := E) (need := need) (cores := cores) (t := t) HZE.out.symm
      have HE2 := endsV_ok (W := W) (E := E) (need := need) (cores := cores) (t := t.take cu) HZE2.out
      rw [HE1] at f12 hi5
      rw [HE2] at f13 hi6
      rw [List.length_map, List.length_range, HZ.out.hn] at f12 f13
      have HI5 := Lib.hid hi5
      have HI6 := Lib.hid hi6
      obtain ⟨w8, hw8⟩ : ∃ w8, w8 = xw := ⟨_, rfl⟩
      subst hw8
      clear hF hI hi5 hi6 B7 HE1 HE2
      simp only [fillA, fillL, List.contains_cons, List.contains_nil, Nat.reduceBEq, Bool.or_false, Bool.false_or, Bool.or_true, Bool.true_or, cond_true, cond_false, Nat.zero_add, Nat.reduceAdd]
      rw [f12, f13]
      clear f12 f13
      go_wp2
      go_loopw [14] (fun v wr => ∃ k : Nat, k ≤ nn ∧ v = .int .i64 k ∧ Hid (Below w8.heap.size w8 wr)) (fun v _ => nn - (intOf v).toNat)
      case atStart => exact ⟨0, Nat.zero_le _, rfl, Lib.hid (Below.refl _ _)⟩
      case round =>
        obtain ⟨k, hk, rfl, HBL⟩ := hrel
        by_cases hlt : k < nn
        · obtain ⟨b5, o5, z1, hA5, hb5, hz1, hc5⟩ := HI5.out.at_ (k := k) (by rw [List.length_map, List.length_range, HZ.out.hn]; exact hlt)
          obtain ⟨b6, o6, z2, hA6, hb6, hz2, hc6⟩ := HI6.out.at_ (k := k) (by rw [List.length_map, List.length_range, HZ.out.hn]; exact hlt)
          subst hA5 hA6
          rw [List.getElem?_map, List.getElem?_range (by rw [HZ.out.hn]; exact hlt)] at hz1 hz2
          have e1 : endV need t (k : Int) = z1 := by simpa using hz1
          have e2 : endV need (t.take cu) (k : Int) = z2 := by simpa using hz2
          have hd5 := (HBL.out.cell (p := ⟨b5, o5 + k, none⟩) hb5).trans hc5
          have hd6 := (HBL.out.cell (p := ⟨b6, o6 + k, none⟩) hb6).trans hc6
          have hb5' := Nat.lt_of_lt_of_le hb5 HBL.out.size
          have hb6' := Nat.lt_of_lt_of_le hb6 HBL.out.size
          have HT1 := Lib.hid (fun h => endV_take_some (need := need) (t := t) (x := (k : Int)) (a := cu) h)
          have HT2 := Lib.hid (fun h h2 => endV_take_none (need := need) (t := t) (x := (k : Int)) (a := cu) (by rw [HZ.out.ht]; exact hat) h h2)
          rw [e1, e2] at HT1 HT2
          clear hz1 hz2 hc5 hc6 e1 e2
          by_cases h2 : 0 ≤ z2
          · obtain rfl : z2 = z1 := HT1.out h2
            have hq : (z2 != z2) = false := by simp
            have hq2 : decide (z2 < 0) = false := decide_eq_false (by omega)
            go_wp2
            go_quiet (fail)
            go_wp2
            go_roundw
            case rel => exact ⟨k + 1, by omega, by go_num, Lib.hid (below_drewN HBL.out _)⟩
            case measure => simp [intOf]; omega
          · have h2f : decide (0 ≤ z2) = false := decide_eq_false h2
            have h2n : z2 < 0 := by omega
            by_cases h1 : 0 ≤ z1
            · have h3 : decide (z1 ≤ (cu : Int)) = false := decide_eq_false (by have := HT2.out h2n h1; omega)
              clear h2
              go_wp2
              go_quiet (fail)
              go_wp2
              go_roundw
              case rel => exact ⟨k + 1, by omega, by go_num, Lib.hid (below_drewN HBL.out _)⟩
              case measure => simp [intOf]; omega
            · have h1f : decide (0 ≤ z1) = false := decide_eq_false h1
              clear h2 h1
              go_wp2
              go_quiet (fail)
              go_wp2
              go_roundw
              case rel => exact ⟨k + 1, by omega, by go_num, Lib.hid (below_drewN HBL.out _)⟩
              case measure => simp [intOf]; omega
        · obtain rfl : k = nn := by omega
          have B9 := Lib.hid (B8.out.next HBL.out)
          obtain ⟨gb, hgb⟩ : ∃ g, g = greedyB W E need cores t := ⟨_, rfl⟩
          obtain ⟨gx, hgx⟩ : ∃ g, g = greedyB W E need cores (t.take cu) := ⟨_, rfl⟩
          have HGB := Lib.hid hgb
          have HGX := Lib.hid hgx
          have HGI2 : Hid (gb = true → gx = true) := Lib.hid (by
            rw [hgb, hgx, greedyB_iff, greedyB_iff]
            exact fun q => ⟨HZE2.out, q.2.take cu⟩)
          clear hgb hgx B8
          obtain ⟨q0, q1⟩ := B9.out.cells
          go_wp2_with fail
          refine (own_g10 (HG.out _ B9.out.bel)).mono ?_
          rintro e y10 ⟨Ad3, cd3, Fd3, dd3, rfl, hg, b⟩
          have B10 := Lib.hid (B9.out.next b)
          have HGd := Lib.hid hg
          clear b hg q0 q1
          go_wp2_with fail
          refine (ints10_any _ HZ.out.hn (by have := HZ.out.ln; omega) (HS.out _ B10.out.bel).ints HZ.out.hN).mono ?_
          rintro e y11 ⟨An3, cn3, rfl, hI, hN, b⟩
          have B11 := Lib.hid (B10.out.next b)
          have HGI := Lib.hid (And.intro (HGd.out.below b) (And.intro hI hN))
          clear b hI hN HGd
          go_wp2_with fail
          refine (sown_any _ HZC.out.ht HZC.out.lt HZC.out.lr B11.out.x).mono ?_
          rintro e y12 ⟨At3, ct3, rfl, hT, hN, b⟩
          have B12 := Lib.hid (B11.out.next b)
          have HA3 := Lib.hid (And.intro (HGI.out.1.below b) (mkS HZC.out ((HGI.out.2.1.below b).more b.size) HGI.out.2.2 hT hN))
          clear b hT hN HGI
          go_wp2_with fail
          refine (scheck_any cores _ HA3.out.1 HA3.out.2).mono ?_
          rintro e y13 ⟨rfl, b⟩
          have B13 := Lib.hid (B12.out.next b)
          rw [HZE2.out]
          clear b HA3 B9 B10 B11 B12
          obtain ⟨q0, q1⟩ := B13.out.cells
          go_wp2_with fail
          refine (own_g10 (HG.out _ B13.out.bel)).mono ?_
          rintro e y14 ⟨Ad4, cd4, Fd4, dd4, rfl, hg, b⟩
          have B14 := Lib.hid (B13.out.next b)
          have HGd := Lib.hid hg
          clear b hg q0 q1
          go_wp2_with fail
          refine (ints10_any _ HZ.out.hn (by have := HZ.out.ln; omega) (HS.out _ B14.out.bel).ints HZ.out.hN).mono ?_
          rintro e y15 ⟨An4, cn4, rfl, hI, hN, b⟩
          have B15 := Lib.hid (B14.out.next b)
          have HGI := Lib.hid (And.intro (HGd.out.below b) (And.intro hI hN))
          clear b hI hN HGd
          go_wp2_with fail
          refine (sown_any _ HZ.out.ht HZ.out.lt HZ.out.lr (HS.out _ B15.out.bel).rows).mono ?_
          rintro e y16 ⟨At4, ct4, rfl, hT, hN, b⟩
          have B16 := Lib.hid (B15.out.next b)
          have HA4 := Lib.hid (And.intro (HGI.out.1.below b) (mkS HZ.out ((HGI.out.2.1.below b).more b.size) HGI.out.2.2 hT hN))
          clear b hT hN HGI
          go_wp2_with fail
          refine (greedy_any cores _ HA4.out.1 HA4.out.2).mono ?_
          rintro e y17 ⟨rfl, b⟩
          have B17 := Lib.hid (B16.out.next b)
          rw [← HGB.out]
          clear b HA4 B13 B14 B15 B16
          cases gb with
          | true =>
            obtain rfl : gx = true := HGI2.out rfl
            obtain ⟨q0, q1⟩ := B17.out.cells
            go_wp2_with fail
            refine (own_g10 (HG.out _ B17.out.bel)).mono ?_
            rintro e y18 ⟨Ad5, cd5, Fd5, dd5, rfl, hg, b⟩
            have B18 := Lib.hid (B17.out.next b)
            have HGd := Lib.hid hg
            clear b hg q0 q1
            go_wp2_with fail
            refine (ints10_any _ HZ.out.hn (by have := HZ.out.ln; omega) (HS.out _ B18.out.bel).ints HZ.out.hN).mono ?_
            rintro e y19 ⟨An5, cn5, rfl, hI, hN, b⟩
            have B19 := Lib.hid (B18.out.next b)
            have HGI := Lib.hid (And.intro (HGd.out.below b) (And.intro hI hN))
            clear b hI hN HGd
            go_wp2_with fail
            refine (sown_any _ HZC.out.ht HZC.out.lt HZC.out.lr B19.out.x).mono ?_
            rintro e y20 ⟨At5, ct5, rfl, hT, hN, b⟩
            have B20 := Lib.hid (B19.out.next b)
            have HA5 := Lib.hid (And.intro (HGI.out.1.below b) (mkS HZC.out ((HGI.out.2.1.below b).more b.size) HGI.out.2.2 hT hN))
            clear b hT hN HGI
            go_wp2_with fail
            refine (greedy_any cores _ HA5.out.1 HA5.out.2).mono ?_
            rintro e y21 ⟨rfl, b⟩
            have B21 := Lib.hid (B20.out.next b)
            rw [← HGX.out]
            clear b HA5
            go_wp2
            go_ret
            exact ⟨rfl, B21.out.bel⟩
          | false =>
            go_wp2
            go_ret
            exact ⟨rfl, B17.out.bel⟩
  · have hne : (z != 0) = true := bne_iff_ne.mpr hz
    clear hz
    go_wp2_with fail
    refine (awake10_any _ (HTW.out _ B6'.out.bel)).mono ?_
    rintro e y7 ⟨rfl, b⟩
    have B7 := Lib.hid (B6'.out.next b)
    clear b
    go_wp2_with fail
    go_ret
    exact ⟨rfl, B7.out.bel⟩
theorem walk_SchedCuts (w0 : World) (hg : InG w0 A n c F m d W E) (hN : InN w0 N nn nc need) (cores : Int) (hc : -9223372036854775808 ≤ cores ∧ cores ≤ 9223372036854775807) (hT' : InT w0 T tn tc t) (at' : Int) (ha : -9223372036854775808 ≤ at' ∧ at' ≤ 9223372036854775807) (hT : Tab64 w0) : Calls Tryd.prog 7 #[.agg #[.slice A n c, .slice F m d], .slice N nn nc, .int .i64 cores, .slice T tn tc, .int .i64 at'] w0 fun e w' => e = .returned (.bool true) ∧ Below w0.heap.size w0 w' := by
  have hs := hN.with hT'
  by_cases h : (n ≤ 70 ∧ m ≤ 300) ∧ FewS need t
  · exact cuts_few w0 cores at' hT'.cT (hg.isG hT h.1.1 h.1.2) (hs.isS h.2) h.1.1 h.1.2 h.2
  · exact cuts_many w0 at' cores hT hg hs h
end
end Go.Proofs.YtpaambpajpmjdaaDoor
