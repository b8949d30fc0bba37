/- The walk of ListSteps in the seat YtmmogdccjiagnaaDoor (printed by list/mk_steps.py). No statement is proved here. -/
import Derived.Test.YtmmogdccjiagnaaDoorZListCrew2
import Derived.Test.YtmmogdccjiagnaaDoorZM28
import Derived.BigRegion
set_option linter.unusedSimpArgs false
set_option linter.unusedVariables false
set_option linter.unusedSimpArgs false
namespace Go.Proofs.YtmmogdccjiagnaaDoor
open Go Go.RowKit

def PhiSf (A : Option Addr) (n c : Nat) (F : Option Addr) (m d : Nat) (W : List Int) (E : List (Int × Int)) (A' : Option Addr) (n' c' : Nat) (F' : Option Addr) (m' d' : Nat) (O L O2 L2 D2 : List Int) (ee : Int) (hb0 : Nat) : Nat → Value → World → Prop
  | 0, v, w => v = .agg #[.slice A n c, .slice F m d]
  | 1, v, w => GDl n m W E v w
  | 2, v, w => v = .agg #[.slice A' n' c', .slice F' m' d']
  | 3, v, w => GCl n' m' O L v w
  | 4, v, w => GTu O2 L2 ee v w
  | 5, v, w => GTu O2 L2 ee v w
  | 6, v, w => GotCrew O2 L2 v w
  | 7, v, w => v = .int .i64 ee
  | 8, v, w => GNc hb0 v w
  | 9, v, w => True
  | 10, v, w => v = .int .i64 ee
  | _, _, _ => True
theorem phiSf_below (A : Option Addr) (n c : Nat) (F : Option Addr) (m d : Nat) (W : List Int) (E : List (Int × Int)) (A' : Option Addr) (n' c' : Nat) (F' : Option Addr) (m' d' : Nat) (O L O2 L2 D2 : List Int) (ee : Int) (hb0 : Nat) : ∀ kq v w w', PhiSf A n c F m d W E A' n' c' F' m' d' O L O2 L2 D2 ee hb0 kq v w → Below w.heap.size w w' → PhiSf A n c F m d W E A' n' c' F' m' d' O L O2 L2 D2 ee hb0 kq v w' := by
  intro kq v w w' h hb
  match kq, h with
  | 0, h => exact h
  | 1, h => exact GDl.below h hb
  | 2, h => exact h
  | 3, h => exact GCl.below h hb
  | 4, h => exact GTu.below h hb
  | 5, h => exact GTu.below h hb
  | 6, h => exact GotCrew.below h hb
  | 7, h => exact h
  | 8, h => exact GNc.below h hb
  | 9, h => exact h
  | 10, h => exact h
  | kq + 11, h => exact trivial
def PhiSt (A : Option Addr) (n c : Nat) (F : Option Addr) (m d : Nat) (W : List Int) (E : List (Int × Int)) (A' : Option Addr) (n' c' : Nat) (F' : Option Addr) (m' d' : Nat) (O L O2 L2 D2 : List Int) (ee : Int) (hb0 : Nat) : Nat → Value → World → Prop
  | 0, v, w => v = .agg #[.slice A n c, .slice F m d]
  | 1, v, w => GDl n m W E v w
  | 2, v, w => v = .agg #[.slice A' n' c', .slice F' m' d']
  | 3, v, w => GCl n' m' O L v w
  | 4, v, w => GTl O2 L2 D2 ee v w
  | 5, v, w => GTl O2 L2 D2 ee v w
  | 6, v, w => GotCrew O2 L2 v w
  | 7, v, w => GotL D2 v w
  | 8, v, w => v = .int .i64 ee
  | 9, v, w => GNc hb0 v w
  | 10, v, w => True
  | 11, v, w => GotL D2 v w
  | 12, v, w => v = .int .i64 ee
  | _, _, _ => True
theorem phiSt_below (A : Option Addr) (n c : Nat) (F : Option Addr) (m d : Nat) (W : List Int) (E : List (Int × Int)) (A' : Option Addr) (n' c' : Nat) (F' : Option Addr) (m' d' : Nat) (O L O2 L2 D2 : List Int) (ee : Int) (hb0 : Nat) : ∀ kq v w w', PhiSt A n c F m d W E A' n' c' F' m' d' O L O2 L2 D2 ee hb0 kq v w → Below w.heap.size w w' → PhiSt A n c F m d W E A' n' c' F' m' d' O L O2 L2 D2 ee hb0 kq v w' := by
  intro kq v w w' h hb
  match kq, h with
  | 0, h => exact h
  | 1, h => exact GDl.below h hb
  | 2, h => exact h
  | 3, h => exact GCl.below h hb
  | 4, h => exact GTl.below h hb
  | 5, h => exact GTl.below h hb
  | 6, h => exact GotCrew.below h hb
  | 7, h => exact GotL.below h hb
  | 8, h => exact h
  | 9, h => exact GNc.below h hb
  | 10, h => exact h
  | 11, h => exact GotL.below h hb
  | 12, h => exact h
  | kq + 13, h => exact trivial
def PhiSr (A : Option Addr) (n c : Nat) (F : Option Addr) (m d : Nat) (W : List Int) (E : List (Int × Int)) (A' : Option Addr) (n' c' : Nat) (F' : Option Addr) (m' d' : Nat) (O L Rr : List Int) : Nat → Value → World → Prop
  | 0, v, w => v = .agg #[.slice A n c, .slice F m d]
  | 1, v, w => GDl n m W E v w
  | 2, v, w => v = .agg #[.slice A' n' c', .slice F' m' d']
  | 3, v, w => GCl n' m' O L v w
  | 4, v, w => GotL Rr v w
  | 5, v, w => GotL Rr v w
  | _, _, _ => True
theorem phiSr_below (A : Option Addr) (n c : Nat) (F : Option Addr) (m d : Nat) (W : List Int) (E : List (Int × Int)) (A' : Option Addr) (n' c' : Nat) (F' : Option Addr) (m' d' : Nat) (O L Rr : List Int) : ∀ kq v w w', PhiSr A n c F m d W E A' n' c' F' m' d' O L Rr kq v w → Below w.heap.size w w' → PhiSr A n c F m d W E A' n' c' F' m' d' O L Rr kq v w' := by
  intro kq v w w' h hb
  match kq, h with
  | 0, h => exact h
  | 1, h => exact GDl.below h hb
  | 2, h => exact h
  | 3, h => exact GCl.below h hb
  | 4, h => exact GotL.below h hb
  | 5, h => exact GotL.below h hb
  | kq + 6, h => exact trivial
def PhiSs (A : Option Addr) (n c : Nat) (F : Option Addr) (m d : Nat) (W : List Int) (E : List (Int × Int)) (A' : Option Addr) (n' c' : Nat) (F' : Option Addr) (m' d' : Nat) (O L : List Int) (Ap : Option Addr) (np cp : Nat) (Fp : Option Addr) (mp dp : Nat) (Op Lp : List Int) (ee : Int) (bs : Bool) : Nat → Value → World → Prop
  | 0, v, w => v = .agg #[.slice A n c, .slice F m d]
  | 1, v, w => GDl n m W E v w
  | 2, v, w => v = .agg #[.slice A' n' c', .slice F' m' d']
  | 3, v, w => GCl n' m' O L v w
  | 4, v, w => v = .int .i64 ee
  | 5, v, w => v = .int .i64 ee
  | 6, v, w => v = .bool false
  | 7, v, w => v = .bool false
  | 8, v, w => v = .int .i64 ee
  | 9, v, w => v = .int .i64 ee
  | 10, v, w => v = .bool false
  | 11, v, w => v = .bool false
  | 12, v, w => v = .bool false
  | 13, v, w => v = .int .i64 ee
  | 14, v, w => v = .int .i64 ee
  | 15, v, w => v = .bool false
  | 16, v, w => v = .bool false
  | 17, v, w => v = .bool false
  | 18, v, w => v = .agg #[.slice A' n' c', .slice F' m' d']
  | 19, v, w => GCl n' m' O L v w
  | 20, v, w => v = .agg #[.slice Ap np cp, .slice Fp mp dp]
  | 21, v, w => GCl np mp Op Lp v w
  | 22, v, w => v = .bool bs
  | 23, v, w => v = .agg #[.slice A' n' c', .slice F' m' d']
  | 24, v, w => v = .agg #[.slice Ap np cp, .slice Fp mp dp]
  | 25, v, w => v = .bool bs
  | 26, v, w => v = .bool false
  | 27, v, w => v = .bool false
  | _, _, _ => True
theorem phiSs_below (A : Option Addr) (n c : Nat) (F : Option Addr) (m d : Nat) (W : List Int) (E : List (Int × Int)) (A' : Option Addr) (n' c' : Nat) (F' : Option Addr) (m' d' : Nat) (O L : List Int) (Ap : Option Addr) (np cp : Nat) (Fp : Option Addr) (mp dp : Nat) (Op Lp : List Int) (ee : Int) (bs : Bool) : ∀ kq v w w', PhiSs A n c F m d W E A' n' c' F' m' d' O L Ap np cp Fp mp dp Op Lp ee bs kq v w → Below w.heap.size w w' → PhiSs A n c F m d W E A' n' c' F' m' d' O L Ap np cp Fp mp dp Op Lp ee bs kq v w' := by
  intro kq v w w' h hb
  match kq, h with
  | 0, h => exact h
  | 1, h => exact GDl.below h hb
  | 2, h => exact h
  | 3, h => exact GCl.below h hb
  | 4, h => exact h
  | 5, h => exact h
  | 6, h => exact h
  | 7, h => exact h
  | 8, h => exact h
  | 9, h => exact h
  | 10, h => exact h
  | 11, h => exact h
  | 12, h => exact h
  | 13, h => exact h
  | 14, h => exact h
  | 15, h => exact h
  | 16, h => exact h
  | 17, h => exact h
  | 18, h => exact h
  | 19, h => exact GCl.below h hb
  | 20, h => exact h
  | 21, h => exact GCl.below h hb
  | 22, h => exact h
  | 23, h => exact h
  | 24, h => exact h
  | 25, h => exact h
  | 26, h => exact h
  | 27, h => exact h
  | kq + 28, h => exact trivial
def PhiSz (A : Option Addr) (n c : Nat) (F : Option Addr) (m d : Nat) (A' : Option Addr) (n' c' : Nat) (F' : Option Addr) (m' d' : Nat) (Ax : Option Addr) (nx cx : Nat) (Fx : Option Addr) (mx dx : Nat) (O2 L2 : List Int) (Ay : Option Addr) (ny cy : Nat) (Fy : Option Addr) (my dy : Nat) (Az : Option Addr) (nz cz : Nat) (Fz : Option Addr) (mz dz : Nat) (Al : Option Addr) (dn cl : Nat) (Aq : Option Addr) (cq : Nat) (Ar : Option Addr) (rn cr : Nat) (Rr : List Int) : Nat → Value → World → Prop
  | 0, v, w => v = .agg #[.slice Ax nx cx, .slice Fx mx dx]
  | 1, v, w => v = .agg #[.slice A n c, .slice F m d]
  | 2, v, w => v = .agg #[.slice A' n' c', .slice F' m' d']
  | 3, v, w => GCl n' m' O2 L2 v w
  | 4, v, w => v = .bool true
  | 5, v, w => v = .bool true
  | 6, v, w => v = .agg #[.slice Ay ny cy, .slice Fy my dy]
  | 7, v, w => v = .agg #[.slice Az nz cz, .slice Fz mz dz]
  | 8, v, w => v = .bool true
  | 9, v, w => v = .bool true
  | 10, v, w => v = .bool true
  | 11, v, w => v = .slice Al dn cl
  | 12, v, w => v = .slice Aq dn cq
  | 13, v, w => v = .bool true
  | 14, v, w => v = .bool true
  | 15, v, w => v = .bool true
  | 16, v, w => v = .slice Ar rn cr
  | 17, v, w => v = .agg #[.slice A n c, .slice F m d]
  | 18, v, w => v = .agg #[.slice A' n' c', .slice F' m' d']
  | 19, v, w => GRl rn Rr v w
  | 20, v, w => v = .bool true
  | 21, v, w => v = .bool true
  | 22, v, w => v = .bool true
  | _, _, _ => True
theorem phiSz_below (A : Option Addr) (n c : Nat) (F : Option Addr) (m d : Nat) (A' : Option Addr) (n' c' : Nat) (F' : Option Addr) (m' d' : Nat) (Ax : Option Addr) (nx cx : Nat) (Fx : Option Addr) (mx dx : Nat) (O2 L2 : List Int) (Ay : Option Addr) (ny cy : Nat) (Fy : Option Addr) (my dy : Nat) (Az : Option Addr) (nz cz : Nat) (Fz : Option Addr) (mz dz : Nat) (Al : Option Addr) (dn cl : Nat) (Aq : Option Addr) (cq : Nat) (Ar : Option Addr) (rn cr : Nat) (Rr : List Int) : ∀ kq v w w', PhiSz A n c F m d A' n' c' F' m' d' Ax nx cx Fx mx dx O2 L2 Ay ny cy Fy my dy Az nz cz Fz mz dz Al dn cl Aq cq Ar rn cr Rr kq v w → Below w.heap.size w w' → PhiSz A n c F m d A' n' c' F' m' d' Ax nx cx Fx mx dx O2 L2 Ay ny cy Fy my dy Az nz cz Fz mz dz Al dn cl Aq cq Ar rn cr Rr kq v w' := by
  intro kq v w w' h hb
  match kq, h with
  | 0, h => exact h
  | 1, h => exact h
  | 2, h => exact h
  | 3, h => exact GCl.below h hb
  | 4, h => exact h
  | 5, h => exact h
  | 6, h => exact h
  | 7, h => exact h
  | 8, h => exact h
  | 9, h => exact h
  | 10, h => exact h
  | 11, h => exact h
  | 12, h => exact h
  | 13, h => exact h
  | 14, h => exact h
  | 15, h => exact h
  | 16, h => exact h
  | 17, h => exact h
  | 18, h => exact h
  | 19, h => exact GRl.below h hb
  | 20, h => exact h
  | 21, h => exact h
  | 22, h => exact h
  | kq + 23, h => exact trivial
section
variable {A : Option Addr} {n c : Nat} {F : Option Addr} {m d : Nat} {W : List Int} {E : List (Int × Int)} {A' : Option Addr} {n' c' : Nat} {F' : Option Addr} {m' d' : Nat} {O L : List Int} {Ap : Option Addr} {np cp : Nat} {Fp : Option Addr} {mp dp : Nat} {Op Lp : List Int}
set_option maxRecDepth 100000 in
set_option maxHeartbeats 16000000 in
theorem steps_bad (K : ListOk) (w0 : World) (hG : IsG w0 A n c F m d W E) (hC : IsC w0 A' n' c' F' m' d' O L) (hP : IsC w0 Ap np cp Fp mp dp Op Lp) (hf : ((n ≤ 70 ∧ m ≤ 300) ∧ n' ≤ 12 ∧ m' ≤ 70) ∧ ((n ≤ 70 ∧ m ≤ 300) ∧ np ≤ 12 ∧ mp ≤ 70)) (h0 : ¬ crewE W E O L = 0) : Calls Tryd.prog 3 #[.agg #[.slice A n c, .slice F m d], .agg #[.slice A' n' c', .slice F' m' d'], .agg #[.slice Ap np cp, .slice Fp mp dp]] w0 fun e w' => e = .returned (.bool true) ∧ Below w0.heap.size w0 w' := by
  have HK := Lib.hid K
  have HTW := Lib.hid (fun W (h : Below w0.heap.size w0 W) => Tab64.via hG.tab h)
  obtain ⟨w1, hw1⟩ : ∃ w1, w1 = (((w0.alloc (.cells #[.slice A n c, .slice F m d] 25)).alloc (.cells #[.slice A' n' c', .slice F' m' d'] 27)).alloc (.cells #[.slice Ap np cp, .slice Fp mp dp] 27)) := ⟨_, rfl⟩
  have B0 : Hid (BxD3 w0 A n c F m d W E A' n' c' F' m' d' O L Ap np cp Fp mp dp Op Lp w1) := Lib.hid ⟨by rw [hw1]; exact BxK3.start, hG, hC, hP⟩
  have HW := Lib.hid hw1
  have F1 := Lib.hid (fun W => fewC_any (A := A) (n := n) (c := c) (F := F) (m := m) (d := d) (A' := A') (n' := n') (c' := c') (F' := F') (m' := m') (d' := d') W true ⟨fun _ => hf.1, fun _ => rfl⟩ (by omega) (by omega) (by omega) (by omega))
  have F2 := Lib.hid (fun W => fewC_any (A := A) (n := n) (c := c) (F := F) (m := m) (d := d) (A' := Ap) (n' := np) (c' := cp) (F' := Fp) (m' := mp) (d' := dp) W true ⟨fun _ => hf.2, fun _ => rfl⟩ (by omega) (by omega) (by omega) (by omega))
  obtain ⟨ee, hee⟩ : ∃ z, crewE W E O L = z := ⟨_, rfl⟩
  obtain ⟨O2, hO2⟩ : ∃ z, fillOc W E O L = z := ⟨_, rfl⟩
  obtain ⟨L2, hL2⟩ : ∃ z, fillLc W E O L = z := ⟨_, rfl⟩
  obtain ⟨Ot, hOt⟩ : ∃ z, tickO W E O L = z := ⟨_, rfl⟩
  obtain ⟨Lt, hLt⟩ : ∃ z, tickL W E O L = z := ⟨_, rfl⟩
  obtain ⟨Dt, hDt⟩ : ∃ z, tickD W E O L = z := ⟨_, rfl⟩
  obtain ⟨Rr, hRr⟩ : ∃ z, readyV W E O L = z := ⟨_, rfl⟩
  obtain ⟨bs, hbs⟩ : ∃ z, decide (O = Op ∧ L = Lp) = z := ⟨_, rfl⟩
  obtain ⟨dn, hdn⟩ : ∃ z, Dt.length = z := ⟨_, rfl⟩
  obtain ⟨rn, hrn⟩ : ∃ z, Rr.length = z := ⟨_, rfl⟩
  have HFE : Hid (crewE W E O L = ee ∧ fillOc W E O L = O2 ∧ fillLc W E O L = L2) := Lib.hid ⟨hee, hO2, hL2⟩
  have HTE : Hid (crewE W E O L = ee ∧ tickO W E O L = Ot ∧ tickL W E O L = Lt ∧ tickD W E O L = Dt) := Lib.hid ⟨hee, hOt, hLt, hDt⟩
  have HRV := Lib.hid hRr
  have HBS := Lib.hid hbs
  have HEE := Lib.hid hee
  have HDL := Lib.hid hdn
  have HRL := Lib.hid hrn
  have HZ : Hid (O2 = [] ∧ L2 = [] ∧ Ot = [] ∧ Lt = []) := Lib.hid ⟨by rw [← hO2]; unfold fillOc; rw [if_neg h0], by rw [← hL2]; unfold fillLc; rw [if_neg h0], by rw [← hOt]; unfold tickO; rw [if_neg h0], by rw [← hLt]; unfold tickL; rw [if_neg h0]⟩
  obtain rfl : dn = 0 := by rw [← hdn, ← hDt]; unfold tickD; rw [if_neg h0]; rfl
  obtain rfl : rn = 0 := by rw [← hrn, ← hRr]; unfold readyV; rw [if_neg h0]; rfl
  rw [hee] at h0
  have hnb : (ee != 0) = true := bne_iff_ne.mpr h0
  clear hee hO2 hL2 hOt hLt hDt hRr hbs hdn hrn hw1 h0 hG hC hP hf K
  go_enter Tryd.func3, Tryd.ntmps3
  go_wp2_with fail
  rw [← HW.out]
  clear HW
  refine (awakeC_any HK.out _ (HTW.out _ B0.out.b.bel)).mono ?_
  rintro e y1 ⟨rfl, b⟩
  have B1 := Lib.hid (B0.out.next b)
  clear b B0
  have q0 := B1.out.b.d0
  have q1 := B1.out.b.d1
  have q2 := B1.out.b.c0
  have q3 := B1.out.b.c1
  have q4 := B1.out.b.o0
  have q5 := B1.out.b.o1
  go_wp2_with fail
  refine (F1.out _).mono ?_
  rintro e y2 ⟨rfl, b⟩
  have B2 := Lib.hid (B1.out.next b)
  clear b q0 q1 q2 q3 q4 q5 B1 F1
  have q0 := B2.out.b.d0
  have q1 := B2.out.b.d1
  have q2 := B2.out.b.c0
  have q3 := B2.out.b.c1
  have q4 := B2.out.b.o0
  have q5 := B2.out.b.o1
  go_wp2_with fail
  refine (F2.out _).mono ?_
  rintro e y3 ⟨rfl, b⟩
  have B3 := Lib.hid (B2.out.next b)
  clear b q0 q1 q2 q3 q4 q5 B2 F2
  go_wp2_with fail
  refine wp_region_stored 9 [32, 33, 34, 35, 36, 31, 37, 38, 7, 1000, 8] [7, 10] (by kernel_rfl) (by kernel_rfl) (by intro d hd; simp at hd ⊢; omega) (fun x => BxD3 w0 A n c F m d W E A' n' c' F' m' d' O L Ap np cp Fp mp dp Op Lp x ∧ Below y3.heap.size y3 x) (PhiSf A n c F m d W E A' n' c' F' m' d' O L O2 L2 [] ee y3.heap.size) (ThX y3 7 O2 L2)
    (fun x y h hb => ⟨h.1.next hb, h.2.trans (hb.mono h.2.size)⟩) (phiSf_below A n c F m d W E A' n' c' F' m' d' O L O2 L2 [] ee y3.heap.size) (⟨B3.out.next (Below.refl _ _).drew, (Below.refl _ _).drew⟩) ?hstepp ?hpurep ?hstorep ?hthetap ?hendp
  case hstepp =>
    intro kq o hkp hkS ho a w hI hA hd K hK
    obtain ⟨ρ, hρ⟩ : ∃ ρ, a.eval = ρ := ⟨_, rfl⟩
    rw [hρ] at hA hd
    match kq, hkp, hkS, ho with
    | 0, _, _, ho =>
      have hoo := Option.some.inj ho
      subst hoo
      exact fx_val hK hρ _ (by have h := hA.tmp 3 (by decide); have h0 := hI.1.d0; have h1 := hI.1.d1; simp [execOp, h, h0, h1, go_sem]) rfl
    | 1, _, _, ho =>
      have hoo := Option.some.inj ho
      subst hoo
      have f0 : (ρ (.tmp 32)) = .agg #[.slice A n c, .slice F m d] := hd ⟨0, .data⟩ (by simp) (by rfl)
      exact fx_call hK hρ 12 _ _ #[.agg #[.slice A n c, .slice F m d]] rfl (by simp only [List.map_toArray, List.map_cons, List.map_nil, hA.const, f0]) (eg_of Tryd.func12 (by kernel_rfl) rfl) ((own_g10 (hI.1.g)).mono fun e w' ⟨A1, c1, F1, d1, he, hd, hb⟩ => ⟨_, he, ⟨A1, c1, F1, d1, rfl, hd⟩, hb⟩)
    | 2, _, _, ho =>
      have hoo := Option.some.inj ho
      subst hoo
      exact fx_val hK hρ _ (by have h := hA.tmp 4 (by decide); have h0 := hI.1.c0; have h1 := hI.1.c1; simp [execOp, h, h0, h1, go_sem]) rfl
    | 3, _, _, ho =>
      have hoo := Option.some.inj ho
      subst hoo
      have f2 : (ρ (.tmp 34)) = .agg #[.slice A' n' c', .slice F' m' d'] := hd ⟨2, .data⟩ (by simp) (by rfl)
      exact fx_call hK hρ 13 _ _ #[.agg #[.slice A' n' c', .slice F' m' d']] rfl (by simp only [List.map_toArray, List.map_cons, List.map_nil, hA.const, f2]) (eg_of Tryd.func13 (by kernel_rfl) rfl) ((ownC_any w (hI.1.k)).mono fun e w' ⟨⟨A1, c1, F1, d1, he, hM⟩, hb⟩ => ⟨_, he, ⟨A1, c1, F1, d1, rfl, hM⟩, hb⟩)
    | 4, _, _, ho =>
      have hoo := Option.some.inj ho
      subst hoo
      have f1 : GDl n m W E (ρ (.tmp 33)) w := hd ⟨1, .data⟩ (by simp) (by rfl)
      have f3 : GCl n' m' O L (ρ (.tmp 35)) w := hd ⟨3, .data⟩ (by simp) (by rfl)
      obtain ⟨A1, c1, F1, d1, f1', hD⟩ := f1
      obtain ⟨A2, c2, F2, d2, f3', hM⟩ := f3
      exact fx_call hK hρ 11 _ _ #[.agg #[.slice A1 n c1, .slice F1 m d1], .agg #[.slice A2 n' c2, .slice F2 m' d2]] rfl (by simp only [List.map_toArray, List.map_cons, List.map_nil, hA.const, f1', f3']) (eg_of Tryd.func11 (by kernel_rfl) rfl) ((HK.out.fill w hD hM).mono fun e w' hg => (by
        obtain ⟨v4, he, hg, hb⟩ := hg
        rw [HFE.out.1] at he
        rw [HFE.out.2.1, HFE.out.2.2] at hg
        obtain ⟨A4, n4, c4, F4, m4, d4, rfl, h4⟩ := hg
        exact ⟨_, he, ⟨A4, n4, c4, F4, m4, d4, rfl, h4⟩, hb⟩))
    | 5, _, _, ho =>
      have hoo := Option.some.inj ho
      subst hoo
      have f4 : GTu O2 L2 ee (ρ (.tmp 36)) w := hd ⟨4, .data⟩ (by simp) (by rfl)
      obtain ⟨A4, n4, c4, F4, m4, d4, f4', h4⟩ := f4
      exact fx_val hK hρ _ (by simp [execOp, f4', go_sem]) ⟨A4, n4, c4, F4, m4, d4, rfl, h4⟩
    | 6, _, _, ho =>
      have hoo := Option.some.inj ho
      subst hoo
      have f5 : GTu O2 L2 ee (ρ (.tmp 31)) w := hd ⟨5, .data⟩ (by simp) (by rfl)
      obtain ⟨A4, n4, c4, F4, m4, d4, f5', h4⟩ := f5
      exact fx_val hK hρ (.agg #[.slice A4 n4 c4, .slice F4 m4 d4]) (by simp [execOp, f5', go_sem]) ⟨A4, n4, c4, F4, m4, d4, rfl, h4⟩
    | 7, _, hkS, _ => exact absurd (by decide) hkS
    | 8, _, _, ho =>
      have hoo := Option.some.inj ho
      subst hoo
      exact fx_make hK hρ (.pointer (some ⟨w.heap.size, 0, none⟩)) (w.alloc (.cells #[.slice none 0 0, .slice none 0 0] 27)) (by simp [execOp, go_sem]) ⟨_, rfl, hI.2.size, heap_alloc_new w _⟩ (below_alloc _)
    | 9, hkp, _, _ => exact absurd rfl hkp
    | 10, _, hkS, _ => exact absurd (by decide) hkS
    | kq + 11, _, _, ho => simp at ho
  case hpurep =>
    intro kq o hkS ho ρ w hA hd
    simp only [List.mem_cons, List.not_mem_nil, or_false] at hkS
    rcases hkS with rfl | rfl
    · have hoo := Option.some.inj ho
      subst hoo
      obtain ⟨w', A4, n4, c4, F4, m4, d4, f5, _⟩ := hd ⟨5, .data⟩ (by simp) (by rfl) (by decide)
      have f5' : ρ (.tmp 31) = .tuple #[.agg #[.slice A4 n4 c4, .slice F4 m4 d4], .int .i64 ee] := f5
      exact ⟨.int .i64 ee, by simp [execOp, f5', go_sem], fun _ => rfl⟩
    · have hoo := Option.some.inj ho
      subst hoo
      obtain ⟨w', f7⟩ := hd ⟨7, .data⟩ (by simp) (by rfl) (by decide)
      have f7' : ρ (.tmp 38) = .int .i64 ee := f7
      exact ⟨.int .i64 ee, by simp [execOp, f7', go_sem], fun _ => rfl⟩
  case hstorep =>
    intro o ho a w hI hA hF K hK
    have hoo := Option.some.inj ho
    subst hoo
    exact stX (slot := 7) rfl rfl rfl (hF 8 (by decide) (by decide) (by decide)) (hF 6 (by decide) (by decide) (by decide)) hI.2 (fun w' h1 _ _ => hK w' h1)
  case hthetap =>
    intro f g w h hT
    exact ThX.slot hT (h 8 (by decide) (by decide) (by decide))
  case hendp =>
    intro vals1 y4 hT hF
    obtain ⟨gx, Ax, nx, cx, Fx, mx, dx, f7, hb3, _, hx3, hk3⟩ := hT
    have f8 : vals1 8 = .int .i64 ee := (hF 10 (by decide) (by decide)).choose_spec
    simp only [fillA, fillL, List.contains_cons, List.contains_nil, Nat.reduceBEq, Bool.or_false, Bool.false_or, Bool.or_true, Bool.true_or, cond_true, cond_false, Nat.zero_add, Nat.reduceAdd]
    rw [f7, f8]
    have B4 : Hid (BxD3 w0 A n c F m d W E A' n' c' F' m' d' O L Ap np cp Fp mp dp Op Lp y4 ∧ RowK gx Ax nx cx Fx mx dx O2 L2 y4) := Lib.hid ⟨B3.out.next hb3, hx3, hk3⟩
    clear hF hb3 hx3 hk3 f7 f8 B3
    go_wp2_with fail
    refine wp_region_stored4 10 [40, 41, 42, 43, 44, 39, 45, 46, 47, 9, 1000, 10, 11] [7, 8, 11, 12] [4, 5, 7, 8, 11, 12] y4.heap.size (by kernel_rfl) (by kernel_rfl) (by intro d hd; simp at hd ⊢; omega) (fun x => (BxD3 w0 A n c F m d W E A' n' c' F' m' d' O L Ap np cp Fp mp dp Op Lp x ∧ RowK gx Ax nx cx Fx mx dx O2 L2 x) ∧ Below y4.heap.size y4 x) (PhiSt A n c F m d W E A' n' c' F' m' d' O L Ot Lt Dt ee y4.heap.size) (ThX y4 9 Ot Lt)
      (fun x y h hb => ⟨⟨h.1.1.next hb, h.1.2.below hb⟩, h.2.trans (hb.mono h.2.size)⟩) (phiSt_below A n c F m d W E A' n' c' F' m' d' O L Ot Lt Dt ee y4.heap.size) (⟨⟨B4.out.1.next (Below.refl _ _).drew, B4.out.2.below (Below.refl _ _).drew⟩, (Below.refl _ _).drew⟩) ?hstepq ?hsideq ?hstoreq ?hthetaq ?hthetabq (Nat.le_refl _) ?hendq
    case hstepq =>
      intro kq o hkp hkS ho a w hI hA hd K hK
      obtain ⟨ρ, hρ⟩ : ∃ ρ, a.eval = ρ := ⟨_, rfl⟩
      rw [hρ] at hA hd
      match kq, hkp, hkS, ho with
      | 0, _, _, ho =>
        have hoo := Option.some.inj ho
        subst hoo
        exact fx_val hK hρ _ (by have h := hA.tmp 3 (by decide); have h0 := hI.1.1.d0; have h1 := hI.1.1.d1; simp [execOp, h, h0, h1, go_sem]) rfl
      | 1, _, _, ho =>
        have hoo := Option.some.inj ho
        subst hoo
        have f0 : (ρ (.tmp 40)) = .agg #[.slice A n c, .slice F m d] := hd ⟨0, .data⟩ (by simp) (by rfl)
        exact fx_call hK hρ 12 _ _ #[.agg #[.slice A n c, .slice F m d]] rfl (by simp only [List.map_toArray, List.map_cons, List.map_nil, hA.const, f0]) (eg_of Tryd.func12 (by kernel_rfl) rfl) ((own_g10 (hI.1.1.g)).mono fun e w' ⟨A1, c1, F1, d1, he, hd, hb⟩ => ⟨_, he, ⟨A1, c1, F1, d1, rfl, hd⟩, hb⟩)
      | 2, _, _, ho =>
        have hoo := Option.some.inj ho
        subst hoo
        exact fx_val hK hρ _ (by have h := hA.tmp 4 (by decide); have h0 := hI.1.1.c0; have h1 := hI.1.1.c1; simp [execOp, h, h0, h1, go_sem]) rfl
      | 3, _, _, ho =>
        have hoo := Option.some.inj ho
        subst hoo
        have f2 : (ρ (.tmp 42)) = .agg #[.slice A' n' c', .slice F' m' d'] := hd ⟨2, .data⟩ (by simp) (by rfl)
        exact fx_call hK hρ 13 _ _ #[.agg #[.slice A' n' c', .slice F' m' d']] rfl (by simp only [List.map_toArray, List.map_cons, List.map_nil, hA.const, f2]) (eg_of Tryd.func13 (by kernel_rfl) rfl) ((ownC_any w (hI.1.1.k)).mono fun e w' ⟨⟨A1, c1, F1, d1, he, hM⟩, hb⟩ => ⟨_, he, ⟨A1, c1, F1, d1, rfl, hM⟩, hb⟩)
      | 4, _, _, ho =>
        have hoo := Option.some.inj ho
        subst hoo
        have f1 : GDl n m W E (ρ (.tmp 41)) w := hd ⟨1, .data⟩ (by simp) (by rfl)
        have f3 : GCl n' m' O L (ρ (.tmp 43)) w := hd ⟨3, .data⟩ (by simp) (by rfl)
        obtain ⟨A1, c1, F1, d1, f1', hD⟩ := f1
        obtain ⟨A2, c2, F2, d2, f3', hM⟩ := f3
        exact fx_call hK hρ 14 _ _ #[.agg #[.slice A1 n c1, .slice F1 m d1], .agg #[.slice A2 n' c2, .slice F2 m' d2]] rfl (by simp only [List.map_toArray, List.map_cons, List.map_nil, hA.const, f1', f3']) (eg_of Tryd.func14 (by kernel_rfl) rfl) ((HK.out.tick w hD hM).mono fun e w' hg => (by
          obtain ⟨v4, u4, he, hg, hu, hb⟩ := hg
          rw [HTE.out.1] at he
          rw [HTE.out.2.1, HTE.out.2.2.1] at hg
          rw [HTE.out.2.2.2] at hu
          obtain ⟨A4, n4, c4, F4, m4, d4, rfl, h4⟩ := hg
          obtain ⟨A5, c5, rfl, h5⟩ := hu
          exact ⟨_, he, ⟨A4, n4, c4, F4, m4, d4, A5, c5, rfl, h4, h5⟩, hb⟩))
      | 5, _, _, ho =>
        have hoo := Option.some.inj ho
        subst hoo
        have f4 : GTl Ot Lt Dt ee (ρ (.tmp 44)) w := hd ⟨4, .data⟩ (by simp) (by rfl)
        obtain ⟨A4, n4, c4, F4, m4, d4, A5, c5, f4', h4, h5⟩ := f4
        exact fx_val hK hρ _ (by simp [execOp, f4', go_sem]) ⟨A4, n4, c4, F4, m4, d4, A5, c5, rfl, h4, h5⟩
      | 6, _, _, ho =>
        have hoo := Option.some.inj ho
        subst hoo
        have f5 : GTl Ot Lt Dt ee (ρ (.tmp 39)) w := hd ⟨5, .data⟩ (by simp) (by rfl)
        obtain ⟨A4, n4, c4, F4, m4, d4, A5, c5, f5', h4, h5⟩ := f5
        exact fx_val hK hρ (.agg #[.slice A4 n4 c4, .slice F4 m4 d4]) (by simp [execOp, f5', go_sem]) ⟨A4, n4, c4, F4, m4, d4, rfl, h4⟩
      | 7, _, hkS, _ => exact absurd (by decide) hkS
      | 8, _, hkS, _ => exact absurd (by decide) hkS
      | 9, _, _, ho =>
        have hoo := Option.some.inj ho
        subst hoo
        exact fx_make hK hρ (.pointer (some ⟨w.heap.size, 0, none⟩)) (w.alloc (.cells #[.slice none 0 0, .slice none 0 0] 27)) (by simp [execOp, go_sem]) ⟨_, rfl, hI.2.size, heap_alloc_new w _⟩ (below_alloc _)
      | 10, hkp, _, _ => exact absurd rfl hkp
      | 11, _, hkS, _ => exact absurd (by decide) hkS
      | 12, _, hkS, _ => exact absurd (by decide) hkS
      | kq + 13, _, _, ho => simp at ho
    case hsideq =>
      intro kq o hkS ho ρ w hbw hA hd
      simp only [List.mem_cons, List.not_mem_nil, or_false] at hkS
      rcases hkS with rfl | rfl | rfl | rfl
      · have hoo := Option.some.inj ho
        subst hoo
        obtain ⟨w1, f5a, hw1⟩ := hd ⟨5, .data⟩ (by simp) (by rfl) (by decide)
        rw [hw1 (by decide)] at f5a
        have f5 : GTl Ot Lt Dt ee (ρ (.tmp 39)) w := f5a
        obtain ⟨A4, n4, c4, F4, m4, d4, A5, c5, f5', h4, h5⟩ := f5
        exact ⟨.slice A5 Dt.length c5, w, by simp [execOp, f5', go_sem], ⟨A5, c5, rfl, h5⟩, Below.refl _ _⟩
      · have hoo := Option.some.inj ho
        subst hoo
        obtain ⟨w1, f5a, hw1⟩ := hd ⟨5, .data⟩ (by simp) (by rfl) (by decide)
        rw [hw1 (by decide)] at f5a
        have f5 : GTl Ot Lt Dt ee (ρ (.tmp 39)) w := f5a
        obtain ⟨A4, n4, c4, F4, m4, d4, A5, c5, f5', h4, h5⟩ := f5
        exact ⟨.int .i64 ee, w, by simp [execOp, f5', go_sem], rfl, Below.refl _ _⟩
      · have hoo := Option.some.inj ho
        subst hoo
        obtain ⟨w1, f7a, hw1⟩ := hd ⟨7, .data⟩ (by simp) (by rfl) (by decide)
        rw [hw1 (by decide)] at f7a
        have f7 : GotL Dt (ρ (.tmp 46)) w := f7a
        obtain ⟨A5, c5, f7', h5⟩ := f7
        exact ⟨.slice A5 Dt.length c5, w, by simp [execOp, f7', go_sem], ⟨A5, c5, rfl, h5⟩, Below.refl _ _⟩
      · have hoo := Option.some.inj ho
        subst hoo
        obtain ⟨w1, f8a, hw1⟩ := hd ⟨8, .data⟩ (by simp) (by rfl) (by decide)
        rw [hw1 (by decide)] at f8a
        have f8 : (ρ (.tmp 47)) = .int .i64 ee := f8a
        exact ⟨.int .i64 ee, w, by simp [execOp, f8, go_sem], rfl, Below.refl _ _⟩
    case hstoreq =>
      intro o ho a w hI hA hF K hK
      have hoo := Option.some.inj ho
      subst hoo
      exact stX (slot := 9) rfl rfl rfl (hF 9 (by decide) (by decide) (by decide)) (hF 6 (by decide) (by decide) (by decide)) hI.2 (fun w' h1 h2 h3 => hK w' h1 h2 (fun kq hkq v hv => by
        simp only [List.mem_cons, List.not_mem_nil, or_false] at hkq
        rcases hkq with rfl | rfl | rfl | rfl | rfl | rfl
        · exact h3.gtl hv
        · exact h3.gtl hv
        · exact h3.gl hv
        · exact hv
        · exact h3.gl hv
        · exact hv))
    case hthetaq =>
      intro f g w h hT
      exact ThX.slot hT (h 9 (by decide) (by decide) (by decide))
    case hthetabq =>
      intro f w w' hT hb
      exact ThX.below hT hb
    case hendq =>
      intro vals2 y5 hT hF
      obtain ⟨gy, Ay, ny, cy, Fy, my, dy, f9, hb4, _, hx4, hk4⟩ := hT
      obtain ⟨w9, f10, e9⟩ := hF 11 (by decide) (by decide)
      rw [e9 (by decide)] at f10
      obtain ⟨Al, cl, f10, hz⟩ : GotL Dt (vals2 10) y5 := f10
      have f11 : vals2 11 = .int .i64 ee := (hF 12 (by decide) (by decide)).choose_spec.1
      simp only [fillA, fillL, List.contains_cons, List.contains_nil, Nat.reduceBEq, Bool.or_false, Bool.false_or, Bool.or_true, Bool.true_or, cond_true, cond_false, Nat.zero_add, Nat.reduceAdd]
      rw [f9, f10, f11, HDL.out]
      have B5 : Hid (BxD3 w0 A n c F m d W E A' n' c' F' m' d' O L Ap np cp Fp mp dp Op Lp y5 ∧ (RowK gx Ax nx cx Fx mx dx O2 L2 y5 ∧ RowK gy Ay ny cy Fy my dy Ot Lt y5) ∧ Ints y5 y5.heap.size Al Dt) := Lib.hid ⟨B4.out.1.next hb4, ⟨B4.out.2.below hb4, hx4, hk4⟩, hz⟩
      clear hF hb4 hx4 hk4 f9 f10 f11 e9 hz B4
      go_wp2_with fail
      refine wp_region_facts' [48, 49, 50, 51, 52, 12] [] [] (by kernel_rfl) (by kernel_rfl) (by kernel_rfl) (by intro d hd; simp at hd ⊢; omega) (fun x => BxD3 w0 A n c F m d W E A' n' c' F' m' d' O L Ap np cp Fp mp dp Op Lp x ∧ (RowK gx Ax nx cx Fx mx dx O2 L2 x ∧ RowK gy Ay ny cy Fy my dy Ot Lt x) ∧ Ints x x.heap.size Al Dt) (PhiSr A n c F m d W E A' n' c' F' m' d' O L Rr)
        (fun x y h hb => ⟨h.1.next hb, ⟨h.2.1.1.below hb, h.2.1.2.below hb⟩, (h.2.2.below hb).more hb.size⟩) (phiSr_below A n c F m d W E A' n' c' F' m' d' O L Rr) (⟨B5.out.1.next (Below.refl _ _).drew, ⟨B5.out.2.1.1.below (Below.refl _ _).drew, B5.out.2.1.2.below (Below.refl _ _).drew⟩, (B5.out.2.2.below (Below.refl _ _).drew).more (Below.refl 0 _).drew.size⟩) (fun p hp v w hv => by cases hp) (fun kq hkq => by simp at hkq) ?hstepr ?hendr
      case hstepr =>
        intro kq o ho hw a w hI hA hd K hK
        obtain ⟨ρ, hρ⟩ : ∃ ρ, a.eval = ρ := ⟨_, rfl⟩
        rw [hρ] at hA hd
        match kq, ho with
        | 0, ho =>
          have hoo := Option.some.inj ho
          subst hoo
          exact fx_val hK hρ _ (by have h := hA.tmp 3 (by decide); have h0 := hI.1.d0; have h1 := hI.1.d1; simp [execOp, h, h0, h1, go_sem]) rfl
        | 1, ho =>
          have hoo := Option.some.inj ho
          subst hoo
          have f0 : (ρ (.tmp 48)) = .agg #[.slice A n c, .slice F m d] := hd ⟨0, .data⟩ (by simp) (by rfl)
          exact fx_call hK hρ 12 _ _ #[.agg #[.slice A n c, .slice F m d]] rfl (by simp only [List.map_toArray, List.map_cons, List.map_nil, hA.const, f0]) (eg_of Tryd.func12 (by kernel_rfl) rfl) ((own_g10 (hI.1.g)).mono fun e w' ⟨A1, c1, F1, d1, he, hd, hb⟩ => ⟨_, he, ⟨A1, c1, F1, d1, rfl, hd⟩, hb⟩)
        | 2, ho =>
          have hoo := Option.some.inj ho
          subst hoo
          exact fx_val hK hρ _ (by have h := hA.tmp 4 (by decide); have h0 := hI.1.c0; have h1 := hI.1.c1; simp [execOp, h, h0, h1, go_sem]) rfl
        | 3, ho =>
          have hoo := Option.some.inj ho
          subst hoo
          have f2 : (ρ (.tmp 50)) = .agg #[.slice A' n' c', .slice F' m' d'] := hd ⟨2, .data⟩ (by simp) (by rfl)
          exact fx_call hK hρ 13 _ _ #[.agg #[.slice A' n' c', .slice F' m' d']] rfl (by simp only [List.map_toArray, List.map_cons, List.map_nil, hA.const, f2]) (eg_of Tryd.func13 (by kernel_rfl) rfl) ((ownC_any w (hI.1.k)).mono fun e w' ⟨⟨A1, c1, F1, d1, he, hM⟩, hb⟩ => ⟨_, he, ⟨A1, c1, F1, d1, rfl, hM⟩, hb⟩)
        | 4, ho =>
          have hoo := Option.some.inj ho
          subst hoo
          have f1 : GDl n m W E (ρ (.tmp 49)) w := hd ⟨1, .data⟩ (by simp) (by rfl)
          have f3 : GCl n' m' O L (ρ (.tmp 51)) w := hd ⟨3, .data⟩ (by simp) (by rfl)
          obtain ⟨A1, c1, F1, d1, f1', hD⟩ := f1
          obtain ⟨A2, c2, F2, d2, f3', hM⟩ := f3
          exact fx_call hK hρ 15 _ _ #[.agg #[.slice A1 n c1, .slice F1 m d1], .agg #[.slice A2 n' c2, .slice F2 m' d2]] rfl (by simp only [List.map_toArray, List.map_cons, List.map_nil, hA.const, f1', f3']) (eg_of Tryd.func15 (by kernel_rfl) rfl) ((HK.out.ready w hD hM).mono fun e w' ⟨v, he, hg, hb⟩ => ⟨v, he, (by rw [HRV.out] at hg; exact hg), hb⟩)
        | 5, ho =>
          have hoo := Option.some.inj ho
          subst hoo
          have f4 : GotL Rr (ρ (.tmp 52)) w := hd ⟨4, .data⟩ (by simp) (by rfl)
          obtain ⟨A5, c5, f4', h5⟩ := f4
          exact fx_val hK hρ _ (by simp [execOp, f4', go_sem]) ⟨A5, c5, rfl, h5⟩
        | kq + 6, ho => simp at ho
      case hendr =>
        intro vals3 y6 hI hF
        obtain ⟨Ar, cr, f12, hz⟩ : GotL Rr (vals3 12) y6 := hF 5 (by decide)
        simp only [fillA, fillL, List.contains_cons, List.contains_nil, Nat.reduceBEq, Bool.or_false, Bool.false_or, Bool.or_true, Bool.true_or, cond_true, cond_false, Nat.zero_add, Nat.reduceAdd]
        rw [f12, HRL.out]
        have B6 : Hid ((BxD3 w0 A n c F m d W E A' n' c' F' m' d' O L Ap np cp Fp mp dp Op Lp y6 ∧ (RowK gx Ax nx cx Fx mx dx O2 L2 y6 ∧ RowK gy Ay ny cy Fy my dy Ot Lt y6) ∧ Ints y6 y6.heap.size Al Dt ∧ Ints y6 y6.heap.size Ar Rr)) := Lib.hid ⟨hI.1, hI.2.1, hI.2.2, hz⟩
        have CK := Lib.hid (rcheckC_any y6 B6.out.1.g B6.out.1.k)
        rw [HEE.out] at CK
        have q0 := B6.out.1.b.d0
        have q1 := B6.out.1.b.d1
        have q2 := B6.out.1.b.c0
        have q3 := B6.out.1.b.c1
        have q4 := B6.out.1.b.o0
        have q5 := B6.out.1.b.o1
        clear hF hI f12 hz B5
        go_wp2_with fail
        refine CK.out.mono ?_
        rintro e y7 ⟨rfl, b⟩
        have B7 : Hid ((BxD3 w0 A n c F m d W E A' n' c' F' m' d' O L Ap np cp Fp mp dp Op Lp y7 ∧ (RowK gx Ax nx cx Fx mx dx O2 L2 y7 ∧ RowK gy Ay ny cy Fy my dy Ot Lt y7) ∧ Ints y7 y7.heap.size Al Dt ∧ Ints y7 y7.heap.size Ar Rr)) := Lib.hid ⟨B6.out.1.next b, ⟨B6.out.2.1.1.below b, B6.out.2.1.2.below b⟩, (B6.out.2.2.1.below b).more b.size, (B6.out.2.2.2.below b).more b.size⟩
        clear b q0 q1 q2 q3 q4 q5 B6 CK
        go_wp2_with fail
        refine wp_region_facts' [56, 57, 58, 59, 60, 61, 62, 63, 64, 65, 66, 67, 68, 69, 70, 71, 72, 73, 74, 75, 76, 77, 78, 79, 80, 81, 82, 83] [] [(7, false), (12, false), (17, false)] (by kernel_rfl) (by kernel_rfl) (by kernel_rfl) (by intro d hd; simp at hd ⊢; omega) (fun x => BxD3 w0 A n c F m d W E A' n' c' F' m' d' O L Ap np cp Fp mp dp Op Lp x ∧ (RowK gx Ax nx cx Fx mx dx O2 L2 x ∧ RowK gy Ay ny cy Fy my dy Ot Lt x) ∧ Ints x x.heap.size Al Dt ∧ Ints x x.heap.size Ar Rr) (PhiSs A n c F m d W E A' n' c' F' m' d' O L Ap np cp Fp mp dp Op Lp ee bs)
          (fun x y h hb => ⟨h.1.next hb, ⟨h.2.1.1.below hb, h.2.1.2.below hb⟩, (h.2.2.1.below hb).more hb.size, (h.2.2.2.below hb).more hb.size⟩) (phiSs_below A n c F m d W E A' n' c' F' m' d' O L Ap np cp Fp mp dp Op Lp ee bs) (⟨B7.out.1.next (Below.refl _ _).drew, ⟨B7.out.2.1.1.below (Below.refl _ _).drew, B7.out.2.1.2.below (Below.refl _ _).drew⟩, (B7.out.2.2.1.below (Below.refl _ _).drew).more (Below.refl 0 _).drew.size, (B7.out.2.2.2.below (Below.refl _ _).drew).more (Below.refl 0 _).drew.size⟩) (fun p hp v w hv => by
            simp only [List.mem_cons, List.not_mem_nil, or_false] at hp
            rcases hp with rfl | rfl | rfl <;> exact hv) (fun kq hkq => by simp at hkq) ?hsteps ?hends
        case hsteps =>
          intro kq o ho hw a w hI hA hd K hK
          obtain ⟨ρ, hρ⟩ : ∃ ρ, a.eval = ρ := ⟨_, rfl⟩
          rw [hρ] at hA hd
          match kq, ho with
          | 0, ho =>
            have hoo := Option.some.inj ho
            subst hoo
            exact fx_val hK hρ _ (by have h := hA.tmp 3 (by decide); have h0 := hI.1.d0; have h1 := hI.1.d1; simp [execOp, h, h0, h1, go_sem]) rfl
          | 1, ho =>
            have hoo := Option.some.inj ho
            subst hoo
            have f0 : (ρ (.tmp 56)) = .agg #[.slice A n c, .slice F m d] := hd ⟨0, .data⟩ (by simp) (by rfl)
            exact fx_call hK hρ 12 _ _ #[.agg #[.slice A n c, .slice F m d]] rfl (by simp only [List.map_toArray, List.map_cons, List.map_nil, hA.const, f0]) (eg_of Tryd.func12 (by kernel_rfl) rfl) ((own_g10 (hI.1.g)).mono fun e w' ⟨A1, c1, F1, d1, he, hd, hb⟩ => ⟨_, he, ⟨A1, c1, F1, d1, rfl, hd⟩, hb⟩)
          | 2, ho =>
            have hoo := Option.some.inj ho
            subst hoo
            exact fx_val hK hρ _ (by have h := hA.tmp 4 (by decide); have h0 := hI.1.c0; have h1 := hI.1.c1; simp [execOp, h, h0, h1, go_sem]) rfl
          | 3, ho =>
            have hoo := Option.some.inj ho
            subst hoo
            have f2 : (ρ (.tmp 58)) = .agg #[.slice A' n' c', .slice F' m' d'] := hd ⟨2, .data⟩ (by simp) (by rfl)
            exact fx_call hK hρ 13 _ _ #[.agg #[.slice A' n' c', .slice F' m' d']] rfl (by simp only [List.map_toArray, List.map_cons, List.map_nil, hA.const, f2]) (eg_of Tryd.func13 (by kernel_rfl) rfl) ((ownC_any w (hI.1.k)).mono fun e w' ⟨⟨A1, c1, F1, d1, he, hM⟩, hb⟩ => ⟨_, he, ⟨A1, c1, F1, d1, rfl, hM⟩, hb⟩)
          | 4, ho =>
            have hoo := Option.some.inj ho
            subst hoo
            have f1 : GDl n m W E (ρ (.tmp 57)) w := hd ⟨1, .data⟩ (by simp) (by rfl)
            have f3 : GCl n' m' O L (ρ (.tmp 59)) w := hd ⟨3, .data⟩ (by simp) (by rfl)
            obtain ⟨A1, c1, F1, d1, f1', hD⟩ := f1
            obtain ⟨A2, c2, F2, d2, f3', hM⟩ := f3
            exact fx_call hK hρ 17 _ _ #[.agg #[.slice A1 n c1, .slice F1 m d1], .agg #[.slice A2 n' c2, .slice F2 m' d2]] rfl (by simp only [List.map_toArray, List.map_cons, List.map_nil, hA.const, f1', f3']) (eg_of Tryd.func17 (by kernel_rfl) rfl) ((HK.out.check w hD hM).mono fun e w' ⟨he, hb⟩ => ⟨_, he, (by show Value.int .i64 _ = .int .i64 ee; rw [HEE.out]), hb⟩)
          | 5, ho =>
            have hoo := Option.some.inj ho
            subst hoo
            exact fx_val hK hρ (.int .i64 ee) (by have h := hA.tmp 13 (by decide); simp [execOp, h, go_sem]) rfl
          | 6, ho =>
            have hoo := Option.some.inj ho
            subst hoo
            have f4 : (ρ (.tmp 60)) = .int .i64 ee := hd ⟨4, .data⟩ (by simp) (by rfl)
            have f5 : (ρ (.tmp 61)) = .int .i64 ee := hd ⟨5, .data⟩ (by simp) (by rfl)
            exact fx_val hK hρ (.bool false) (by simp [execOp, f4, f5, go_sem]) rfl
          | 7, ho =>
            have hoo := Option.some.inj ho
            subst hoo
            have f6 : (ρ (.tmp 62)) = .bool false := hd ⟨6, .data⟩ (by simp) (by rfl)
            exact fx_val hK hρ (.bool false) (by simp [execOp, f6, hA.const, go_sem]) rfl
          | 8, ho =>
            have hoo := Option.some.inj ho
            subst hoo
            exact fx_val hK hρ (.int .i64 ee) (by have h := hA.tmp 8 (by decide); simp [execOp, h, go_sem]) rfl
          | 9, ho =>
            have hoo := Option.some.inj ho
            subst hoo
            exact fx_val hK hρ (.int .i64 ee) (by have h := hA.tmp 13 (by decide); simp [execOp, h, go_sem]) rfl
          | 10, ho =>
            have hoo := Option.some.inj ho
            subst hoo
            have f8 : (ρ (.tmp 64)) = .int .i64 ee := hd ⟨8, .data⟩ (by simp) (by rfl)
            have f9 : (ρ (.tmp 65)) = .int .i64 ee := hd ⟨9, .data⟩ (by simp) (by rfl)
            exact fx_val hK hρ (.bool false) (by simp [execOp, f8, f9, go_sem]) rfl
          | 11, ho =>
            have hoo := Option.some.inj ho
            subst hoo
            have f7 : (ρ (.tmp 63)) = .bool false := hd ⟨7, .data⟩ (by simp) (by rfl)
            have f10 : (ρ (.tmp 66)) = .bool false := hd ⟨10, .data⟩ (by simp) (by rfl)
            exact fx_val hK hρ (.bool false) (by simp [execOp, f7, f10, hA.const, hA.const, go_sem]) rfl
          | 12, ho =>
            have hoo := Option.some.inj ho
            subst hoo
            have f11 : (ρ (.tmp 67)) = .bool false := hd ⟨11, .data⟩ (by simp) (by rfl)
            exact fx_val hK hρ (.bool false) (by simp [execOp, f11, hA.const, go_sem]) rfl
          | 13, ho =>
            have hoo := Option.some.inj ho
            subst hoo
            exact fx_val hK hρ (.int .i64 ee) (by have h := hA.tmp 11 (by decide); simp [execOp, h, go_sem]) rfl
          | 14, ho =>
            have hoo := Option.some.inj ho
            subst hoo
            exact fx_val hK hρ (.int .i64 ee) (by have h := hA.tmp 13 (by decide); simp [execOp, h, go_sem]) rfl
          | 15, ho =>
            have hoo := Option.some.inj ho
            subst hoo
            have f13 : (ρ (.tmp 69)) = .int .i64 ee := hd ⟨13, .data⟩ (by simp) (by rfl)
            have f14 : (ρ (.tmp 70)) = .int .i64 ee := hd ⟨14, .data⟩ (by simp) (by rfl)
            exact fx_val hK hρ (.bool false) (by simp [execOp, f13, f14, go_sem]) rfl
          | 16, ho =>
            have hoo := Option.some.inj ho
            subst hoo
            have f12 : (ρ (.tmp 68)) = .bool false := hd ⟨12, .data⟩ (by simp) (by rfl)
            have f15 : (ρ (.tmp 71)) = .bool false := hd ⟨15, .data⟩ (by simp) (by rfl)
            exact fx_val hK hρ (.bool false) (by simp [execOp, f12, f15, hA.const, hA.const, go_sem]) rfl
          | 17, ho =>
            have hoo := Option.some.inj ho
            subst hoo
            have f16 : (ρ (.tmp 72)) = .bool false := hd ⟨16, .data⟩ (by simp) (by rfl)
            exact fx_val hK hρ (.bool false) (by simp [execOp, f16, hA.const, go_sem]) rfl
          | 18, ho =>
            have hoo := Option.some.inj ho
            subst hoo
            exact fx_val hK hρ _ (by have h := hA.tmp 4 (by decide); have h0 := hI.1.c0; have h1 := hI.1.c1; simp [execOp, h, h0, h1, go_sem]) rfl
          | 19, ho =>
            have hoo := Option.some.inj ho
            subst hoo
            have f18 : (ρ (.tmp 74)) = .agg #[.slice A' n' c', .slice F' m' d'] := hd ⟨18, .data⟩ (by simp) (by rfl)
            exact fx_call hK hρ 13 _ _ #[.agg #[.slice A' n' c', .slice F' m' d']] rfl (by simp only [List.map_toArray, List.map_cons, List.map_nil, hA.const, f18]) (eg_of Tryd.func13 (by kernel_rfl) rfl) ((ownC_any w (hI.1.k)).mono fun e w' ⟨⟨A1, c1, F1, d1, he, hM⟩, hb⟩ => ⟨_, he, ⟨A1, c1, F1, d1, rfl, hM⟩, hb⟩)
          | 20, ho =>
            have hoo := Option.some.inj ho
            subst hoo
            exact fx_val hK hρ _ (by have h := hA.tmp 5 (by decide); have h0 := hI.1.o0; have h1 := hI.1.o1; simp [execOp, h, h0, h1, go_sem]) rfl
          | 21, ho =>
            have hoo := Option.some.inj ho
            subst hoo
            have f20 : (ρ (.tmp 76)) = .agg #[.slice Ap np cp, .slice Fp mp dp] := hd ⟨20, .data⟩ (by simp) (by rfl)
            exact fx_call hK hρ 13 _ _ #[.agg #[.slice Ap np cp, .slice Fp mp dp]] rfl (by simp only [List.map_toArray, List.map_cons, List.map_nil, hA.const, f20]) (eg_of Tryd.func13 (by kernel_rfl) rfl) ((ownC_any w (hI.1.p)).mono fun e w' ⟨⟨A1, c1, F1, d1, he, hM⟩, hb⟩ => ⟨_, he, ⟨A1, c1, F1, d1, rfl, hM⟩, hb⟩)
          | 22, ho =>
            have hoo := Option.some.inj ho
            subst hoo
            have f19 : GCl n' m' O L (ρ (.tmp 75)) w := hd ⟨19, .data⟩ (by simp) (by rfl)
            have f21 : GCl np mp Op Lp (ρ (.tmp 77)) w := hd ⟨21, .data⟩ (by simp) (by rfl)
            obtain ⟨A1, c1, F1, d1, f19', hD⟩ := f19
            obtain ⟨A2, c2, F2, d2, f21', hM⟩ := f21
            exact fx_call hK hρ 18 _ _ #[.agg #[.slice A1 n' c1, .slice F1 m' d1], .agg #[.slice A2 np c2, .slice F2 mp d2]] rfl (by simp only [List.map_toArray, List.map_cons, List.map_nil, hA.const, f19', f21']) (eg_of Tryd.func18 (by kernel_rfl) rfl) ((HK.out.same w hD hM).mono fun e w' ⟨he, hb⟩ => ⟨_, he, (by show Value.bool _ = .bool bs; rw [HBS.out]), hb⟩)
          | 23, ho =>
            have hoo := Option.some.inj ho
            subst hoo
            exact fx_val hK hρ _ (by have h := hA.tmp 4 (by decide); have h0 := hI.1.c0; have h1 := hI.1.c1; simp [execOp, h, h0, h1, go_sem]) rfl
          | 24, ho =>
            have hoo := Option.some.inj ho
            subst hoo
            exact fx_val hK hρ _ (by have h := hA.tmp 5 (by decide); have h0 := hI.1.o0; have h1 := hI.1.o1; simp [execOp, h, h0, h1, go_sem]) rfl
          | 25, ho =>
            have hoo := Option.some.inj ho
            subst hoo
            have f23 : (ρ (.tmp 79)) = .agg #[.slice A' n' c', .slice F' m' d'] := hd ⟨23, .data⟩ (by simp) (by rfl)
            have f24 : (ρ (.tmp 80)) = .agg #[.slice Ap np cp, .slice Fp mp dp] := hd ⟨24, .data⟩ (by simp) (by rfl)
            exact fx_call hK hρ 19 _ _ #[.agg #[.slice A' n' c', .slice F' m' d'], .agg #[.slice Ap np cp, .slice Fp mp dp]] rfl (by simp only [List.map_toArray, List.map_cons, List.map_nil, hA.const, f23, f24]) (eg_of Tryd.func19 (by kernel_rfl) rfl) ((rsameC_any w (hI.1.k) (hI.1.p)).mono fun e w' ⟨he, hb⟩ => ⟨_, he, (by show Value.bool _ = .bool bs; rw [HBS.out]), hb⟩)
          | 26, ho =>
            have hoo := Option.some.inj ho
            subst hoo
            have f22 : (ρ (.tmp 78)) = .bool bs := hd ⟨22, .data⟩ (by simp) (by rfl)
            have f25 : (ρ (.tmp 81)) = .bool bs := hd ⟨25, .data⟩ (by simp) (by rfl)
            exact fx_val hK hρ (.bool false) (by simp [execOp, f22, f25, go_sem]) rfl
          | 27, ho =>
            have hoo := Option.some.inj ho
            subst hoo
            have f17 : (ρ (.tmp 73)) = .bool false := hd ⟨17, .data⟩ (by simp) (by rfl)
            have f26 : (ρ (.tmp 82)) = .bool false := hd ⟨26, .data⟩ (by simp) (by rfl)
            exact fx_val hK hρ (.bool false) (by simp [execOp, f17, f26, hA.const, hA.const, go_sem]) rfl
          | kq + 28, ho => simp at ho
        case hends =>
          intro vals4 y8 hI hF
          have fz : vals4 83 = .bool false := hF 27 (by decide)
          simp only [fillA, fillL, List.contains_cons, List.contains_nil, Nat.reduceBEq, Bool.or_false, Bool.false_or, Bool.or_true, Bool.true_or, cond_true, cond_false, Nat.zero_add, Nat.reduceAdd]
          rw [fz]
          have B8 : Hid ((BxD3 w0 A n c F m d W E A' n' c' F' m' d' O L Ap np cp Fp mp dp Op Lp y8 ∧ (RowK gx Ax nx cx Fx mx dx O2 L2 y8 ∧ RowK gy Ay ny cy Fy my dy Ot Lt y8) ∧ Ints y8 y8.heap.size Al Dt ∧ Ints y8 y8.heap.size Ar Rr)) := Lib.hid hI
          clear hF hI fz B7
          have x0 := B8.out.2.1.1.x0
          have x1 := B8.out.2.1.1.x1
          go_wp2_with fail
          refine (rsameC_any y8 B8.out.2.1.1.k (noC y8)).mono ?_
          rintro e y9 ⟨rfl, b⟩
          have hd : decide (O2 = [] ∧ L2 = []) = true := decide_eq_true ⟨HZ.out.1, HZ.out.2.1⟩
          rw [hd]
          have B9 := Lib.hid (And.intro (B8.out.1.next b) (B8.out.2.1.2.below b))
          clear b x0 x1 hd B8
          have x0 := B9.out.2.x0
          have x1 := B9.out.2.x1
          go_wp2_with fail
          refine (rsameC_any y9 B9.out.2.k (noC y9)).mono ?_
          rintro e y10 ⟨rfl, b⟩
          have hd : decide (Ot = [] ∧ Lt = []) = true := decide_eq_true ⟨HZ.out.2.2.1, HZ.out.2.2.2⟩
          rw [hd]
          have B10 := Lib.hid (B9.out.1.next b)
          clear b x0 x1 hd B9
          go_wp2
          go_ret
          exact ⟨rfl, B10.out.b.bel⟩
set_option maxRecDepth 100000 in
set_option maxHeartbeats 16000000 in
theorem steps_good (K : ListOk) (w0 : World) (hG : IsG w0 A n c F m d W E) (hC : IsC w0 A' n' c' F' m' d' O L) (hP : IsC w0 Ap np cp Fp mp dp Op Lp) (hf : ((n ≤ 70 ∧ m ≤ 300) ∧ n' ≤ 12 ∧ m' ≤ 70) ∧ ((n ≤ 70 ∧ m ≤ 300) ∧ np ≤ 12 ∧ mp ≤ 70)) (h0 : crewE W E O L = 0) : Calls Tryd.prog 3 #[.agg #[.slice A n c, .slice F m d], .agg #[.slice A' n' c', .slice F' m' d'], .agg #[.slice Ap np cp, .slice Fp mp dp]] w0 fun e w' => e = .returned (.bool true) ∧ Below w0.heap.size w0 w' := by
  have HK := Lib.hid K
  have HTW := Lib.hid (fun W (h : Below w0.heap.size w0 W) => Tab64.via hG.tab h)
  obtain ⟨w1, hw1⟩ : ∃ w1, w1 = (((w0.alloc (.cells #[.slice A n c, .slice F m d] 25)).alloc (.cells #[.slice A' n' c', .slice F' m' d'] 27)).alloc (.cells #[.slice Ap np cp, .slice Fp mp dp] 27)) := ⟨_, rfl⟩
  have B0 : Hid (BxD3 w0 A n c F m d W E A' n' c' F' m' d' O L Ap np cp Fp mp dp Op Lp w1) := Lib.hid ⟨by rw [hw1]; exact BxK3.start, hG, hC, hP⟩
  have HW := Lib.hid hw1
  have F1 := Lib.hid (fun W => fewC_any (A := A) (n := n) (c := c) (F := F) (m := m) (d := d) (A' := A') (n' := n') (c' := c') (F' := F') (m' := m') (d' := d') W true ⟨fun _ => hf.1, fun _ => rfl⟩ (by omega) (by omega) (by omega) (by omega))
  have F2 := Lib.hid (fun W => fewC_any (A := A) (n := n) (c := c) (F := F) (m := m) (d := d) (A' := Ap) (n' := np) (c' := cp) (F' := Fp) (m' := mp) (d' := dp) W true ⟨fun _ => hf.2, fun _ => rfl⟩ (by omega) (by omega) (by omega) (by omega))
  obtain ⟨ee, hee⟩ : ∃ z, crewE W E O L = z := ⟨_, rfl⟩
  obtain ⟨O2, hO2⟩ : ∃ z, fillOc W E O L = z := ⟨_, rfl⟩
  obtain ⟨L2, hL2⟩ : ∃ z, fillLc W E O L = z := ⟨_, rfl⟩
  obtain ⟨Ot, hOt⟩ : ∃ z, tickO W E O L = z := ⟨_, rfl⟩
  obtain ⟨Lt, hLt⟩ : ∃ z, tickL W E O L = z := ⟨_, rfl⟩
  obtain ⟨Dt, hDt⟩ : ∃ z, tickD W E O L = z := ⟨_, rfl⟩
  obtain ⟨Rr, hRr⟩ : ∃ z, readyV W E O L = z := ⟨_, rfl⟩
  obtain ⟨bs, hbs⟩ : ∃ z, decide (O = Op ∧ L = Lp) = z := ⟨_, rfl⟩
  obtain ⟨dn, hdn⟩ : ∃ z, Dt.length = z := ⟨_, rfl⟩
  obtain ⟨rn, hrn⟩ : ∃ z, Rr.length = z := ⟨_, rfl⟩
  have HFE : Hid (crewE W E O L = ee ∧ fillOc W E O L = O2 ∧ fillLc W E O L = L2) := Lib.hid ⟨hee, hO2, hL2⟩
  have HTE : Hid (crewE W E O L = ee ∧ tickO W E O L = Ot ∧ tickL W E O L = Lt ∧ tickD W E O L = Dt) := Lib.hid ⟨hee, hOt, hLt, hDt⟩
  have HRV := Lib.hid hRr
  have HBS := Lib.hid hbs
  have HEE := Lib.hid hee
  have HDL := Lib.hid hdn
  have HRL := Lib.hid hrn
  obtain ⟨hM, hOK⟩ := crewE_zero.mp h0
  have hm' := hC.hm
  have hn0 : 0 < n' := by have := hOK.lo; have := hC.hn; omega
  have HM : Hid (Fits W.length E ∧ L.length = W.length ∧ 0 < n') := Lib.hid ⟨hM.fits, hOK.ln, hn0⟩
  have HVS : Hid (O2 = fillC m' E L O ∧ L2 = L) := Lib.hid ⟨by rw [← hO2]; unfold fillOc; rw [if_pos h0, ← hOK.ln, hm'], by rw [← hL2]; unfold fillLc; rw [if_pos h0]⟩
  have HVT : Hid (Ot = onT O L ∧ Lt = leftT O L ∧ Dt = nums (doneT O L)) := Lib.hid ⟨by rw [← hOt]; unfold tickO; rw [if_pos h0], by rw [← hLt]; unfold tickL; rw [if_pos h0], by rw [← hDt]; unfold tickD; rw [if_pos h0]⟩
  have HRW : Hid (Rr = readyW E O L m') := Lib.hid (by rw [← hRr]; unfold readyV; rw [if_pos h0, ← hOK.ln, hm'])
  have HTKO := Lib.hid (And.intro hOK.on (And.intro hOK.once hOK.left))
  have HLN := Lib.hid hOK.ln
  have hl4 := hC.lm
  have HRN : Hid (Rr.length = rn ∧ rn ≤ 400) := Lib.hid ⟨hrn, by
    rw [← hrn, HRW.out]
    exact Nat.le_trans (readyW_len E O L m') hl4⟩
  have HDN : Hid (Dt.length = dn ∧ dn ≤ 400) := Lib.hid ⟨hdn, by
    rw [← hdn, HVT.out.2.2, nums_length]
    have := List.length_filter_le (fun x : Nat => decide ((x : Int) ∈ O ∧ leftC L (x : Int) = 1)) (List.range L.length)
    rw [List.length_range] at this
    unfold doneT
    omega⟩
  obtain rfl : ee = 0 := hee.symm.trans h0
  clear hee hO2 hL2 hOt hLt hDt hRr hbs hdn hrn hw1 h0 hG hC hP hf K hM hOK hm'
  go_enter Tryd.func3, Tryd.ntmps3
  go_wp2_with fail
  rw [← HW.out]
  clear HW
  refine (awakeC_any HK.out _ (HTW.out _ B0.out.b.bel)).mono ?_
  rintro e y1 ⟨rfl, b⟩
  have B1 := Lib.hid (B0.out.next b)
  clear b B0
  have q0 := B1.out.b.d0
  have q1 := B1.out.b.d1
  have q2 := B1.out.b.c0
  have q3 := B1.out.b.c1
  have q4 := B1.out.b.o0
  have q5 := B1.out.b.o1
  go_wp2_with fail
  refine (F1.out _).mono ?_
  rintro e y2 ⟨rfl, b⟩
  have B2 := Lib.hid (B1.out.next b)
  clear b q0 q1 q2 q3 q4 q5 B1 F1
  have q0 := B2.out.b.d0
  have q1 := B2.out.b.d1
  have q2 := B2.out.b.c0
  have q3 := B2.out.b.c1
  have q4 := B2.out.b.o0
  have q5 := B2.out.b.o1
  go_wp2_with fail
  refine (F2.out _).mono ?_
  rintro e y3 ⟨rfl, b⟩
  have B3 := Lib.hid (B2.out.next b)
  clear b q0 q1 q2 q3 q4 q5 B2 F2
  go_wp2_with fail
  refine wp_region_stored 9 [32, 33, 34, 35, 36, 31, 37, 38, 7, 1000, 8] [7, 10] (by kernel_rfl) (by kernel_rfl) (by intro d hd; simp at hd ⊢; omega) (fun x => BxD3 w0 A n c F m d W E A' n' c' F' m' d' O L Ap np cp Fp mp dp Op Lp x ∧ Below y3.heap.size y3 x) (PhiSf A n c F m d W E A' n' c' F' m' d' O L O2 L2 [] 0 y3.heap.size) (ThX y3 7 O2 L2)
    (fun x y h hb => ⟨h.1.next hb, h.2.trans (hb.mono h.2.size)⟩) (phiSf_below A n c F m d W E A' n' c' F' m' d' O L O2 L2 [] 0 y3.heap.size) (⟨B3.out.next (Below.refl _ _).drew, (Below.refl _ _).drew⟩) ?hstepp ?hpurep ?hstorep ?hthetap ?hendp
  case hstepp =>
    intro kq o hkp hkS ho a w hI hA hd K hK
    obtain ⟨ρ, hρ⟩ : ∃ ρ, a.eval = ρ := ⟨_, rfl⟩
    rw [hρ] at hA hd
    match kq, hkp, hkS, ho with
    | 0, _, _, ho =>
      have hoo := Option.some.inj ho
      subst hoo
      exact fx_val hK hρ _ (by have h := hA.tmp 3 (by decide); have h0 := hI.1.d0; have h1 := hI.1.d1; simp [execOp, h, h0, h1, go_sem]) rfl
    | 1, _, _, ho =>
      have hoo := Option.some.inj ho
      subst hoo
      have f0 : (ρ (.tmp 32)) = .agg #[.slice A n c, .slice F m d] := hd ⟨0, .data⟩ (by simp) (by rfl)
      exact fx_call hK hρ 12 _ _ #[.agg #[.slice A n c, .slice F m d]] rfl (by simp only [List.map_toArray, List.map_cons, List.map_nil, hA.const, f0]) (eg_of Tryd.func12 (by kernel_rfl) rfl) ((own_g10 (hI.1.g)).mono fun e w' ⟨A1, c1, F1, d1, he, hd, hb⟩ => ⟨_, he, ⟨A1, c1, F1, d1, rfl, hd⟩, hb⟩)
    | 2, _, _, ho =>
      have hoo := Option.some.inj ho
      subst hoo
      exact fx_val hK hρ _ (by have h := hA.tmp 4 (by decide); have h0 := hI.1.c0; have h1 := hI.1.c1; simp [execOp, h, h0, h1, go_sem]) rfl
    | 3, _, _, ho =>
      have hoo := Option.some.inj ho
      subst hoo
      have f2 : (ρ (.tmp 34)) = .agg #[.slice A' n' c', .slice F' m' d'] := hd ⟨2, .data⟩ (by simp) (by rfl)
      exact fx_call hK hρ 13 _ _ #[.agg #[.slice A' n' c', .slice F' m' d']] rfl (by simp only [List.map_toArray, List.map_cons, List.map_nil, hA.const, f2]) (eg_of Tryd.func13 (by kernel_rfl) rfl) ((ownC_any w (hI.1.k)).mono fun e w' ⟨⟨A1, c1, F1, d1, he, hM⟩, hb⟩ => ⟨_, he, ⟨A1, c1, F1, d1, rfl, hM⟩, hb⟩)
    | 4, _, _, ho =>
      have hoo := Option.some.inj ho
      subst hoo
      have f1 : GDl n m W E (ρ (.tmp 33)) w := hd ⟨1, .data⟩ (by simp) (by rfl)
      have f3 : GCl n' m' O L (ρ (.tmp 35)) w := hd ⟨3, .data⟩ (by simp) (by rfl)
      obtain ⟨A1, c1, F1, d1, f1', hD⟩ := f1
      obtain ⟨A2, c2, F2, d2, f3', hM⟩ := f3
      exact fx_call hK hρ 11 _ _ #[.agg #[.slice A1 n c1, .slice F1 m d1], .agg #[.slice A2 n' c2, .slice F2 m' d2]] rfl (by simp only [List.map_toArray, List.map_cons, List.map_nil, hA.const, f1', f3']) (eg_of Tryd.func11 (by kernel_rfl) rfl) ((HK.out.fill w hD hM).mono fun e w' hg => (by
        obtain ⟨v4, he, hg, hb⟩ := hg
        rw [HFE.out.1] at he
        rw [HFE.out.2.1, HFE.out.2.2] at hg
        obtain ⟨A4, n4, c4, F4, m4, d4, rfl, h4⟩ := hg
        exact ⟨_, he, ⟨A4, n4, c4, F4, m4, d4, rfl, h4⟩, hb⟩))
    | 5, _, _, ho =>
      have hoo := Option.some.inj ho
      subst hoo
      have f4 : GTu O2 L2 0 (ρ (.tmp 36)) w := hd ⟨4, .data⟩ (by simp) (by rfl)
      obtain ⟨A4, n4, c4, F4, m4, d4, f4', h4⟩ := f4
      exact fx_val hK hρ _ (by simp [execOp, f4', go_sem]) ⟨A4, n4, c4, F4, m4, d4, rfl, h4⟩
    | 6, _, _, ho =>
      have hoo := Option.some.inj ho
      subst hoo
      have f5 : GTu O2 L2 0 (ρ (.tmp 31)) w := hd ⟨5, .data⟩ (by simp) (by rfl)
      obtain ⟨A4, n4, c4, F4, m4, d4, f5', h4⟩ := f5
      exact fx_val hK hρ (.agg #[.slice A4 n4 c4, .slice F4 m4 d4]) (by simp [execOp, f5', go_sem]) ⟨A4, n4, c4, F4, m4, d4, rfl, h4⟩
    | 7, _, hkS, _ => exact absurd (by decide) hkS
    | 8, _, _, ho =>
      have hoo := Option.some.inj ho
      subst hoo
      exact fx_make hK hρ (.pointer (some ⟨w.heap.size, 0, none⟩)) (w.alloc (.cells #[.slice none 0 0, .slice none 0 0] 27)) (by simp [execOp, go_sem]) ⟨_, rfl, hI.2.size, heap_alloc_new w _⟩ (below_alloc _)
    | 9, hkp, _, _ => exact absurd rfl hkp
    | 10, _, hkS, _ => exact absurd (by decide) hkS
    | kq + 11, _, _, ho => simp at ho
  case hpurep =>
    intro kq o hkS ho ρ w hA hd
    simp only [List.mem_cons, List.not_mem_nil, or_false] at hkS
    rcases hkS with rfl | rfl
    · have hoo := Option.some.inj ho
      subst hoo
      obtain ⟨w', A4, n4, c4, F4, m4, d4, f5, _⟩ := hd ⟨5, .data⟩ (by simp) (by rfl) (by decide)
      have f5' : ρ (.tmp 31) = .tuple #[.agg #[.slice A4 n4 c4, .slice F4 m4 d4], .int .i64 0] := f5
      exact ⟨.int .i64 0, by simp [execOp, f5', go_sem], fun _ => rfl⟩
    · have hoo := Option.some.inj ho
      subst hoo
      obtain ⟨w', f7⟩ := hd ⟨7, .data⟩ (by simp) (by rfl) (by decide)
      have f7' : ρ (.tmp 38) = .int .i64 0 := f7
      exact ⟨.int .i64 0, by simp [execOp, f7', go_sem], fun _ => rfl⟩
  case hstorep =>
    intro o ho a w hI hA hF K hK
    have hoo := Option.some.inj ho
    subst hoo
    exact stX (slot := 7) rfl rfl rfl (hF 8 (by decide) (by decide) (by decide)) (hF 6 (by decide) (by decide) (by decide)) hI.2 (fun w' h1 _ _ => hK w' h1)
  case hthetap =>
    intro f g w h hT
    exact ThX.slot hT (h 8 (by decide) (by decide) (by decide))
  case hendp =>
    intro vals1 y4 hT hF
    obtain ⟨gx, Ax, nx, cx, Fx, mx, dx, f7, hb3, _, hx3, hk3⟩ := hT
    have f8 : vals1 8 = .int .i64 0 := (hF 10 (by decide) (by decide)).choose_spec
    simp only [fillA, fillL, List.contains_cons, List.contains_nil, Nat.reduceBEq, Bool.or_false, Bool.false_or, Bool.or_true, Bool.true_or, cond_true, cond_false, Nat.zero_add, Nat.reduceAdd]
    rw [f7, f8]
    have B4 : Hid (BxD3 w0 A n c F m d W E A' n' c' F' m' d' O L Ap np cp Fp mp dp Op Lp y4 ∧ RowK gx Ax nx cx Fx mx dx O2 L2 y4) := Lib.hid ⟨B3.out.next hb3, hx3, hk3⟩
    clear hF hb3 hx3 hk3 f7 f8 B3
    go_wp2_with fail
    refine wp_region_stored4 10 [40, 41, 42, 43, 44, 39, 45, 46, 47, 9, 1000, 10, 11] [7, 8, 11, 12] [4, 5, 7, 8, 11, 12] y4.heap.size (by kernel_rfl) (by kernel_rfl) (by intro d hd; simp at hd ⊢; omega) (fun x => (BxD3 w0 A n c F m d W E A' n' c' F' m' d' O L Ap np cp Fp mp dp Op Lp x ∧ RowK gx Ax nx cx Fx mx dx O2 L2 x) ∧ Below y4.heap.size y4 x) (PhiSt A n c F m d W E A' n' c' F' m' d' O L Ot Lt Dt 0 y4.heap.size) (ThX y4 9 Ot Lt)
      (fun x y h hb => ⟨⟨h.1.1.next hb, h.1.2.below hb⟩, h.2.trans (hb.mono h.2.size)⟩) (phiSt_below A n c F m d W E A' n' c' F' m' d' O L Ot Lt Dt 0 y4.heap.size) (⟨⟨B4.out.1.next (Below.refl _ _).drew, B4.out.2.below (Below.refl _ _).drew⟩, (Below.refl _ _).drew⟩) ?hstepq ?hsideq ?hstoreq ?hthetaq ?hthetabq (Nat.le_refl _) ?hendq
    case hstepq =>
      intro kq o hkp hkS ho a w hI hA hd K hK
      obtain ⟨ρ, hρ⟩ : ∃ ρ, a.eval = ρ := ⟨_, rfl⟩
      rw [hρ] at hA hd
      match kq, hkp, hkS, ho with
      | 0, _, _, ho =>
        have hoo := Option.some.inj ho
        subst hoo
        exact fx_val hK hρ _ (by have h := hA.tmp 3 (by decide); have h0 := hI.1.1.d0; have h1 := hI.1.1.d1; simp [execOp, h, h0, h1, go_sem]) rfl
      | 1, _, _, ho =>
        have hoo := Option.some.inj ho
        subst hoo
        have f0 : (ρ (.tmp 40)) = .agg #[.slice A n c, .slice F m d] := hd ⟨0, .data⟩ (by simp) (by rfl)
        exact fx_call hK hρ 12 _ _ #[.agg #[.slice A n c, .slice F m d]] rfl (by simp only [List.map_toArray, List.map_cons, List.map_nil, hA.const, f0]) (eg_of Tryd.func12 (by kernel_rfl) rfl) ((own_g10 (hI.1.1.g)).mono fun e w' ⟨A1, c1, F1, d1, he, hd, hb⟩ => ⟨_, he, ⟨A1, c1, F1, d1, rfl, hd⟩, hb⟩)
      | 2, _, _, ho =>
        have hoo := Option.some.inj ho
        subst hoo
        exact fx_val hK hρ _ (by have h := hA.tmp 4 (by decide); have h0 := hI.1.1.c0; have h1 := hI.1.1.c1; simp [execOp, h, h0, h1, go_sem]) rfl
      | 3, _, _, ho =>
        have hoo := Option.some.inj ho
        subst hoo
        have f2 : (ρ (.tmp 42)) = .agg #[.slice A' n' c', .slice F' m' d'] := hd ⟨2, .data⟩ (by simp) (by rfl)
        exact fx_call hK hρ 13 _ _ #[.agg #[.slice A' n' c', .slice F' m' d']] rfl (by simp only [List.map_toArray, List.map_cons, List.map_nil, hA.const, f2]) (eg_of Tryd.func13 (by kernel_rfl) rfl) ((ownC_any w (hI.1.1.k)).mono fun e w' ⟨⟨A1, c1, F1, d1, he, hM⟩, hb⟩ => ⟨_, he, ⟨A1, c1, F1, d1, rfl, hM⟩, hb⟩)
      | 4, _, _, ho =>
        have hoo := Option.some.inj ho
        subst hoo
        have f1 : GDl n m W E (ρ (.tmp 41)) w := hd ⟨1, .data⟩ (by simp) (by rfl)
        have f3 : GCl n' m' O L (ρ (.tmp 43)) w := hd ⟨3, .data⟩ (by simp) (by rfl)
        obtain ⟨A1, c1, F1, d1, f1', hD⟩ := f1
        obtain ⟨A2, c2, F2, d2, f3', hM⟩ := f3
        exact fx_call hK hρ 14 _ _ #[.agg #[.slice A1 n c1, .slice F1 m d1], .agg #[.slice A2 n' c2, .slice F2 m' d2]] rfl (by simp only [List.map_toArray, List.map_cons, List.map_nil, hA.const, f1', f3']) (eg_of Tryd.func14 (by kernel_rfl) rfl) ((HK.out.tick w hD hM).mono fun e w' hg => (by
          obtain ⟨v4, u4, he, hg, hu, hb⟩ := hg
          rw [HTE.out.1] at he
          rw [HTE.out.2.1, HTE.out.2.2.1] at hg
          rw [HTE.out.2.2.2] at hu
          obtain ⟨A4, n4, c4, F4, m4, d4, rfl, h4⟩ := hg
          obtain ⟨A5, c5, rfl, h5⟩ := hu
          exact ⟨_, he, ⟨A4, n4, c4, F4, m4, d4, A5, c5, rfl, h4, h5⟩, hb⟩))
      | 5, _, _, ho =>
        have hoo := Option.some.inj ho
        subst hoo
        have f4 : GTl Ot Lt Dt 0 (ρ (.tmp 44)) w := hd ⟨4, .data⟩ (by simp) (by rfl)
        obtain ⟨A4, n4, c4, F4, m4, d4, A5, c5, f4', h4, h5⟩ := f4
        exact fx_val hK hρ _ (by simp [execOp, f4', go_sem]) ⟨A4, n4, c4, F4, m4, d4, A5, c5, rfl, h4, h5⟩
      | 6, _, _, ho =>
        have hoo := Option.some.inj ho
        subst hoo
        have f5 : GTl Ot Lt Dt 0 (ρ (.tmp 39)) w := hd ⟨5, .data⟩ (by simp) (by rfl)
        obtain ⟨A4, n4, c4, F4, m4, d4, A5, c5, f5', h4, h5⟩ := f5
        exact fx_val hK hρ (.agg #[.slice A4 n4 c4, .slice F4 m4 d4]) (by simp [execOp, f5', go_sem]) ⟨A4, n4, c4, F4, m4, d4, rfl, h4⟩
      | 7, _, hkS, _ => exact absurd (by decide) hkS
      | 8, _, hkS, _ => exact absurd (by decide) hkS
      | 9, _, _, ho =>
        have hoo := Option.some.inj ho
        subst hoo
        exact fx_make hK hρ (.pointer (some ⟨w.heap.size, 0, none⟩)) (w.alloc (.cells #[.slice none 0 0, .slice none 0 0] 27)) (by simp [execOp, go_sem]) ⟨_, rfl, hI.2.size, heap_alloc_new w _⟩ (below_alloc _)
      | 10, hkp, _, _ => exact absurd rfl hkp
      | 11, _, hkS, _ => exact absurd (by decide) hkS
      | 12, _, hkS, _ => exact absurd (by decide) hkS
      | kq + 13, _, _, ho => simp at ho
    case hsideq =>
      intro kq o hkS ho ρ w hbw hA hd
      simp only [List.mem_cons, List.not_mem_nil, or_false] at hkS
      rcases hkS with rfl | rfl | rfl | rfl
      · have hoo := Option.some.inj ho
        subst hoo
        obtain ⟨w1, f5a, hw1⟩ := hd ⟨5, .data⟩ (by simp) (by rfl) (by decide)
        rw [hw1 (by decide)] at f5a
        have f5 : GTl Ot Lt Dt 0 (ρ (.tmp 39)) w := f5a
        obtain ⟨A4, n4, c4, F4, m4, d4, A5, c5, f5', h4, h5⟩ := f5
        exact ⟨.slice A5 Dt.length c5, w, by simp [execOp, f5', go_sem], ⟨A5, c5, rfl, h5⟩, Below.refl _ _⟩
      · have hoo := Option.some.inj ho
        subst hoo
        obtain ⟨w1, f5a, hw1⟩ := hd ⟨5, .data⟩ (by simp) (by rfl) (by decide)
        rw [hw1 (by decide)] at f5a
        have f5 : GTl Ot Lt Dt 0 (ρ (.tmp 39)) w := f5a
        obtain ⟨A4, n4, c4, F4, m4, d4, A5, c5, f5', h4, h5⟩ := f5
        exact ⟨.int .i64 0, w, by simp [execOp, f5', go_sem], rfl, Below.refl _ _⟩
      · have hoo := Option.some.inj ho
        subst hoo
        obtain ⟨w1, f7a, hw1⟩ := hd ⟨7, .data⟩ (by simp) (by rfl) (by decide)
        rw [hw1 (by decide)] at f7a
        have f7 : GotL Dt (ρ (.tmp 46)) w := f7a
        obtain ⟨A5, c5, f7', h5⟩ := f7
        exact ⟨.slice A5 Dt.length c5, w, by simp [execOp, f7', go_sem], ⟨A5, c5, rfl, h5⟩, Below.refl _ _⟩
      · have hoo := Option.some.inj ho
        subst hoo
        obtain ⟨w1, f8a, hw1⟩ := hd ⟨8, .data⟩ (by simp) (by rfl) (by decide)
        rw [hw1 (by decide)] at f8a
        have f8 : (ρ (.tmp 47)) = .int .i64 0 := f8a
        exact ⟨.int .i64 0, w, by simp [execOp, f8, go_sem], rfl, Below.refl _ _⟩
    case hstoreq =>
      intro o ho a w hI hA hF K hK
      have hoo := Option.some.inj ho
      subst hoo
      exact stX (slot := 9) rfl rfl rfl (hF 9 (by decide) (by decide) (by decide)) (hF 6 (by decide) (by decide) (by decide)) hI.2 (fun w' h1 h2 h3 => hK w' h1 h2 (fun kq hkq v hv => by
        simp only [List.mem_cons, List.not_mem_nil, or_false] at hkq
        rcases hkq with rfl | rfl | rfl | rfl | rfl | rfl
        · exact h3.gtl hv
        · exact h3.gtl hv
        · exact h3.gl hv
        · exact hv
        · exact h3.gl hv
        · exact hv))
    case hthetaq =>
      intro f g w h hT
      exact ThX.slot hT (h 9 (by decide) (by decide) (by decide))
    case hthetabq =>
      intro f w w' hT hb
      exact ThX.below hT hb
    case hendq =>
      intro vals2 y5 hT hF
      obtain ⟨gy, Ay, ny, cy, Fy, my, dy, f9, hb4, _, hx4, hk4⟩ := hT
      obtain ⟨w9, f10, e9⟩ := hF 11 (by decide) (by decide)
      rw [e9 (by decide)] at f10
      obtain ⟨Al, cl, f10, hz⟩ : GotL Dt (vals2 10) y5 := f10
      have f11 : vals2 11 = .int .i64 0 := (hF 12 (by decide) (by decide)).choose_spec.1
      simp only [fillA, fillL, List.contains_cons, List.contains_nil, Nat.reduceBEq, Bool.or_false, Bool.false_or, Bool.or_true, Bool.true_or, cond_true, cond_false, Nat.zero_add, Nat.reduceAdd]
      rw [f9, f10, f11, HDL.out]
      have B5 : Hid (BxD3 w0 A n c F m d W E A' n' c' F' m' d' O L Ap np cp Fp mp dp Op Lp y5 ∧ (RowK gx Ax nx cx Fx mx dx O2 L2 y5 ∧ RowK gy Ay ny cy Fy my dy Ot Lt y5) ∧ Ints y5 y5.heap.size Al Dt) := Lib.hid ⟨B4.out.1.next hb4, ⟨B4.out.2.below hb4, hx4, hk4⟩, hz⟩
      clear hF hb4 hx4 hk4 f9 f10 f11 e9 hz B4
      go_wp2_with fail
      refine wp_region_facts' [48, 49, 50, 51, 52, 12] [] [] (by kernel_rfl) (by kernel_rfl) (by kernel_rfl) (by intro d hd; simp at hd ⊢; omega) (fun x => BxD3 w0 A n c F m d W E A' n' c' F' m' d' O L Ap np cp Fp mp dp Op Lp x ∧ (RowK gx Ax nx cx Fx mx dx O2 L2 x ∧ RowK gy Ay ny cy Fy my dy Ot Lt x) ∧ Ints x x.heap.size Al Dt) (PhiSr A n c F m d W E A' n' c' F' m' d' O L Rr)
        (fun x y h hb => ⟨h.1.next hb, ⟨h.2.1.1.below hb, h.2.1.2.below hb⟩, (h.2.2.below hb).more hb.size⟩) (phiSr_below A n c F m d W E A' n' c' F' m' d' O L Rr) (⟨B5.out.1.next (Below.refl _ _).drew, ⟨B5.out.2.1.1.below (Below.refl _ _).drew, B5.out.2.1.2.below (Below.refl _ _).drew⟩, (B5.out.2.2.below (Below.refl _ _).drew).more (Below.refl 0 _).drew.size⟩) (fun p hp v w hv => by cases hp) (fun kq hkq => by simp at hkq) ?hstepr ?hendr
      case hstepr =>
        intro kq o ho hw a w hI hA hd K hK
        obtain ⟨ρ, hρ⟩ : ∃ ρ, a.eval = ρ := ⟨_, rfl⟩
        rw [hρ] at hA hd
        match kq, ho with
        | 0, ho =>
          have hoo := Option.some.inj ho
          subst hoo
          exact fx_val hK hρ _ (by have h := hA.tmp 3 (by decide); have h0 := hI.1.d0; have h1 := hI.1.d1; simp [execOp, h, h0, h1, go_sem]) rfl
        | 1, ho =>
          have hoo := Option.some.inj ho
          subst hoo
          have f0 : (ρ (.tmp 48)) = .agg #[.slice A n c, .slice F m d] := hd ⟨0, .data⟩ (by simp) (by rfl)
          exact fx_call hK hρ 12 _ _ #[.agg #[.slice A n c, .slice F m d]] rfl (by simp only [List.map_toArray, List.map_cons, List.map_nil, hA.const, f0]) (eg_of Tryd.func12 (by kernel_rfl) rfl) ((own_g10 (hI.1.g)).mono fun e w' ⟨A1, c1, F1, d1, he, hd, hb⟩ => ⟨_, he, ⟨A1, c1, F1, d1, rfl, hd⟩, hb⟩)
        | 2, ho =>
          have hoo := Option.some.inj ho
          subst hoo
          exact fx_val hK hρ _ (by have h := hA.tmp 4 (by decide); have h0 := hI.1.c0; have h1 := hI.1.c1; simp [execOp, h, h0, h1, go_sem]) rfl
        | 3, ho =>
          have hoo := Option.some.inj ho
          subst hoo
          have f2 : (ρ (.tmp 50)) = .agg #[.slice A' n' c', .slice F' m' d'] := hd ⟨2, .data⟩ (by simp) (by rfl)
          exact fx_call hK hρ 13 _ _ #[.agg #[.slice A' n' c', .slice F' m' d']] rfl (by simp only [List.map_toArray, List.map_cons, List.map_nil, hA.const, f2]) (eg_of Tryd.func13 (by kernel_rfl) rfl) ((ownC_any w (hI.1.k)).mono fun e w' ⟨⟨A1, c1, F1, d1, he, hM⟩, hb⟩ => ⟨_, he, ⟨A1, c1, F1, d1, rfl, hM⟩, hb⟩)
        | 4, ho =>
          have hoo := Option.some.inj ho
          subst hoo
          have f1 : GDl n m W E (ρ (.tmp 49)) w := hd ⟨1, .data⟩ (by simp) (by rfl)
          have f3 : GCl n' m' O L (ρ (.tmp 51)) w := hd ⟨3, .data⟩ (by simp) (by rfl)
          obtain ⟨A1, c1, F1, d1, f1', hD⟩ := f1
          obtain ⟨A2, c2, F2, d2, f3', hM⟩ := f3
          exact fx_call hK hρ 15 _ _ #[.agg #[.slice A1 n c1, .slice F1 m d1], .agg #[.slice A2 n' c2, .slice F2 m' d2]] rfl (by simp only [List.map_toArray, List.map_cons, List.map_nil, hA.const, f1', f3']) (eg_of Tryd.func15 (by kernel_rfl) rfl) ((HK.out.ready w hD hM).mono fun e w' ⟨v, he, hg, hb⟩ => ⟨v, he, (by rw [HRV.out] at hg; exact hg), hb⟩)
        | 5, ho =>
          have hoo := Option.some.inj ho
          subst hoo
          have f4 : GotL Rr (ρ (.tmp 52)) w := hd ⟨4, .data⟩ (by simp) (by rfl)
          obtain ⟨A5, c5, f4', h5⟩ := f4
          exact fx_val hK hρ _ (by simp [execOp, f4', go_sem]) ⟨A5, c5, rfl, h5⟩
        | kq + 6, ho => simp at ho
      case hendr =>
        intro vals3 y6 hI hF
        obtain ⟨Ar, cr, f12, hz⟩ : GotL Rr (vals3 12) y6 := hF 5 (by decide)
        simp only [fillA, fillL, List.contains_cons, List.contains_nil, Nat.reduceBEq, Bool.or_false, Bool.false_or, Bool.or_true, Bool.true_or, cond_true, cond_false, Nat.zero_add, Nat.reduceAdd]
        rw [f12, HRL.out]
        have B6 : Hid ((BxD3 w0 A n c F m d W E A' n' c' F' m' d' O L Ap np cp Fp mp dp Op Lp y6 ∧ (RowK gx Ax nx cx Fx mx dx O2 L2 y6 ∧ RowK gy Ay ny cy Fy my dy Ot Lt y6) ∧ Ints y6 y6.heap.size Al Dt ∧ Ints y6 y6.heap.size Ar Rr)) := Lib.hid ⟨hI.1, hI.2.1, hI.2.2, hz⟩
        have CK := Lib.hid (rcheckC_any y6 B6.out.1.g B6.out.1.k)
        rw [HEE.out] at CK
        have q0 := B6.out.1.b.d0
        have q1 := B6.out.1.b.d1
        have q2 := B6.out.1.b.c0
        have q3 := B6.out.1.b.c1
        have q4 := B6.out.1.b.o0
        have q5 := B6.out.1.b.o1
        clear hF hI f12 hz B5
        go_wp2_with fail
        refine CK.out.mono ?_
        rintro e y7 ⟨rfl, b⟩
        have B7 : Hid ((BxD3 w0 A n c F m d W E A' n' c' F' m' d' O L Ap np cp Fp mp dp Op Lp y7 ∧ (RowK gx Ax nx cx Fx mx dx O2 L2 y7 ∧ RowK gy Ay ny cy Fy my dy Ot Lt y7) ∧ Ints y7 y7.heap.size Al Dt ∧ Ints y7 y7.heap.size Ar Rr)) := Lib.hid ⟨B6.out.1.next b, ⟨B6.out.2.1.1.below b, B6.out.2.1.2.below b⟩, (B6.out.2.2.1.below b).more b.size, (B6.out.2.2.2.below b).more b.size⟩
        clear b q0 q1 q2 q3 q4 q5 B6 CK
        go_wp2_with fail
        refine wp_region_facts' [56, 57, 58, 59, 60, 61, 62, 63, 64, 65, 66, 67, 68, 69, 70, 71, 72, 73, 74, 75, 76, 77, 78, 79, 80, 81, 82, 83] [] [(7, false), (12, false), (17, false)] (by kernel_rfl) (by kernel_rfl) (by kernel_rfl) (by intro d hd; simp at hd ⊢; omega) (fun x => BxD3 w0 A n c F m d W E A' n' c' F' m' d' O L Ap np cp Fp mp dp Op Lp x ∧ (RowK gx Ax nx cx Fx mx dx O2 L2 x ∧ RowK gy Ay ny cy Fy my dy Ot Lt x) ∧ Ints x x.heap.size Al Dt ∧ Ints x x.heap.size Ar Rr) (PhiSs A n c F m d W E A' n' c' F' m' d' O L Ap np cp Fp mp dp Op Lp 0 bs)
          (fun x y h hb => ⟨h.1.next hb, ⟨h.2.1.1.below hb, h.2.1.2.below hb⟩, (h.2.2.1.below hb).more hb.size, (h.2.2.2.below hb).more hb.size⟩) (phiSs_below A n c F m d W E A' n' c' F' m' d' O L Ap np cp Fp mp dp Op Lp 0 bs) (⟨B7.out.1.next (Below.refl _ _).drew, ⟨B7.out.2.1.1.below (Below.refl _ _).drew, B7.out.2.1.2.below (Below.refl _ _).drew⟩, (B7.out.2.2.1.below (Below.refl _ _).drew).more (Below.refl 0 _).drew.size, (B7.out.2.2.2.below (Below.refl _ _).drew).more (Below.refl 0 _).drew.size⟩) (fun p hp v w hv => by
            simp only [List.mem_cons, List.not_mem_nil, or_false] at hp
            rcases hp with rfl | rfl | rfl <;> exact hv) (fun kq hkq => by simp at hkq) ?hsteps ?hends
        case hsteps =>
          intro kq o ho hw a w hI hA hd K hK
          obtain ⟨ρ, hρ⟩ : ∃ ρ, a.eval = ρ := ⟨_, rfl⟩
          rw [hρ] at hA hd
          match kq, ho with
          | 0, ho =>
            have hoo := Option.some.inj ho
            subst hoo
            exact fx_val hK hρ _ (by have h := hA.tmp 3 (by decide); have h0 := hI.1.d0; have h1 := hI.1.d1; simp [execOp, h, h0, h1, go_sem]) rfl
          | 1, ho =>
            have hoo := Option.some.inj ho
            subst hoo
            have f0 : (ρ (.tmp 56)) = .agg #[.slice A n c, .slice F m d] := hd ⟨0, .data⟩ (by simp) (by rfl)
            exact fx_call hK hρ 12 _ _ #[.agg #[.slice A n c, .slice F m d]] rfl (by simp only [List.map_toArray, List.map_cons, List.map_nil, hA.const, f0]) (eg_of Tryd.func12 (by kernel_rfl) rfl) ((own_g10 (hI.1.g)).mono fun e w' ⟨A1, c1, F1, d1, he, hd, hb⟩ => ⟨_, he, ⟨A1, c1, F1, d1, rfl, hd⟩, hb⟩)
          | 2, ho =>
            have hoo := Option.some.inj ho
            subst hoo
            exact fx_val hK hρ _ (by have h := hA.tmp 4 (by decide); have h0 := hI.1.c0; have h1 := hI.1.c1; simp [execOp, h, h0, h1, go_sem]) rfl
          | 3, ho =>
            have hoo := Option.some.inj ho
            subst hoo
            have f2 : (ρ (.tmp 58)) = .agg #[.slice A' n' c', .slice F' m' d'] := hd ⟨2, .data⟩ (by simp) (by rfl)
            exact fx_call hK hρ 13 _ _ #[.agg #[.slice A' n' c', .slice F' m' d']] rfl (by simp only [List.map_toArray, List.map_cons, List.map_nil, hA.const, f2]) (eg_of Tryd.func13 (by kernel_rfl) rfl) ((ownC_any w (hI.1.k)).mono fun e w' ⟨⟨A1, c1, F1, d1, he, hM⟩, hb⟩ => ⟨_, he, ⟨A1, c1, F1, d1, rfl, hM⟩, hb⟩)
          | 4, ho =>
            have hoo := Option.some.inj ho
            subst hoo
            have f1 : GDl n m W E (ρ (.tmp 57)) w := hd ⟨1, .data⟩ (by simp) (by rfl)
            have f3 : GCl n' m' O L (ρ (.tmp 59)) w := hd ⟨3, .data⟩ (by simp) (by rfl)
            obtain ⟨A1, c1, F1, d1, f1', hD⟩ := f1
            obtain ⟨A2, c2, F2, d2, f3', hM⟩ := f3
            exact fx_call hK hρ 17 _ _ #[.agg #[.slice A1 n c1, .slice F1 m d1], .agg #[.slice A2 n' c2, .slice F2 m' d2]] rfl (by simp only [List.map_toArray, List.map_cons, List.map_nil, hA.const, f1', f3']) (eg_of Tryd.func17 (by kernel_rfl) rfl) ((HK.out.check w hD hM).mono fun e w' ⟨he, hb⟩ => ⟨_, he, (by show Value.int .i64 _ = .int .i64 0; rw [HEE.out]), hb⟩)
          | 5, ho =>
            have hoo := Option.some.inj ho
            subst hoo
            exact fx_val hK hρ (.int .i64 0) (by have h := hA.tmp 13 (by decide); simp [execOp, h, go_sem]) rfl
          | 6, ho =>
            have hoo := Option.some.inj ho
            subst hoo
            have f4 : (ρ (.tmp 60)) = .int .i64 0 := hd ⟨4, .data⟩ (by simp) (by rfl)
            have f5 : (ρ (.tmp 61)) = .int .i64 0 := hd ⟨5, .data⟩ (by simp) (by rfl)
            exact fx_val hK hρ (.bool false) (by simp [execOp, f4, f5, go_sem]) rfl
          | 7, ho =>
            have hoo := Option.some.inj ho
            subst hoo
            have f6 : (ρ (.tmp 62)) = .bool false := hd ⟨6, .data⟩ (by simp) (by rfl)
            exact fx_val hK hρ (.bool false) (by simp [execOp, f6, hA.const, go_sem]) rfl
          | 8, ho =>
            have hoo := Option.some.inj ho
            subst hoo
            exact fx_val hK hρ (.int .i64 0) (by have h := hA.tmp 8 (by decide); simp [execOp, h, go_sem]) rfl
          | 9, ho =>
            have hoo := Option.some.inj ho
            subst hoo
            exact fx_val hK hρ (.int .i64 0) (by have h := hA.tmp 13 (by decide); simp [execOp, h, go_sem]) rfl
          | 10, ho =>
            have hoo := Option.some.inj ho
            subst hoo
            have f8 : (ρ (.tmp 64)) = .int .i64 0 := hd ⟨8, .data⟩ (by simp) (by rfl)
            have f9 : (ρ (.tmp 65)) = .int .i64 0 := hd ⟨9, .data⟩ (by simp) (by rfl)
            exact fx_val hK hρ (.bool false) (by simp [execOp, f8, f9, go_sem]) rfl
          | 11, ho =>
            have hoo := Option.some.inj ho
            subst hoo
            have f7 : (ρ (.tmp 63)) = .bool false := hd ⟨7, .data⟩ (by simp) (by rfl)
            have f10 : (ρ (.tmp 66)) = .bool false := hd ⟨10, .data⟩ (by simp) (by rfl)
            exact fx_val hK hρ (.bool false) (by simp [execOp, f7, f10, hA.const, hA.const, go_sem]) rfl
          | 12, ho =>
            have hoo := Option.some.inj ho
            subst hoo
            have f11 : (ρ (.tmp 67)) = .bool false := hd ⟨11, .data⟩ (by simp) (by rfl)
            exact fx_val hK hρ (.bool false) (by simp [execOp, f11, hA.const, go_sem]) rfl
          | 13, ho =>
            have hoo := Option.some.inj ho
            subst hoo
            exact fx_val hK hρ (.int .i64 0) (by have h := hA.tmp 11 (by decide); simp [execOp, h, go_sem]) rfl
          | 14, ho =>
            have hoo := Option.some.inj ho
            subst hoo
            exact fx_val hK hρ (.int .i64 0) (by have h := hA.tmp 13 (by decide); simp [execOp, h, go_sem]) rfl
          | 15, ho =>
            have hoo := Option.some.inj ho
            subst hoo
            have f13 : (ρ (.tmp 69)) = .int .i64 0 := hd ⟨13, .data⟩ (by simp) (by rfl)
            have f14 : (ρ (.tmp 70)) = .int .i64 0 := hd ⟨14, .data⟩ (by simp) (by rfl)
            exact fx_val hK hρ (.bool false) (by simp [execOp, f13, f14, go_sem]) rfl
          | 16, ho =>
            have hoo := Option.some.inj ho
            subst hoo
            have f12 : (ρ (.tmp 68)) = .bool false := hd ⟨12, .data⟩ (by simp) (by rfl)
            have f15 : (ρ (.tmp 71)) = .bool false := hd ⟨15, .data⟩ (by simp) (by rfl)
            exact fx_val hK hρ (.bool false) (by simp [execOp, f12, f15, hA.const, hA.const, go_sem]) rfl
          | 17, ho =>
            have hoo := Option.some.inj ho
            subst hoo
            have f16 : (ρ (.tmp 72)) = .bool false := hd ⟨16, .data⟩ (by simp) (by rfl)
            exact fx_val hK hρ (.bool false) (by simp [execOp, f16, hA.const, go_sem]) rfl
          | 18, ho =>
            have hoo := Option.some.inj ho
            subst hoo
            exact fx_val hK hρ _ (by have h := hA.tmp 4 (by decide); have h0 := hI.1.c0; have h1 := hI.1.c1; simp [execOp, h, h0, h1, go_sem]) rfl
          | 19, ho =>
            have hoo := Option.some.inj ho
            subst hoo
            have f18 : (ρ (.tmp 74)) = .agg #[.slice A' n' c', .slice F' m' d'] := hd ⟨18, .data⟩ (by simp) (by rfl)
            exact fx_call hK hρ 13 _ _ #[.agg #[.slice A' n' c', .slice F' m' d']] rfl (by simp only [List.map_toArray, List.map_cons, List.map_nil, hA.const, f18]) (eg_of Tryd.func13 (by kernel_rfl) rfl) ((ownC_any w (hI.1.k)).mono fun e w' ⟨⟨A1, c1, F1, d1, he, hM⟩, hb⟩ => ⟨_, he, ⟨A1, c1, F1, d1, rfl, hM⟩, hb⟩)
          | 20, ho =>
            have hoo := Option.some.inj ho
            subst hoo
            exact fx_val hK hρ _ (by have h := hA.tmp 5 (by decide); have h0 := hI.1.o0; have h1 := hI.1.o1; simp [execOp, h, h0, h1, go_sem]) rfl
          | 21, ho =>
            have hoo := Option.some.inj ho
            subst hoo
            have f20 : (ρ (.tmp 76)) = .agg #[.slice Ap np cp, .slice Fp mp dp] := hd ⟨20, .data⟩ (by simp) (by rfl)
            exact fx_call hK hρ 13 _ _ #[.agg #[.slice Ap np cp, .slice Fp mp dp]] rfl (by simp only [List.map_toArray, List.map_cons, List.map_nil, hA.const, f20]) (eg_of Tryd.func13 (by kernel_rfl) rfl) ((ownC_any w (hI.1.p)).mono fun e w' ⟨⟨A1, c1, F1, d1, he, hM⟩, hb⟩ => ⟨_, he, ⟨A1, c1, F1, d1, rfl, hM⟩, hb⟩)
          | 22, ho =>
            have hoo := Option.some.inj ho
            subst hoo
            have f19 : GCl n' m' O L (ρ (.tmp 75)) w := hd ⟨19, .data⟩ (by simp) (by rfl)
            have f21 : GCl np mp Op Lp (ρ (.tmp 77)) w := hd ⟨21, .data⟩ (by simp) (by rfl)
            obtain ⟨A1, c1, F1, d1, f19', hD⟩ := f19
            obtain ⟨A2, c2, F2, d2, f21', hM⟩ := f21
            exact fx_call hK hρ 18 _ _ #[.agg #[.slice A1 n' c1, .slice F1 m' d1], .agg #[.slice A2 np c2, .slice F2 mp d2]] rfl (by simp only [List.map_toArray, List.map_cons, List.map_nil, hA.const, f19', f21']) (eg_of Tryd.func18 (by kernel_rfl) rfl) ((HK.out.same w hD hM).mono fun e w' ⟨he, hb⟩ => ⟨_, he, (by show Value.bool _ = .bool bs; rw [HBS.out]), hb⟩)
          | 23, ho =>
            have hoo := Option.some.inj ho
            subst hoo
            exact fx_val hK hρ _ (by have h := hA.tmp 4 (by decide); have h0 := hI.1.c0; have h1 := hI.1.c1; simp [execOp, h, h0, h1, go_sem]) rfl
          | 24, ho =>
            have hoo := Option.some.inj ho
            subst hoo
            exact fx_val hK hρ _ (by have h := hA.tmp 5 (by decide); have h0 := hI.1.o0; have h1 := hI.1.o1; simp [execOp, h, h0, h1, go_sem]) rfl
          | 25, ho =>
            have hoo := Option.some.inj ho
            subst hoo
            have f23 : (ρ (.tmp 79)) = .agg #[.slice A' n' c', .slice F' m' d'] := hd ⟨23, .data⟩ (by simp) (by rfl)
            have f24 : (ρ (.tmp 80)) = .agg #[.slice Ap np cp, .slice Fp mp dp] := hd ⟨24, .data⟩ (by simp) (by rfl)
            exact fx_call hK hρ 19 _ _ #[.agg #[.slice A' n' c', .slice F' m' d'], .agg #[.slice Ap np cp, .slice Fp mp dp]] rfl (by simp only [List.map_toArray, List.map_cons, List.map_nil, hA.const, f23, f24]) (eg_of Tryd.func19 (by kernel_rfl) rfl) ((rsameC_any w (hI.1.k) (hI.1.p)).mono fun e w' ⟨he, hb⟩ => ⟨_, he, (by show Value.bool _ = .bool bs; rw [HBS.out]), hb⟩)
          | 26, ho =>
            have hoo := Option.some.inj ho
            subst hoo
            have f22 : (ρ (.tmp 78)) = .bool bs := hd ⟨22, .data⟩ (by simp) (by rfl)
            have f25 : (ρ (.tmp 81)) = .bool bs := hd ⟨25, .data⟩ (by simp) (by rfl)
            exact fx_val hK hρ (.bool false) (by simp [execOp, f22, f25, go_sem]) rfl
          | 27, ho =>
            have hoo := Option.some.inj ho
            subst hoo
            have f17 : (ρ (.tmp 73)) = .bool false := hd ⟨17, .data⟩ (by simp) (by rfl)
            have f26 : (ρ (.tmp 82)) = .bool false := hd ⟨26, .data⟩ (by simp) (by rfl)
            exact fx_val hK hρ (.bool false) (by simp [execOp, f17, f26, hA.const, hA.const, go_sem]) rfl
          | kq + 28, ho => simp at ho
        case hends =>
          intro vals4 y8 hI hF
          have fz : vals4 83 = .bool false := hF 27 (by decide)
          simp only [fillA, fillL, List.contains_cons, List.contains_nil, Nat.reduceBEq, Bool.or_false, Bool.false_or, Bool.or_true, Bool.true_or, cond_true, cond_false, Nat.zero_add, Nat.reduceAdd]
          rw [fz]
          have B8 : Hid ((BxD3 w0 A n c F m d W E A' n' c' F' m' d' O L Ap np cp Fp mp dp Op Lp y8 ∧ (RowK gx Ax nx cx Fx mx dx O2 L2 y8 ∧ RowK gy Ay ny cy Fy my dy Ot Lt y8) ∧ Ints y8 y8.heap.size Al Dt ∧ Ints y8 y8.heap.size Ar Rr)) := Lib.hid hI
          clear hF hI fz B7
          have q0 := B8.out.1.b.d0
          have q1 := B8.out.1.b.d1
          have q2 := B8.out.1.b.c0
          have q3 := B8.out.1.b.c1
          have q4 := B8.out.1.b.o0
          have q5 := B8.out.1.b.o1
          go_wp2_with fail
          refine (rtickC_any y8 B8.out.1.k hn0 (fun x hx => by rw [HLN.out]; exact (HTKO.out.1 x hx).imp id (fun h => h.1)) HTKO.out.2.1 HTKO.out.2.2).mono ?_
          rintro e y9 ⟨Az, cz, Fz, dz, Aq, cq, rfl, hkz, hiq, b⟩
          rw [← HVT.out.1, ← HVT.out.2.1] at hkz
          rw [← HVT.out.2.2] at hiq
          have hdl : (doneT O L).length = dn := by rw [← nums_length, ← HVT.out.2.2]; exact HDN.out.1
          rw [hdl]
          obtain ⟨gz, hgz⟩ : ∃ g, g = y9.heap.size := ⟨_, rfl⟩
          obtain ⟨nz, hnz⟩ : ∃ z, z = n' := ⟨_, rfl⟩
          obtain ⟨mz, hmz⟩ : ∃ z, z = m' := ⟨_, rfl⟩
          obtain ⟨y10, hy10⟩ : ∃ z, z = y9.alloc (.cells #[.slice Az n' cz, .slice Fz m' dz] 27) := ⟨_, rfl⟩
          have hba : Below y9.heap.size y9 y10 := by rw [hy10]; exact below_alloc _
          have hna : y10.heap[gz]? = some (.cells #[.slice Az n' cz, .slice Fz m' dz] 27 (0, 0)) := by rw [hy10, hgz]; exact heap_alloc_new _ _
          have hbb : Below y8.heap.size y8 y10 := b.trans (hba.mono b.size)
          have B9 : Hid (BxD3 w0 A n c F m d W E A' n' c' F' m' d' O L Ap np cp Fp mp dp Op Lp y10 ∧ (RowK gx Ax nx cx Fx mx dx O2 L2 y10 ∧ RowK gy Ay ny cy Fy my dy Ot Lt y10) ∧ RowK gz Az nz cz Fz mz dz Ot Lt y10 ∧ Ints y10 y10.heap.size Al Dt ∧ Ints y10 y10.heap.size Aq Dt ∧ Ints y10 y10.heap.size Ar Rr) := Lib.hid ⟨B8.out.1.next hbb, ⟨B8.out.2.1.1.below hbb, B8.out.2.1.2.below hbb⟩, ⟨by rw [hnz, hmz]; exact hna, by rw [hnz, hmz]; exact hkz.isC.below hba⟩, (B8.out.2.2.1.below hbb).more hbb.size, (hiq.below hba).more hba.size, (B8.out.2.2.2.below hbb).more hbb.size⟩
          have HY := Lib.hid hy10
          have HGZ := Lib.hid hgz
          have HNZ := Lib.hid (And.intro hnz hmz)
          clear hdl hkz hiq b hba hna hbb B8 hy10 hgz hnz hmz q0 q1 q2 q3 q4 q5
          go_wp2_with fail
          rw [← HY.out, ← HGZ.out]
          clear HY HGZ
          refine wp_region_facts' [109, 110, 111, 112, 113, 114, 115, 116, 117, 118, 119, 120, 121, 122, 123, 124, 125, 126, 127, 128, 129, 130, 6] [] [(5, true), (10, true), (15, true)] (by kernel_rfl) (by kernel_rfl) (by kernel_rfl) (by intro d hd; simp at hd ⊢; omega) (fun x => BxD3 w0 A n c F m d W E A' n' c' F' m' d' O L Ap np cp Fp mp dp Op Lp x ∧ (RowK gx Ax nx cx Fx mx dx O2 L2 x ∧ RowK gy Ay ny cy Fy my dy Ot Lt x) ∧ RowK gz Az nz cz Fz mz dz Ot Lt x ∧ Ints x x.heap.size Al Dt ∧ Ints x x.heap.size Aq Dt ∧ Ints x x.heap.size Ar Rr) (PhiSz A n c F m d A' n' c' F' m' d' Ax nx cx Fx mx dx O2 L2 Ay ny cy Fy my dy Az nz cz Fz mz dz Al dn cl Aq cq Ar rn cr Rr)
            (fun x y h hb => ⟨h.1.next hb, ⟨h.2.1.1.below hb, h.2.1.2.below hb⟩, h.2.2.1.below hb, (h.2.2.2.1.below hb).more hb.size, (h.2.2.2.2.1.below hb).more hb.size, (h.2.2.2.2.2.below hb).more hb.size⟩) (phiSz_below A n c F m d A' n' c' F' m' d' Ax nx cx Fx mx dx O2 L2 Ay ny cy Fy my dy Az nz cz Fz mz dz Al dn cl Aq cq Ar rn cr Rr) (⟨B9.out.1.next (Below.refl _ _).drew, ⟨B9.out.2.1.1.below (Below.refl _ _).drew, B9.out.2.1.2.below (Below.refl _ _).drew⟩, B9.out.2.2.1.below (Below.refl _ _).drew, (B9.out.2.2.2.1.below (Below.refl _ _).drew).more (Below.refl 0 _).drew.size, (B9.out.2.2.2.2.1.below (Below.refl _ _).drew).more (Below.refl 0 _).drew.size, (B9.out.2.2.2.2.2.below (Below.refl _ _).drew).more (Below.refl 0 _).drew.size⟩) (fun p hp v w hv => by
              simp only [List.mem_cons, List.not_mem_nil, or_false] at hp
              rcases hp with rfl | rfl | rfl <;> exact hv) (fun kq hkq => by simp at hkq) ?hstepz ?hendz
          case hstepz =>
            intro kq o ho hw a w hI hA hd K hK
            obtain ⟨ρ, hρ⟩ : ∃ ρ, a.eval = ρ := ⟨_, rfl⟩
            rw [hρ] at hA hd
            match kq, ho with
            | 0, ho =>
              have hoo := Option.some.inj ho
              subst hoo
              exact fx_val hK hρ _ (by have h := hA.tmp 7 (by decide); have h0 := hI.2.1.1.x0; have h1 := hI.2.1.1.x1; simp [execOp, h, h0, h1, go_sem]) rfl
            | 1, ho =>
              have hoo := Option.some.inj ho
              subst hoo
              exact fx_val hK hρ _ (by have h := hA.tmp 3 (by decide); have h0 := hI.1.d0; have h1 := hI.1.d1; simp [execOp, h, h0, h1, go_sem]) rfl
            | 2, ho =>
              have hoo := Option.some.inj ho
              subst hoo
              exact fx_val hK hρ _ (by have h := hA.tmp 4 (by decide); have h0 := hI.1.c0; have h1 := hI.1.c1; simp [execOp, h, h0, h1, go_sem]) rfl
            | 3, ho =>
              have hoo := Option.some.inj ho
              subst hoo
              have f1 : (ρ (.tmp 110)) = .agg #[.slice A n c, .slice F m d] := hd ⟨1, .data⟩ (by simp) (by rfl)
              have f2 : (ρ (.tmp 111)) = .agg #[.slice A' n' c', .slice F' m' d'] := hd ⟨2, .data⟩ (by simp) (by rfl)
              exact fx_call hK hρ 21 _ _ #[.agg #[.slice A n c, .slice F m d], .agg #[.slice A' n' c', .slice F' m' d']] rfl (by simp only [List.map_toArray, List.map_cons, List.map_nil, hA.const, f1, f2]) (eg_of Tryd.func21 (by kernel_rfl) rfl) ((rfillC_any w (hI.1.g) (hI.1.k) HM.out.1 HM.out.2.1 HM.out.2.2).mono fun e w' ⟨A1, c1, F1, d1, he, hO, hb⟩ => ⟨_, he, ⟨A1, c1, F1, d1, rfl, (by rw [HVS.out.1, HVS.out.2]; exact hO.isC)⟩, hb⟩)
            | 4, ho =>
              have hoo := Option.some.inj ho
              subst hoo
              have f0 : (ρ (.tmp 109)) = .agg #[.slice Ax nx cx, .slice Fx mx dx] := hd ⟨0, .data⟩ (by simp) (by rfl)
              have f3 : GCl n' m' O2 L2 (ρ (.tmp 112)) w := hd ⟨3, .data⟩ (by simp) (by rfl)
              obtain ⟨A3, c3, F3, d3, f3', hM⟩ := f3
              exact fx_call hK hρ 19 _ _ #[.agg #[.slice Ax nx cx, .slice Fx mx dx], .agg #[.slice A3 n' c3, .slice F3 m' d3]] rfl (by simp only [List.map_toArray, List.map_cons, List.map_nil, hA.const, f0, f3']) (eg_of Tryd.func19 (by kernel_rfl) rfl) ((rsame_eq (hI.2.1.1.k) hM).mono fun e w' ⟨he, hb⟩ => ⟨_, he, rfl, hb⟩)
            | 5, ho =>
              have hoo := Option.some.inj ho
              subst hoo
              have f4 : (ρ (.tmp 113)) = .bool true := hd ⟨4, .data⟩ (by simp) (by rfl)
              exact fx_val hK hρ (.bool true) (by simp [execOp, f4, hA.const, go_sem]) rfl
            | 6, ho =>
              have hoo := Option.some.inj ho
              subst hoo
              exact fx_val hK hρ _ (by have h := hA.tmp 9 (by decide); have h0 := hI.2.1.2.x0; have h1 := hI.2.1.2.x1; simp [execOp, h, h0, h1, go_sem]) rfl
            | 7, ho =>
              have hoo := Option.some.inj ho
              subst hoo
              exact fx_val hK hρ _ (by have h := hA.tmp 14 (by decide); have h0 := hI.2.2.1.x0; have h1 := hI.2.2.1.x1; simp [execOp, h, h0, h1, go_sem]) rfl
            | 8, ho =>
              have hoo := Option.some.inj ho
              subst hoo
              have f6 : (ρ (.tmp 115)) = .agg #[.slice Ay ny cy, .slice Fy my dy] := hd ⟨6, .data⟩ (by simp) (by rfl)
              have f7 : (ρ (.tmp 116)) = .agg #[.slice Az nz cz, .slice Fz mz dz] := hd ⟨7, .data⟩ (by simp) (by rfl)
              exact fx_call hK hρ 19 _ _ #[.agg #[.slice Ay ny cy, .slice Fy my dy], .agg #[.slice Az nz cz, .slice Fz mz dz]] rfl (by simp only [List.map_toArray, List.map_cons, List.map_nil, hA.const, f6, f7]) (eg_of Tryd.func19 (by kernel_rfl) rfl) ((rsame_eq (hI.2.1.2.k) (hI.2.2.1.k)).mono fun e w' ⟨he, hb⟩ => ⟨_, he, rfl, hb⟩)
            | 9, ho =>
              have hoo := Option.some.inj ho
              subst hoo
              have f5 : (ρ (.tmp 114)) = .bool true := hd ⟨5, .data⟩ (by simp) (by rfl)
              have f8 : (ρ (.tmp 117)) = .bool true := hd ⟨8, .data⟩ (by simp) (by rfl)
              exact fx_val hK hρ (.bool true) (by simp [execOp, f5, f8, hA.const, hA.const, go_sem]) rfl
            | 10, ho =>
              have hoo := Option.some.inj ho
              subst hoo
              have f9 : (ρ (.tmp 118)) = .bool true := hd ⟨9, .data⟩ (by simp) (by rfl)
              exact fx_val hK hρ (.bool true) (by simp [execOp, f9, hA.const, go_sem]) rfl
            | 11, ho =>
              have hoo := Option.some.inj ho
              subst hoo
              exact fx_val hK hρ (.slice Al dn cl) (by have h := hA.tmp 10 (by decide); simp [execOp, h, go_sem]) rfl
            | 12, ho =>
              have hoo := Option.some.inj ho
              subst hoo
              exact fx_val hK hρ (.slice Aq dn cq) (by have h := hA.tmp 15 (by decide); simp [execOp, h, go_sem]) rfl
            | 13, ho =>
              have hoo := Option.some.inj ho
              subst hoo
              have f11 : (ρ (.tmp 120)) = .slice Al dn cl := hd ⟨11, .data⟩ (by simp) (by rfl)
              have f12 : (ρ (.tmp 121)) = .slice Aq dn cq := hd ⟨12, .data⟩ (by simp) (by rfl)
              exact fx_call hK hρ 22 _ _ #[.slice Al dn cl, .slice Aq dn cq] rfl (by simp only [List.map_toArray, List.map_cons, List.map_nil, hA.const, f11, f12]) (eg_of Tryd.func22 (by kernel_rfl) rfl) ((ints_eq HDN.out.1 HDN.out.2 (hI.2.2.2.1) (hI.2.2.2.2.1)).mono fun e w' ⟨he, hb⟩ => ⟨_, he, rfl, hb⟩)
            | 14, ho =>
              have hoo := Option.some.inj ho
              subst hoo
              have f10 : (ρ (.tmp 119)) = .bool true := hd ⟨10, .data⟩ (by simp) (by rfl)
              have f13 : (ρ (.tmp 122)) = .bool true := hd ⟨13, .data⟩ (by simp) (by rfl)
              exact fx_val hK hρ (.bool true) (by simp [execOp, f10, f13, hA.const, hA.const, go_sem]) rfl
            | 15, ho =>
              have hoo := Option.some.inj ho
              subst hoo
              have f14 : (ρ (.tmp 123)) = .bool true := hd ⟨14, .data⟩ (by simp) (by rfl)
              exact fx_val hK hρ (.bool true) (by simp [execOp, f14, hA.const, go_sem]) rfl
            | 16, ho =>
              have hoo := Option.some.inj ho
              subst hoo
              exact fx_val hK hρ (.slice Ar rn cr) (by have h := hA.tmp 12 (by decide); simp [execOp, h, go_sem]) rfl
            | 17, ho =>
              have hoo := Option.some.inj ho
              subst hoo
              exact fx_val hK hρ _ (by have h := hA.tmp 3 (by decide); have h0 := hI.1.d0; have h1 := hI.1.d1; simp [execOp, h, h0, h1, go_sem]) rfl
            | 18, ho =>
              have hoo := Option.some.inj ho
              subst hoo
              exact fx_val hK hρ _ (by have h := hA.tmp 4 (by decide); have h0 := hI.1.c0; have h1 := hI.1.c1; simp [execOp, h, h0, h1, go_sem]) rfl
            | 19, ho =>
              have hoo := Option.some.inj ho
              subst hoo
              have f17 : (ρ (.tmp 126)) = .agg #[.slice A n c, .slice F m d] := hd ⟨17, .data⟩ (by simp) (by rfl)
              have f18 : (ρ (.tmp 127)) = .agg #[.slice A' n' c', .slice F' m' d'] := hd ⟨18, .data⟩ (by simp) (by rfl)
              exact fx_call hK hρ 23 _ _ #[.agg #[.slice A n c, .slice F m d], .agg #[.slice A' n' c', .slice F' m' d']] rfl (by simp only [List.map_toArray, List.map_cons, List.map_nil, hA.const, f17, f18]) (eg_of Tryd.func23 (by kernel_rfl) rfl) ((rreadyC_any w (hI.1.g) (hI.1.k) HM.out.1 HM.out.2.1).mono fun e w' hg => (by
            obtain ⟨A5, c5, he, hi, hb⟩ := GotOwn.ints hg
            rw [← HRW.out] at he hi
            rw [HRN.out.1] at he
            exact ⟨_, he, ⟨A5, c5, rfl, hi⟩, hb⟩))
            | 20, ho =>
              have hoo := Option.some.inj ho
              subst hoo
              have f16 : (ρ (.tmp 125)) = .slice Ar rn cr := hd ⟨16, .data⟩ (by simp) (by rfl)
              have f19 : GRl rn Rr (ρ (.tmp 128)) w := hd ⟨19, .data⟩ (by simp) (by rfl)
              obtain ⟨A5, c5, f19', h5⟩ := f19
              exact fx_call hK hρ 22 _ _ #[.slice Ar rn cr, .slice A5 rn c5] rfl (by simp only [List.map_toArray, List.map_cons, List.map_nil, hA.const, f16, f19']) (eg_of Tryd.func22 (by kernel_rfl) rfl) ((ints_eq HRN.out.1 HRN.out.2 (hI.2.2.2.2.2) h5).mono fun e w' ⟨he, hb⟩ => ⟨_, he, rfl, hb⟩)
            | 21, ho =>
              have hoo := Option.some.inj ho
              subst hoo
              have f15 : (ρ (.tmp 124)) = .bool true := hd ⟨15, .data⟩ (by simp) (by rfl)
              have f20 : (ρ (.tmp 129)) = .bool true := hd ⟨20, .data⟩ (by simp) (by rfl)
              exact fx_val hK hρ (.bool true) (by simp [execOp, f15, f20, hA.const, hA.const, go_sem]) rfl
            | 22, ho =>
              have hoo := Option.some.inj ho
              subst hoo
              have f21 : (ρ (.tmp 130)) = .bool true := hd ⟨21, .data⟩ (by simp) (by rfl)
              exact fx_val hK hρ (.bool true) (by simp [execOp, f21, hA.const, go_sem]) rfl
            | kq + 23, ho => simp at ho
          case hendz =>
            intro vals5 y11 hI hF
            have fz : vals5 6 = .bool true := hF 22 (by decide)
            simp only [fillA, fillL, List.contains_cons, List.contains_nil, Nat.reduceBEq, Bool.or_false, Bool.false_or, Bool.or_true, Bool.true_or, cond_true, cond_false, Nat.zero_add, Nat.reduceAdd]
            rw [fz]
            have BZ := Lib.hid hI.1.b.bel
            clear hF hI fz
            go_wp2
            go_ret
            exact ⟨rfl, BZ.out⟩
theorem walk_ListSteps (K : ListOk) (w0 : World) (hT : Tab64 w0) (hg : InG w0 A n c F m d W E) (hc : InC w0 A' n' c' F' m' d' O L) (ho : InC w0 Ap np cp Fp mp dp Op Lp) : Calls Tryd.prog 3 #[.agg #[.slice A n c, .slice F m d], .agg #[.slice A' n' c', .slice F' m' d'], .agg #[.slice Ap np cp, .slice Fp mp dp]] w0 fun e w' => e = .returned (.bool true) ∧ Below w0.heap.size w0 w' := by
  by_cases h : ((n ≤ 70 ∧ m ≤ 300) ∧ n' ≤ 12 ∧ m' ≤ 70) ∧ ((n ≤ 70 ∧ m ≤ 300) ∧ np ≤ 12 ∧ mp ≤ 70)
  · by_cases h0 : crewE W E O L = 0
    · exact steps_good K w0 (hg.isG hT h.1.1.1 h.1.1.2) (hc.isC h.1.2.1 h.1.2.2) (ho.isC h.2.2.1 h.2.2.2) h h0
    · exact steps_bad K w0 (hg.isG hT h.1.1.1 h.1.1.2) (hc.isC h.1.2.1 h.1.2.2) (ho.isC h.2.2.1 h.2.2.2) h h0
  · exact steps_many K w0 hT hg hc ho h
end
end Go.Proofs.YtmmogdccjiagnaaDoor
