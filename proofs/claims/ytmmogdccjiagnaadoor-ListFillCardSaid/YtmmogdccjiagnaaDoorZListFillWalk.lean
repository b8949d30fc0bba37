/- The walk of ListFill in the seat YtmmogdccjiagnaaDoor (printed by list/mk_fillwalk.py). No statement is proved here. -/
import Derived.Test.YtmmogdccjiagnaaDoorZM28
import Derived.BigRegion
set_option linter.unusedSimpArgs false
set_option linter.unusedVariables false
set_option linter.unusedSimpArgs false
namespace Go.Proofs.YtmmogdccjiagnaaDoor
open Go Go.RowKit

def PhiLf (A : Option Addr) (n c : Nat) (F : Option Addr) (m d : Nat) (W : List Int) (E : List (Int × Int)) (A' : Option Addr) (n' c' : Nat) (F' : Option Addr) (m' d' : Nat) (O L O2 L2 D2 : List Int) (ee : Int) (hb0 : Nat) : Nat → Value → World → Prop
  | 0, v, w => v = .agg #[.slice A n c, .slice F m d]
  | 1, v, w => GDl n m W E v w
  | 2, v, w => v = .agg #[.slice A' n' c', .slice F' m' d']
  | 3, v, w => GCl n' m' O L v w
  | 4, v, w => GTu O2 L2 ee v w
  | 5, v, w => GTu O2 L2 ee v w
  | 6, v, w => GotCrew O2 L2 v w
  | 7, v, w => v = .int .i64 ee
  | 8, v, w => GNc hb0 v w
  | 9, v, w => True
  | 10, v, w => v = .int .i64 ee
  | _, _, _ => True
theorem phiLf_below (A : Option Addr) (n c : Nat) (F : Option Addr) (m d : Nat) (W : List Int) (E : List (Int × Int)) (A' : Option Addr) (n' c' : Nat) (F' : Option Addr) (m' d' : Nat) (O L O2 L2 D2 : List Int) (ee : Int) (hb0 : Nat) : ∀ kq v w w', PhiLf A n c F m d W E A' n' c' F' m' d' O L O2 L2 D2 ee hb0 kq v w → Below w.heap.size w w' → PhiLf A n c F m d W E A' n' c' F' m' d' O L O2 L2 D2 ee hb0 kq v w' := by
  intro kq v w w' h hb
  match kq, h with
  | 0, h => exact h
  | 1, h => exact GDl.below h hb
  | 2, h => exact h
  | 3, h => exact GCl.below h hb
  | 4, h => exact GTu.below h hb
  | 5, h => exact GTu.below h hb
  | 6, h => exact GotCrew.below h hb
  | 7, h => exact h
  | 8, h => exact GNc.below h hb
  | 9, h => exact h
  | 10, h => exact h
  | kq + 11, h => exact trivial
section
variable {A : Option Addr} {n c : Nat} {F : Option Addr} {m d : Nat} {W : List Int} {E : List (Int × Int)} {A' : Option Addr} {n' c' : Nat} {F' : Option Addr} {m' d' : Nat} {O L : List Int}
set_option maxRecDepth 100000 in
set_option maxHeartbeats 16000000 in
theorem fill_bad (K : ListOk) (w0 : World) (hG : IsG w0 A n c F m d W E) (hC : IsC w0 A' n' c' F' m' d' O L) (hf : (n ≤ 70 ∧ m ≤ 300) ∧ n' ≤ 12 ∧ m' ≤ 70) (h0 : ¬ crewE W E O L = 0) : Calls Tryd.prog 6 #[.agg #[.slice A n c, .slice F m d], .agg #[.slice A' n' c', .slice F' m' d']] w0 fun e w' => e = .returned (.bool true) ∧ Below w0.heap.size w0 w' := by
  have HK := Lib.hid K
  have HTW := Lib.hid (fun W (h : Below w0.heap.size w0 W) => Tab64.via hG.tab h)
  have B0 := Lib.hid (BxDC.start hG hC)
  have F1 := Lib.hid (fun W => fewC_any (A := A) (n := n) (c := c) (F := F) (m := m) (d := d) (A' := A') (n' := n') (c' := c') (F' := F') (m' := m') (d' := d') W true ⟨fun _ => hf, fun _ => rfl⟩ (by omega) (by omega) (by omega) (by omega))
  obtain ⟨ee, hee⟩ : ∃ z, crewE W E O L = z := ⟨_, rfl⟩
  obtain ⟨O2, hO2⟩ : ∃ z : List Int, z = [] := ⟨_, rfl⟩
  obtain ⟨L2, hL2⟩ : ∃ z : List Int, z = [] := ⟨_, rfl⟩
  have HFE : Hid (crewE W E O L = ee ∧ fillOc W E O L = O2 ∧ fillLc W E O L = L2) := Lib.hid ⟨hee, by unfold fillOc; rw [if_neg h0, hO2], by unfold fillLc; rw [if_neg h0, hL2]⟩
  have HOL := Lib.hid (And.intro hO2 hL2)
  rw [hee] at h0
  have hnb : (ee != 0) = true := bne_iff_ne.mpr h0
  have hne0 : (ee == 0) = false := by simpa using h0
  clear hee hO2 hL2 h0 hG hC hf K
  go_enter Tryd.func6, Tryd.ntmps6
  go_wp2_with fail
  refine (awakeC_any HK.out _ (HTW.out _ B0.out.bel)).mono ?_
  rintro e y1 ⟨rfl, b⟩
  have B1 := Lib.hid (B0.out.next b)
  clear b
  have q0 := B1.out.d0
  have q1 := B1.out.d1
  have q2 := B1.out.c0
  have q3 := B1.out.c1
  go_wp2_with fail
  refine (F1.out _).mono ?_
  rintro e y2 ⟨rfl, b⟩
  have B2 := Lib.hid (B1.out.next b)
  clear b q0 q1 q2 q3 B0 B1 F1
  go_wp2_with fail
  refine wp_region_stored 9 [20, 21, 22, 23, 24, 19, 25, 26, 5, 1000, 6] [7, 10] (by kernel_rfl) (by kernel_rfl) (by intro d hd; simp at hd ⊢; omega) (fun x => BxDC w0 A n c F m d W E A' n' c' F' m' d' O L x ∧ Below y2.heap.size y2 x) (PhiLf A n c F m d W E A' n' c' F' m' d' O L O2 L2 [] ee y2.heap.size) (ThX y2 5 O2 L2)
    (fun x y h hb => ⟨h.1.next hb, h.2.trans (hb.mono h.2.size)⟩) (phiLf_below A n c F m d W E A' n' c' F' m' d' O L O2 L2 [] ee y2.heap.size) (⟨B2.out.next (Below.refl _ _).drew, (Below.refl _ _).drew⟩) ?hstep ?hpure ?hstore ?htheta ?hend
  case hstep =>
    intro kq o hkp hkS ho a w hI hA hd K hK
    obtain ⟨ρ, hρ⟩ : ∃ ρ, a.eval = ρ := ⟨_, rfl⟩
    rw [hρ] at hA hd
    match kq, hkp, hkS, ho with
    | 0, _, _, ho =>
      have hoo := Option.some.inj ho
      subst hoo
      exact fx_val hK hρ _ (by have h := hA.tmp 2 (by decide); have h0 := hI.1.d0; have h1 := hI.1.d1; simp [execOp, h, h0, h1, go_sem]) rfl
    | 1, _, _, ho =>
      have hoo := Option.some.inj ho
      subst hoo
      have f0 : (ρ (.tmp 20)) = .agg #[.slice A n c, .slice F m d] := hd ⟨0, .data⟩ (by simp) (by rfl)
      exact fx_call hK hρ 12 _ _ #[.agg #[.slice A n c, .slice F m d]] rfl (by simp only [List.map_toArray, List.map_cons, List.map_nil, hA.const, f0]) (eg_of Tryd.func12 (by kernel_rfl) rfl) ((own_g10 (hI.1.g)).mono fun e w' ⟨A1, c1, F1, d1, he, hd, hb⟩ => ⟨_, he, ⟨A1, c1, F1, d1, rfl, hd⟩, hb⟩)
    | 2, _, _, ho =>
      have hoo := Option.some.inj ho
      subst hoo
      exact fx_val hK hρ _ (by have h := hA.tmp 3 (by decide); have h0 := hI.1.c0; have h1 := hI.1.c1; simp [execOp, h, h0, h1, go_sem]) rfl
    | 3, _, _, ho =>
      have hoo := Option.some.inj ho
      subst hoo
      have f2 : (ρ (.tmp 22)) = .agg #[.slice A' n' c', .slice F' m' d'] := hd ⟨2, .data⟩ (by simp) (by rfl)
      exact fx_call hK hρ 13 _ _ #[.agg #[.slice A' n' c', .slice F' m' d']] rfl (by simp only [List.map_toArray, List.map_cons, List.map_nil, hA.const, f2]) (eg_of Tryd.func13 (by kernel_rfl) rfl) ((ownC_any w (hI.1.k)).mono fun e w' ⟨⟨A1, c1, F1, d1, he, hM⟩, hb⟩ => ⟨_, he, ⟨A1, c1, F1, d1, rfl, hM⟩, hb⟩)
    | 4, _, _, ho =>
      have hoo := Option.some.inj ho
      subst hoo
      have f1 : GDl n m W E (ρ (.tmp 21)) w := hd ⟨1, .data⟩ (by simp) (by rfl)
      have f3 : GCl n' m' O L (ρ (.tmp 23)) w := hd ⟨3, .data⟩ (by simp) (by rfl)
      obtain ⟨A1, c1, F1, d1, f1', hD⟩ := f1
      obtain ⟨A2, c2, F2, d2, f3', hM⟩ := f3
      exact fx_call hK hρ 11 _ _ #[.agg #[.slice A1 n c1, .slice F1 m d1], .agg #[.slice A2 n' c2, .slice F2 m' d2]] rfl (by simp only [List.map_toArray, List.map_cons, List.map_nil, hA.const, f1', f3']) (eg_of Tryd.func11 (by kernel_rfl) rfl) ((HK.out.fill w hD hM).mono fun e w' hg => (by
        obtain ⟨v4, he, hg, hb⟩ := hg
        rw [HFE.out.1] at he
        rw [HFE.out.2.1, HFE.out.2.2] at hg
        obtain ⟨A4, n4, c4, F4, m4, d4, rfl, h4⟩ := hg
        exact ⟨_, he, ⟨A4, n4, c4, F4, m4, d4, rfl, h4⟩, hb⟩))
    | 5, _, _, ho =>
      have hoo := Option.some.inj ho
      subst hoo
      have f4 : GTu O2 L2 ee (ρ (.tmp 24)) w := hd ⟨4, .data⟩ (by simp) (by rfl)
      obtain ⟨A4, n4, c4, F4, m4, d4, f4', h4⟩ := f4
      exact fx_val hK hρ _ (by simp [execOp, f4', go_sem]) ⟨A4, n4, c4, F4, m4, d4, rfl, h4⟩
    | 6, _, _, ho =>
      have hoo := Option.some.inj ho
      subst hoo
      have f5 : GTu O2 L2 ee (ρ (.tmp 19)) w := hd ⟨5, .data⟩ (by simp) (by rfl)
      obtain ⟨A4, n4, c4, F4, m4, d4, f5', h4⟩ := f5
      exact fx_val hK hρ (.agg #[.slice A4 n4 c4, .slice F4 m4 d4]) (by simp [execOp, f5', go_sem]) ⟨A4, n4, c4, F4, m4, d4, rfl, h4⟩
    | 7, _, hkS, _ => exact absurd (by decide) hkS
    | 8, _, _, ho =>
      have hoo := Option.some.inj ho
      subst hoo
      exact fx_make hK hρ (.pointer (some ⟨w.heap.size, 0, none⟩)) (w.alloc (.cells #[.slice none 0 0, .slice none 0 0] 27)) (by simp [execOp, go_sem]) ⟨_, rfl, hI.2.size, heap_alloc_new w _⟩ (below_alloc _)
    | 9, hkp, _, _ => exact absurd rfl hkp
    | 10, _, hkS, _ => exact absurd (by decide) hkS
    | kq + 11, _, _, ho => simp at ho
  case hpure =>
    intro kq o hkS ho ρ w hA hd
    simp only [List.mem_cons, List.not_mem_nil, or_false] at hkS
    rcases hkS with rfl | rfl
    · have hoo := Option.some.inj ho
      subst hoo
      obtain ⟨w', A4, n4, c4, F4, m4, d4, f5, _⟩ := hd ⟨5, .data⟩ (by simp) (by rfl) (by decide)
      have f5' : ρ (.tmp 19) = .tuple #[.agg #[.slice A4 n4 c4, .slice F4 m4 d4], .int .i64 ee] := f5
      exact ⟨.int .i64 ee, by simp [execOp, f5', go_sem], fun _ => rfl⟩
    · have hoo := Option.some.inj ho
      subst hoo
      obtain ⟨w', f7⟩ := hd ⟨7, .data⟩ (by simp) (by rfl) (by decide)
      have f7' : ρ (.tmp 26) = .int .i64 ee := f7
      exact ⟨.int .i64 ee, by simp [execOp, f7', go_sem], fun _ => rfl⟩
  case hstore =>
    intro o ho a w hI hA hF K hK
    have hoo := Option.some.inj ho
    subst hoo
    exact stX (slot := 5) rfl rfl rfl (hF 8 (by decide) (by decide) (by decide)) (hF 6 (by decide) (by decide) (by decide)) hI.2 (fun w' h1 _ _ => hK w' h1)
  case htheta =>
    intro f g w h hT
    exact ThX.slot hT (h 8 (by decide) (by decide) (by decide))
  case hend =>
    intro vals1 y3 hT hF
    obtain ⟨gx, Ax, nx, cx, Fx, mx, dx, f5, hb3, _, hx3, hk3⟩ := hT
    have f6 : vals1 6 = .int .i64 ee := (hF 10 (by decide) (by decide)).choose_spec
    simp only [fillA, fillL, List.contains_cons, List.contains_nil, Nat.reduceBEq, Bool.or_false, Bool.false_or, Bool.or_true, Bool.true_or, cond_true, cond_false, Nat.zero_add, Nat.reduceAdd]
    rw [f5, f6]
    have B3 := Lib.hid (B2.out.next hb3)
    have x0 : y3.cell? ⟨gx, 0, none⟩ = some (.slice Ax nx cx) := by rw [cell_of_row _ _ _ _ _ _ hx3]; rfl
    have x1 : y3.cell? ⟨gx, 1, none⟩ = some (.slice Fx mx dx) := by rw [cell_of_row _ _ _ _ _ _ hx3]; rfl
    have HK3 := Lib.hid hk3
    clear hF hb3 hx3 hk3 f5 f6
    go_wp2_with fail
    refine (rsameC_any y3 HK3.out (noC y3)).mono ?_
    rintro e y4 ⟨rfl, b⟩
    have B4 := Lib.hid (B3.out.next b)
    have hd : decide (O2 = [] ∧ L2 = []) = true := decide_eq_true HOL.out
    rw [hd]
    clear b x0 x1 HK3 hd
    go_wp2
    go_ret
    exact ⟨rfl, B4.out.bel⟩
end
def PhiF9t (s0 gx bx ox n' cx ba oa c' k : Nat) (z : Int) : Nat → Value → World → Prop
  | 0, v, w => v = .int .i64 (k : Int)
  | 1, v, w => v = .pointer (some ⟨gx, 0, none⟩)
  | 2, v, w => v = .slice (some ⟨bx, ox, none⟩) n' cx
  | 3, v, w => v = .int .i64 (n' : Int)
  | 4, v, w => v = .bool false
  | 5, v, w => v = .bool false
  | 6, v, w => v = .pointer (some ⟨(s0 + 1), 0, none⟩)
  | 7, v, w => v = .slice (some ⟨ba, oa, none⟩) n' c'
  | 8, v, w => v = .int .i64 (k : Int)
  | 9, v, w => v = .pointer (some ⟨ba, oa + k, none⟩)
  | 10, v, w => v = .int .i64 z
  | 11, v, w => v = .bool true
  | 12, v, w => v = .bool true
  | 13, v, w => v = .pointer (some ⟨gx, 0, none⟩)
  | 14, v, w => v = .slice (some ⟨bx, ox, none⟩) n' cx
  | 15, v, w => v = .int .i64 (k : Int)
  | 16, v, w => v = .pointer (some ⟨bx, ox + k, none⟩)
  | 17, v, w => v = .int .i64 z
  | 18, v, w => v = .pointer (some ⟨(s0 + 1), 0, none⟩)
  | 19, v, w => v = .slice (some ⟨ba, oa, none⟩) n' c'
  | 20, v, w => v = .int .i64 (k : Int)
  | 21, v, w => v = .pointer (some ⟨ba, oa + k, none⟩)
  | 22, v, w => v = .int .i64 z
  | 23, v, w => v = .bool false
  | 24, v, w => v = .bool false
  | 25, v, w => v = .bool false
  | _, _, _ => True
theorem phiF9t_below (s0 gx bx ox n' cx ba oa c' k : Nat) (z : Int) : ∀ kq v w w', PhiF9t s0 gx bx ox n' cx ba oa c' k z kq v w → Below w.heap.size w w' → PhiF9t s0 gx bx ox n' cx ba oa c' k z kq v w' := by
  intro kq v w w' h hb
  match kq, h with
  | 0, h => exact h
  | 1, h => exact h
  | 2, h => exact h
  | 3, h => exact h
  | 4, h => exact h
  | 5, h => exact h
  | 6, h => exact h
  | 7, h => exact h
  | 8, h => exact h
  | 9, h => exact h
  | 10, h => exact h
  | 11, h => exact h
  | 12, h => exact h
  | 13, h => exact h
  | 14, h => exact h
  | 15, h => exact h
  | 16, h => exact h
  | 17, h => exact h
  | 18, h => exact h
  | 19, h => exact h
  | 20, h => exact h
  | 21, h => exact h
  | 22, h => exact h
  | 23, h => exact h
  | 24, h => exact h
  | 25, h => exact h
  | kq + 26, h => exact trivial
def PhiF9f (s0 gx bx ox n' cx ba oa c' k : Nat) (z : Int) : Nat → Value → World → Prop
  | 0, v, w => v = .int .i64 (k : Int)
  | 1, v, w => v = .pointer (some ⟨gx, 0, none⟩)
  | 2, v, w => v = .slice (some ⟨bx, ox, none⟩) n' cx
  | 3, v, w => v = .int .i64 (n' : Int)
  | 4, v, w => v = .bool false
  | 5, v, w => v = .bool false
  | 6, v, w => v = .pointer (some ⟨(s0 + 1), 0, none⟩)
  | 7, v, w => v = .slice (some ⟨ba, oa, none⟩) n' c'
  | 8, v, w => v = .int .i64 (k : Int)
  | 9, v, w => v = .pointer (some ⟨ba, oa + k, none⟩)
  | 10, v, w => v = .int .i64 z
  | 11, v, w => v = .bool false
  | 12, v, w => v = .bool false
  | 13, v, w => True
  | 14, v, w => True
  | 15, v, w => True
  | 16, v, w => True
  | 17, v, w => True
  | 18, v, w => True
  | 19, v, w => True
  | 20, v, w => True
  | 21, v, w => True
  | 22, v, w => True
  | 23, v, w => True
  | 24, v, w => v = .bool false
  | 25, v, w => v = .bool false
  | _, _, _ => True
theorem phiF9f_below (s0 gx bx ox n' cx ba oa c' k : Nat) (z : Int) : ∀ kq v w w', PhiF9f s0 gx bx ox n' cx ba oa c' k z kq v w → Below w.heap.size w w' → PhiF9f s0 gx bx ox n' cx ba oa c' k z kq v w' := by
  intro kq v w w' h hb
  match kq, h with
  | 0, h => exact h
  | 1, h => exact h
  | 2, h => exact h
  | 3, h => exact h
  | 4, h => exact h
  | 5, h => exact h
  | 6, h => exact h
  | 7, h => exact h
  | 8, h => exact h
  | 9, h => exact h
  | 10, h => exact h
  | 11, h => exact h
  | 12, h => exact h
  | 13, h => exact h
  | 14, h => exact h
  | 15, h => exact h
  | 16, h => exact h
  | 17, h => exact h
  | 18, h => exact h
  | 19, h => exact h
  | 20, h => exact h
  | 21, h => exact h
  | 22, h => exact h
  | 23, h => exact h
  | 24, h => exact h
  | 25, h => exact h
  | kq + 26, h => exact trivial
section
variable {A : Option Addr} {n c : Nat} {F : Option Addr} {m d : Nat} {W : List Int} {E : List (Int × Int)} {A' : Option Addr} {n' c' : Nat} {F' : Option Addr} {m' d' : Nat} {O L : List Int}
end
def PhiF12t (A : Option Addr) (n c : Nat) (F : Option Addr) (m d : Nat) (W : List Int) (E : List (Int × Int)) (A' : Option Addr) (n' c' : Nat) (F' : Option Addr) (m' d' : Nat) (O L O2 : List Int) (s0 kz gx : Nat) (Ax : Option Addr) (cx : Nat) (Fx : Option Addr) (dx : Nat) (Ay : Option Addr) (cy : Nat) (Fy : Option Addr) (dy : Nat) : Nat → Value → World → Prop
  | 0, v, w => v = .agg #[.slice A n c, .slice F m d]
  | 1, v, w => GDl n m W E v w
  | 2, v, w => v = .agg #[.slice Ax n' cx, .slice Fx m' dx]
  | 3, v, w => GCl n' m' O2 L v w
  | 4, v, w => GSl kz v w
  | 5, v, w => v = .int .i64 (kz : Int)
  | 6, v, w => v = .bool true
  | 7, v, w => v = .bool true
  | 8, v, w => True
  | 9, v, w => True
  | 10, v, w => True
  | 11, v, w => True
  | 12, v, w => v = .bool true
  | 13, v, w => v = .bool true
  | 14, v, w => v = .pointer (some ⟨gx, 1, none⟩)
  | 15, v, w => v = .slice Fx m' dx
  | 16, v, w => v = .pointer (some ⟨(s0 + 1), 1, none⟩)
  | 17, v, w => v = .slice F' m' d'
  | 18, v, w => v = .bool true
  | 19, v, w => v = .bool true
  | 20, v, w => v = .bool true
  | 21, v, w => v = .agg #[.slice A n c, .slice F m d]
  | 22, v, w => GDl n m W E v w
  | 23, v, w => v = .agg #[.slice Ax n' cx, .slice Fx m' dx]
  | 24, v, w => GCl n' m' O2 L v w
  | 25, v, w => v = .int .i64 0
  | 26, v, w => v = .bool true
  | 27, v, w => v = .bool true
  | 28, v, w => v = .bool true
  | 29, v, w => v = .int .i64 0
  | 30, v, w => v = .bool true
  | 31, v, w => v = .bool true
  | 32, v, w => v = .bool true
  | 33, v, w => v = .agg #[.slice Ay n' cy, .slice Fy m' dy]
  | 34, v, w => v = .agg #[.slice Ax n' cx, .slice Fx m' dx]
  | 35, v, w => v = .bool true
  | 36, v, w => v = .bool true
  | 37, v, w => v = .bool true
  | _, _, _ => True
theorem phiF12t_below (A : Option Addr) (n c : Nat) (F : Option Addr) (m d : Nat) (W : List Int) (E : List (Int × Int)) (A' : Option Addr) (n' c' : Nat) (F' : Option Addr) (m' d' : Nat) (O L O2 : List Int) (s0 kz gx : Nat) (Ax : Option Addr) (cx : Nat) (Fx : Option Addr) (dx : Nat) (Ay : Option Addr) (cy : Nat) (Fy : Option Addr) (dy : Nat) : ∀ kq v w w', PhiF12t A n c F m d W E A' n' c' F' m' d' O L O2 s0 kz gx Ax cx Fx dx Ay cy Fy dy kq v w → Below w.heap.size w w' → PhiF12t A n c F m d W E A' n' c' F' m' d' O L O2 s0 kz gx Ax cx Fx dx Ay cy Fy dy kq v w' := by
  intro kq v w w' h hb
  match kq, h with
  | 0, h => exact h
  | 1, h => exact GDl.below h hb
  | 2, h => exact h
  | 3, h => exact GCl.below h hb
  | 4, h => exact h
  | 5, h => exact h
  | 6, h => exact h
  | 7, h => exact h
  | 8, h => exact h
  | 9, h => exact h
  | 10, h => exact h
  | 11, h => exact h
  | 12, h => exact h
  | 13, h => exact h
  | 14, h => exact h
  | 15, h => exact h
  | 16, h => exact h
  | 17, h => exact h
  | 18, h => exact h
  | 19, h => exact h
  | 20, h => exact h
  | 21, h => exact h
  | 22, h => exact GDl.below h hb
  | 23, h => exact h
  | 24, h => exact GCl.below h hb
  | 25, h => exact h
  | 26, h => exact h
  | 27, h => exact h
  | 28, h => exact h
  | 29, h => exact h
  | 30, h => exact h
  | 31, h => exact h
  | 32, h => exact h
  | 33, h => exact h
  | 34, h => exact h
  | 35, h => exact h
  | 36, h => exact h
  | 37, h => exact h
  | kq + 38, h => exact trivial
def PhiF12f (A : Option Addr) (n c : Nat) (F : Option Addr) (m d : Nat) (W : List Int) (E : List (Int × Int)) (A' : Option Addr) (n' c' : Nat) (F' : Option Addr) (m' d' : Nat) (O L O2 : List Int) (s0 kz gx : Nat) (Ax : Option Addr) (cx : Nat) (Fx : Option Addr) (dx : Nat) (Ay : Option Addr) (cy : Nat) (Fy : Option Addr) (dy : Nat) : Nat → Value → World → Prop
  | 0, v, w => v = .agg #[.slice A n c, .slice F m d]
  | 1, v, w => GDl n m W E v w
  | 2, v, w => v = .agg #[.slice Ax n' cx, .slice Fx m' dx]
  | 3, v, w => GCl n' m' O2 L v w
  | 4, v, w => GSl kz v w
  | 5, v, w => v = .int .i64 (kz : Int)
  | 6, v, w => v = .bool false
  | 7, v, w => v = .bool false
  | 8, v, w => v = .pointer (some ⟨gx, 0, none⟩)
  | 9, v, w => v = .slice Ax n' cx
  | 10, v, w => v = .bool false
  | 11, v, w => v = .bool true
  | 12, v, w => v = .bool true
  | 13, v, w => v = .bool true
  | 14, v, w => v = .pointer (some ⟨gx, 1, none⟩)
  | 15, v, w => v = .slice Fx m' dx
  | 16, v, w => v = .pointer (some ⟨(s0 + 1), 1, none⟩)
  | 17, v, w => v = .slice F' m' d'
  | 18, v, w => v = .bool true
  | 19, v, w => v = .bool true
  | 20, v, w => v = .bool true
  | 21, v, w => v = .agg #[.slice A n c, .slice F m d]
  | 22, v, w => GDl n m W E v w
  | 23, v, w => v = .agg #[.slice Ax n' cx, .slice Fx m' dx]
  | 24, v, w => GCl n' m' O2 L v w
  | 25, v, w => v = .int .i64 0
  | 26, v, w => v = .bool true
  | 27, v, w => v = .bool true
  | 28, v, w => v = .bool true
  | 29, v, w => v = .int .i64 0
  | 30, v, w => v = .bool true
  | 31, v, w => v = .bool true
  | 32, v, w => v = .bool true
  | 33, v, w => v = .agg #[.slice Ay n' cy, .slice Fy m' dy]
  | 34, v, w => v = .agg #[.slice Ax n' cx, .slice Fx m' dx]
  | 35, v, w => v = .bool true
  | 36, v, w => v = .bool true
  | 37, v, w => v = .bool true
  | _, _, _ => True
theorem phiF12f_below (A : Option Addr) (n c : Nat) (F : Option Addr) (m d : Nat) (W : List Int) (E : List (Int × Int)) (A' : Option Addr) (n' c' : Nat) (F' : Option Addr) (m' d' : Nat) (O L O2 : List Int) (s0 kz gx : Nat) (Ax : Option Addr) (cx : Nat) (Fx : Option Addr) (dx : Nat) (Ay : Option Addr) (cy : Nat) (Fy : Option Addr) (dy : Nat) : ∀ kq v w w', PhiF12f A n c F m d W E A' n' c' F' m' d' O L O2 s0 kz gx Ax cx Fx dx Ay cy Fy dy kq v w → Below w.heap.size w w' → PhiF12f A n c F m d W E A' n' c' F' m' d' O L O2 s0 kz gx Ax cx Fx dx Ay cy Fy dy kq v w' := by
  intro kq v w w' h hb
  match kq, h with
  | 0, h => exact h
  | 1, h => exact GDl.below h hb
  | 2, h => exact h
  | 3, h => exact GCl.below h hb
  | 4, h => exact h
  | 5, h => exact h
  | 6, h => exact h
  | 7, h => exact h
  | 8, h => exact h
  | 9, h => exact h
  | 10, h => exact h
  | 11, h => exact h
  | 12, h => exact h
  | 13, h => exact h
  | 14, h => exact h
  | 15, h => exact h
  | 16, h => exact h
  | 17, h => exact h
  | 18, h => exact h
  | 19, h => exact h
  | 20, h => exact h
  | 21, h => exact h
  | 22, h => exact GDl.below h hb
  | 23, h => exact h
  | 24, h => exact GCl.below h hb
  | 25, h => exact h
  | 26, h => exact h
  | 27, h => exact h
  | 28, h => exact h
  | 29, h => exact h
  | 30, h => exact h
  | 31, h => exact h
  | 32, h => exact h
  | 33, h => exact h
  | 34, h => exact h
  | 35, h => exact h
  | 36, h => exact h
  | 37, h => exact h
  | kq + 38, h => exact trivial
section
variable {A : Option Addr} {n c : Nat} {F : Option Addr} {m d : Nat} {W : List Int} {E : List (Int × Int)} {A' : Option Addr} {n' c' : Nat} {F' : Option Addr} {m' d' : Nat} {O L : List Int}
set_option maxRecDepth 100000 in
set_option maxHeartbeats 16000000 in
theorem fill_good (K : ListOk) (w0 : World) (hG : IsG w0 A n c F m d W E) (hC : IsC w0 A' n' c' F' m' d' O L) (hf : (n ≤ 70 ∧ m ≤ 300) ∧ n' ≤ 12 ∧ m' ≤ 70) (h0 : crewE W E O L = 0) : Calls Tryd.prog 6 #[.agg #[.slice A n c, .slice F m d], .agg #[.slice A' n' c', .slice F' m' d']] w0 fun e w' => e = .returned (.bool true) ∧ Below w0.heap.size w0 w' := by
  have HK := Lib.hid K
  have HTW := Lib.hid (fun W (h : Below w0.heap.size w0 W) => Tab64.via hG.tab h)
  have B0 := Lib.hid (BxDC.start hG hC)
  have F1 := Lib.hid (fun W => fewC_any (A := A) (n := n) (c := c) (F := F) (m := m) (d := d) (A' := A') (n' := n') (c' := c') (F' := F') (m' := m') (d' := d') W true ⟨fun _ => hf, fun _ => rfl⟩ (by omega) (by omega) (by omega) (by omega))
  obtain ⟨O2, hO2⟩ : ∃ z, fillC n E L O = z := ⟨_, rfl⟩
  obtain ⟨hM, hOK⟩ := crewE_zero.mp h0
  rw [hG.hn] at hOK
  have HFF : Hid (O2.length = O.length ∧ (∀ j, O.getD j 0 ≠ -1 → O2.getD j 0 = O.getD j 0) ∧ (readyU n E O2 L = [] ∨ (-1) ∉ O2) ∧ CrewOk n E O2 L ∧ fillC n E L O2 = O2) := Lib.hid (by rw [← hO2]; exact fill_facts hOK)
  have HFE : Hid (crewE W E O L = 0 ∧ fillOc W E O L = O2 ∧ fillLc W E O L = L) := Lib.hid ⟨h0, by unfold fillOc; rw [if_pos h0, hG.hn]; exact hO2, by unfold fillLc; rw [if_pos h0]⟩
  have HFE2 : Hid (crewE W E O2 L = 0 ∧ fillOc W E O2 L = O2 ∧ fillLc W E O2 L = L) := Lib.hid (by
    have h1 : crewE W E O2 L = 0 := crewE_zero.mpr ⟨hM, by rw [hG.hn]; exact HFF.out.2.2.2.1⟩
    exact ⟨h1, by unfold fillOc; rw [if_pos h1, hG.hn]; exact HFF.out.2.2.2.2, by unfold fillLc; rw [if_pos h1]⟩)
  obtain ⟨kz, hkz⟩ : ∃ k, (readyV W E O2 L).length = k := ⟨_, rfl⟩
  have HKZ := Lib.hid hkz
  have HRZ : Hid (¬ kz = 0 → (-1) ∉ O2) := Lib.hid (fun h => by
    rcases HFF.out.2.2.1 with h1 | h1
    · refine absurd ?_ h
      rw [← hkz]
      unfold readyV
      rw [if_pos HFE2.out.1, hG.hn]
      unfold readyW
      rw [h1]
      rfl
    · exact h1)
  clear hkz
  have HM := Lib.hid hM
  have HOL := Lib.hid (And.intro hC.hn hC.hm)
  have HGN := Lib.hid hG.hn
  have hlim : n' ≤ 12 := hf.2.1
  clear hO2 h0 hM hOK hG hC hf K
  go_enter Tryd.func6, Tryd.ntmps6
  go_wp2_with fail
  refine (awakeC_any HK.out _ (HTW.out _ B0.out.bel)).mono ?_
  rintro e y1 ⟨rfl, b⟩
  have B1 := Lib.hid (B0.out.next b)
  clear b
  have q0 := B1.out.d0
  have q1 := B1.out.d1
  have q2 := B1.out.c0
  have q3 := B1.out.c1
  go_wp2_with fail
  refine (F1.out _).mono ?_
  rintro e y2 ⟨rfl, b⟩
  have B2 := Lib.hid (B1.out.next b)
  clear b q0 q1 q2 q3 B0 B1 F1
  go_wp2_with fail
  refine wp_region_stored 9 [20, 21, 22, 23, 24, 19, 25, 26, 5, 1000, 6] [7, 10] (by kernel_rfl) (by kernel_rfl) (by intro d hd; simp at hd ⊢; omega) (fun x => BxDC w0 A n c F m d W E A' n' c' F' m' d' O L x ∧ Below y2.heap.size y2 x) (PhiLf A n c F m d W E A' n' c' F' m' d' O L O2 L [] 0 y2.heap.size) (ThX y2 5 O2 L)
    (fun x y h hb => ⟨h.1.next hb, h.2.trans (hb.mono h.2.size)⟩) (phiLf_below A n c F m d W E A' n' c' F' m' d' O L O2 L [] 0 y2.heap.size) (⟨B2.out.next (Below.refl _ _).drew, (Below.refl _ _).drew⟩) ?hstep ?hpure ?hstore ?htheta ?hend
  case hstep =>
    intro kq o hkp hkS ho a w hI hA hd K hK
    obtain ⟨ρ, hρ⟩ : ∃ ρ, a.eval = ρ := ⟨_, rfl⟩
    rw [hρ] at hA hd
    match kq, hkp, hkS, ho with
    | 0, _, _, ho =>
      have hoo := Option.some.inj ho
      subst hoo
      exact fx_val hK hρ _ (by have h := hA.tmp 2 (by decide); have h0 := hI.1.d0; have h1 := hI.1.d1; simp [execOp, h, h0, h1, go_sem]) rfl
    | 1, _, _, ho =>
      have hoo := Option.some.inj ho
      subst hoo
      have f0 : (ρ (.tmp 20)) = .agg #[.slice A n c, .slice F m d] := hd ⟨0, .data⟩ (by simp) (by rfl)
      exact fx_call hK hρ 12 _ _ #[.agg #[.slice A n c, .slice F m d]] rfl (by simp only [List.map_toArray, List.map_cons, List.map_nil, hA.const, f0]) (eg_of Tryd.func12 (by kernel_rfl) rfl) ((own_g10 (hI.1.g)).mono fun e w' ⟨A1, c1, F1, d1, he, hd, hb⟩ => ⟨_, he, ⟨A1, c1, F1, d1, rfl, hd⟩, hb⟩)
    | 2, _, _, ho =>
      have hoo := Option.some.inj ho
      subst hoo
      exact fx_val hK hρ _ (by have h := hA.tmp 3 (by decide); have h0 := hI.1.c0; have h1 := hI.1.c1; simp [execOp, h, h0, h1, go_sem]) rfl
    | 3, _, _, ho =>
      have hoo := Option.some.inj ho
      subst hoo
      have f2 : (ρ (.tmp 22)) = .agg #[.slice A' n' c', .slice F' m' d'] := hd ⟨2, .data⟩ (by simp) (by rfl)
      exact fx_call hK hρ 13 _ _ #[.agg #[.slice A' n' c', .slice F' m' d']] rfl (by simp only [List.map_toArray, List.map_cons, List.map_nil, hA.const, f2]) (eg_of Tryd.func13 (by kernel_rfl) rfl) ((ownC_any w (hI.1.k)).mono fun e w' ⟨⟨A1, c1, F1, d1, he, hM⟩, hb⟩ => ⟨_, he, ⟨A1, c1, F1, d1, rfl, hM⟩, hb⟩)
    | 4, _, _, ho =>
      have hoo := Option.some.inj ho
      subst hoo
      have f1 : GDl n m W E (ρ (.tmp 21)) w := hd ⟨1, .data⟩ (by simp) (by rfl)
      have f3 : GCl n' m' O L (ρ (.tmp 23)) w := hd ⟨3, .data⟩ (by simp) (by rfl)
      obtain ⟨A1, c1, F1, d1, f1', hD⟩ := f1
      obtain ⟨A2, c2, F2, d2, f3', hM⟩ := f3
      exact fx_call hK hρ 11 _ _ #[.agg #[.slice A1 n c1, .slice F1 m d1], .agg #[.slice A2 n' c2, .slice F2 m' d2]] rfl (by simp only [List.map_toArray, List.map_cons, List.map_nil, hA.const, f1', f3']) (eg_of Tryd.func11 (by kernel_rfl) rfl) ((HK.out.fill w hD hM).mono fun e w' hg => (by
        obtain ⟨v4, he, hg, hb⟩ := hg
        rw [HFE.out.1] at he
        rw [HFE.out.2.1, HFE.out.2.2] at hg
        obtain ⟨A4, n4, c4, F4, m4, d4, rfl, h4⟩ := hg
        exact ⟨_, he, ⟨A4, n4, c4, F4, m4, d4, rfl, h4⟩, hb⟩))
    | 5, _, _, ho =>
      have hoo := Option.some.inj ho
      subst hoo
      have f4 : GTu O2 L 0 (ρ (.tmp 24)) w := hd ⟨4, .data⟩ (by simp) (by rfl)
      obtain ⟨A4, n4, c4, F4, m4, d4, f4', h4⟩ := f4
      exact fx_val hK hρ _ (by simp [execOp, f4', go_sem]) ⟨A4, n4, c4, F4, m4, d4, rfl, h4⟩
    | 6, _, _, ho =>
      have hoo := Option.some.inj ho
      subst hoo
      have f5 : GTu O2 L 0 (ρ (.tmp 19)) w := hd ⟨5, .data⟩ (by simp) (by rfl)
      obtain ⟨A4, n4, c4, F4, m4, d4, f5', h4⟩ := f5
      exact fx_val hK hρ (.agg #[.slice A4 n4 c4, .slice F4 m4 d4]) (by simp [execOp, f5', go_sem]) ⟨A4, n4, c4, F4, m4, d4, rfl, h4⟩
    | 7, _, hkS, _ => exact absurd (by decide) hkS
    | 8, _, _, ho =>
      have hoo := Option.some.inj ho
      subst hoo
      exact fx_make hK hρ (.pointer (some ⟨w.heap.size, 0, none⟩)) (w.alloc (.cells #[.slice none 0 0, .slice none 0 0] 27)) (by simp [execOp, go_sem]) ⟨_, rfl, hI.2.size, heap_alloc_new w _⟩ (below_alloc _)
    | 9, hkp, _, _ => exact absurd rfl hkp
    | 10, _, hkS, _ => exact absurd (by decide) hkS
    | kq + 11, _, _, ho => simp at ho
  case hpure =>
    intro kq o hkS ho ρ w hA hd
    simp only [List.mem_cons, List.not_mem_nil, or_false] at hkS
    rcases hkS with rfl | rfl
    · have hoo := Option.some.inj ho
      subst hoo
      obtain ⟨w', A4, n4, c4, F4, m4, d4, f5, _⟩ := hd ⟨5, .data⟩ (by simp) (by rfl) (by decide)
      have f5' : ρ (.tmp 19) = .tuple #[.agg #[.slice A4 n4 c4, .slice F4 m4 d4], .int .i64 0] := f5
      exact ⟨.int .i64 0, by simp [execOp, f5', go_sem], fun _ => rfl⟩
    · have hoo := Option.some.inj ho
      subst hoo
      obtain ⟨w', f7⟩ := hd ⟨7, .data⟩ (by simp) (by rfl) (by decide)
      have f7' : ρ (.tmp 26) = .int .i64 0 := f7
      exact ⟨.int .i64 0, by simp [execOp, f7', go_sem], fun _ => rfl⟩
  case hstore =>
    intro o ho a w hI hA hF K hK
    have hoo := Option.some.inj ho
    subst hoo
    exact stX (slot := 5) rfl rfl rfl (hF 8 (by decide) (by decide) (by decide)) (hF 6 (by decide) (by decide) (by decide)) hI.2 (fun w' h1 _ _ => hK w' h1)
  case htheta =>
    intro f g w h hT
    exact ThX.slot hT (h 8 (by decide) (by decide) (by decide))
  case hend =>
    intro vals1 y3 hT hF
    obtain ⟨gx, Ax, nx, cx, Fx, mx, dx, f5, hb3, _, hx3, hk3⟩ := hT
    have f6 : vals1 6 = .int .i64 0 := (hF 10 (by decide) (by decide)).choose_spec
    simp only [fillA, fillL, List.contains_cons, List.contains_nil, Nat.reduceBEq, Bool.or_false, Bool.false_or, Bool.or_true, Bool.true_or, cond_true, cond_false, Nat.zero_add, Nat.reduceAdd]
    rw [f5, f6]
    obtain rfl : n' = nx := by rw [← hk3.hn, HFF.out.1, HOL.out.1]
    obtain rfl : m' = mx := by rw [← hk3.hm, HOL.out.2]
    have B3 : Hid (BxFx w0 A n c F m d W E A' n' c' F' m' d' O L gx Ax cx Fx dx O2 L y3) := Lib.hid ⟨B2.out.next hb3, hx3, hk3⟩
    clear hF hb3 hx3 hk3 f5 f6 B2
    go_wp2
    go_loopw [7] (fun v wr => ∃ k : Nat, k ≤ n' ∧ v = .int .i64 k ∧ Hid (BxFx w0 A n c F m d W E A' n' c' F' m' d' O L gx Ax cx Fx dx O2 L wr)) (fun v _ => n' - (intOf v).toNat)
    case atStart => exact ⟨0, Nat.zero_le _, rfl, B3⟩
    case round =>
      obtain ⟨k, hk, rfl, BL⟩ := hrel
      have q2 := BL.out.b.c0
      by_cases hlt : k < n'
      · obtain ⟨ba, oa, rfl⟩ := ints_some (k := k) BL.out.b.k.on (by rw [HOL.out.1]; exact hlt)
        obtain ⟨bx, ox, rfl⟩ := ints_some (k := k) BL.out.k2.on (by rw [HFF.out.1, HOL.out.1]; exact hlt)
        obtain ⟨z, hz⟩ : ∃ z, O[k]? = some z := ⟨_, List.getElem?_eq_getElem (by rw [HOL.out.1]; exact hlt)⟩
        have HZ1 := Lib.hid hz
        by_cases hz1 : z = -1
        · have HZN : Hid (z = -1) := Lib.hid hz1
          clear hz hz1
          go_wp2_with fail
          refine wp_region_facts' [39, 40, 41, 42, 43, 44, 45, 46, 47, 48, 49, 50, 51, 52, 53, 54, 55, 56, 57, 58, 59, 60, 61, 62, 63, 64] [true, true, true, true, true, true, true, true, true, true, true, true, true, false, false, false, false, false, false, false, false, false, false, false, true, true] [(5, false), (12, false)] (by kernel_rfl) (by kernel_rfl) (by kernel_rfl) (by intro d hd; simp at hd ⊢; omega) (BxFx w0 A n c F m d W E (some ⟨ba, oa, none⟩) n' c' F' m' d' O L gx (some ⟨bx, ox, none⟩) cx Fx dx O2 L) (PhiF9f w0.heap.size gx bx ox n' cx ba oa c' k z)
            (fun x y h hb => h.next hb) (phiF9f_below w0.heap.size gx bx ox n' cx ba oa c' k z) (BL.out.next (Below.refl _ _).drew) (fun p hp v w hv => by
              simp only [List.mem_cons, List.not_mem_nil, or_false] at hp
              rcases hp with rfl | rfl <;> exact hv) (fun kq hkq w => by
              have hlt : kq < 26 := by
                apply Classical.byContradiction
                intro h
                rw [List.getD_eq_getElem?_getD, List.getElem?_eq_none (by simp; omega)] at hkq
                simp at hkq
              match kq, hlt, hkq with
              | 0, _, h => exact absurd h (by decide)
              | 1, _, h => exact absurd h (by decide)
              | 2, _, h => exact absurd h (by decide)
              | 3, _, h => exact absurd h (by decide)
              | 4, _, h => exact absurd h (by decide)
              | 5, _, h => exact absurd h (by decide)
              | 6, _, h => exact absurd h (by decide)
              | 7, _, h => exact absurd h (by decide)
              | 8, _, h => exact absurd h (by decide)
              | 9, _, h => exact absurd h (by decide)
              | 10, _, h => exact absurd h (by decide)
              | 11, _, h => exact absurd h (by decide)
              | 12, _, h => exact absurd h (by decide)
              | 13, _, _ => exact trivial
              | 14, _, _ => exact trivial
              | 15, _, _ => exact trivial
              | 16, _, _ => exact trivial
              | 17, _, _ => exact trivial
              | 18, _, _ => exact trivial
              | 19, _, _ => exact trivial
              | 20, _, _ => exact trivial
              | 21, _, _ => exact trivial
              | 22, _, _ => exact trivial
              | 23, _, _ => exact trivial
              | 24, _, h => exact absurd h (by decide)
              | 25, _, h => exact absurd h (by decide)
              | kq + 26, h, _ => omega) ?hstep ?hend
          case hstep =>
            intro kq o ho hw a w hI hA hd K hK
            obtain ⟨ρ, hρ⟩ : ∃ ρ, a.eval = ρ := ⟨_, rfl⟩
            rw [hρ] at hA hd
            match kq, ho with
            | 0, ho =>
              have hoo := Option.some.inj ho
              subst hoo
              exact fx_val hK hρ (.int .i64 (k : Int)) (by have h := hA.tmp 7 (by decide); simp [execOp, h, go_sem]) rfl
            | 1, ho =>
              have hoo := Option.some.inj ho
              subst hoo
              exact fx_val hK hρ (.pointer (some ⟨gx, 0, none⟩)) (by have h := hA.tmp 5 (by decide); simp [execOp, h, go_sem]) rfl
            | 2, ho =>
              have hoo := Option.some.inj ho
              subst hoo
              have f1 : (ρ (.tmp 40)) = .pointer (some ⟨gx, 0, none⟩) := hd ⟨1, .data⟩ (by simp) (by rfl)
              exact fx_val hK hρ _ (by have h0 := hI.x0; simp [execOp, f1, h0, go_sem]) rfl
            | 3, ho =>
              have hoo := Option.some.inj ho
              subst hoo
              have f2 : (ρ (.tmp 41)) = .slice (some ⟨bx, ox, none⟩) n' cx := hd ⟨2, .data⟩ (by simp) (by rfl)
              exact fx_val hK hρ (.int .i64 (n' : Int)) (by simp [execOp, f2, hA.const, go_sem]) rfl
            | 4, ho =>
              have hoo := Option.some.inj ho
              subst hoo
              have f0 : (ρ (.tmp 39)) = .int .i64 (k : Int) := hd ⟨0, .data⟩ (by simp) (by rfl)
              have f3 : (ρ (.tmp 42)) = .int .i64 (n' : Int) := hd ⟨3, .data⟩ (by simp) (by rfl)
              exact fx_val hK hρ (.bool false) (by simp [execOp, f0, f3, hlt, go_sem]) rfl
            | 5, ho =>
              have hoo := Option.some.inj ho
              subst hoo
              have f4 : (ρ (.tmp 43)) = .bool false := hd ⟨4, .data⟩ (by simp) (by rfl)
              exact fx_val hK hρ (.bool false) (by simp [execOp, f4, hA.const, go_sem]) rfl
            | 6, ho =>
              have hoo := Option.some.inj ho
              subst hoo
              exact fx_val hK hρ (.pointer (some ⟨(w0.heap.size + 1), 0, none⟩)) (by have h := hA.tmp 3 (by decide); simp [execOp, h, go_sem]) rfl
            | 7, ho =>
              have hoo := Option.some.inj ho
              subst hoo
              have f6 : (ρ (.tmp 45)) = .pointer (some ⟨(w0.heap.size + 1), 0, none⟩) := hd ⟨6, .data⟩ (by simp) (by rfl)
              exact fx_val hK hρ _ (by have h0 := hI.b.c0; simp [execOp, f6, h0, go_sem]) rfl
            | 8, ho =>
              have hoo := Option.some.inj ho
              subst hoo
              exact fx_val hK hρ (.int .i64 (k : Int)) (by have h := hA.tmp 7 (by decide); simp [execOp, h, go_sem]) rfl
            | 9, ho =>
              have hoo := Option.some.inj ho
              subst hoo
              have f7 : (ρ (.tmp 46)) = .slice (some ⟨ba, oa, none⟩) n' c' := hd ⟨7, .data⟩ (by simp) (by rfl)
              have f8 : (ρ (.tmp 47)) = .int .i64 (k : Int) := hd ⟨8, .data⟩ (by simp) (by rfl)
              exact fx_val hK hρ (.pointer (some ⟨ba, oa + k, none⟩)) (by simp [execOp, f7, f8, hlt, go_sem]) rfl
            | 10, ho =>
              have hoo := Option.some.inj ho
              subst hoo
              have f9 : (ρ (.tmp 48)) = .pointer (some ⟨ba, oa + k, none⟩) := hd ⟨9, .data⟩ (by simp) (by rfl)
              exact fx_val hK hρ (.int .i64 z) (by have h0 := ints_cell hI.b.k.on HZ1.out; simp [execOp, f9, h0, go_sem]) rfl
            | 11, ho =>
              have hoo := Option.some.inj ho
              subst hoo
              have f10 : (ρ (.tmp 49)) = .int .i64 z := hd ⟨10, .data⟩ (by simp) (by rfl)
              exact fx_val hK hρ (.bool false) (by simp [execOp, f10, HZN.out, hA.const, go_sem]) rfl
            | 12, ho =>
              have hoo := Option.some.inj ho
              subst hoo
              have f11 : (ρ (.tmp 50)) = .bool false := hd ⟨11, .data⟩ (by simp) (by rfl)
              exact fx_val hK hρ (.bool false) (by simp [execOp, f11, hA.const, go_sem]) rfl
            | 13, ho =>
              exact absurd hw (by decide)
            | 14, ho =>
              exact absurd hw (by decide)
            | 15, ho =>
              exact absurd hw (by decide)
            | 16, ho =>
              exact absurd hw (by decide)
            | 17, ho =>
              exact absurd hw (by decide)
            | 18, ho =>
              exact absurd hw (by decide)
            | 19, ho =>
              exact absurd hw (by decide)
            | 20, ho =>
              exact absurd hw (by decide)
            | 21, ho =>
              exact absurd hw (by decide)
            | 22, ho =>
              exact absurd hw (by decide)
            | 23, ho =>
              exact absurd hw (by decide)
            | 24, ho =>
              have hoo := Option.some.inj ho
              subst hoo
              have f12 : (ρ (.tmp 51)) = .bool false := hd ⟨12, .data⟩ (by simp) (by rfl)
              exact fx_val hK hρ (.bool false) (by simp [execOp, f12, hA.const, hA.const, go_sem]) rfl
            | 25, ho =>
              have hoo := Option.some.inj ho
              subst hoo
              have f5 : (ρ (.tmp 44)) = .bool false := hd ⟨5, .data⟩ (by simp) (by rfl)
              have f24 : (ρ (.tmp 63)) = .bool false := hd ⟨24, .data⟩ (by simp) (by rfl)
              exact fx_val hK hρ (.bool false) (by simp [execOp, f5, f24, hA.const, hA.const, go_sem]) rfl
            | kq + 26, ho => simp at ho
          case hend =>
            intro vals9 xw hI hF
            have fz : vals9 64 = .bool false := hF 25 (by decide)
            simp only [fillA, fillL, List.contains_cons, List.contains_nil, Nat.reduceBEq, Bool.or_false, Bool.false_or, Bool.or_true, Bool.true_or, cond_true, cond_false, Nat.zero_add, Nat.reduceAdd]
            rw [fz]
            have BL2 := Lib.hid hI
            clear hF hI fz
            go_wp2
            go_roundw
            case rel => exact ⟨k + 1, by omega, by go_num, BL2⟩
            case measure => simp [intOf]; omega
        · have HZ2 : Hid (O2[k]? = some z) := Lib.hid (by
            have h1 := HFF.out.2.1 k (by rw [List.getD_eq_getElem?_getD, hz]; exact hz1)
            rw [List.getD_eq_getElem?_getD, List.getD_eq_getElem?_getD, hz] at h1
            have h2 : k < O2.length := by rw [HFF.out.1, HOL.out.1]; exact hlt
            rw [List.getElem?_eq_getElem h2] at h1 ⊢
            exact congrArg some h1)
          have HZN : Hid (¬ z = -1) := Lib.hid hz1
          clear hz hz1
          go_wp2_with fail
          refine wp_region_facts' [39, 40, 41, 42, 43, 44, 45, 46, 47, 48, 49, 50, 51, 52, 53, 54, 55, 56, 57, 58, 59, 60, 61, 62, 63, 64] [] [(5, false), (12, true)] (by kernel_rfl) (by kernel_rfl) (by kernel_rfl) (by intro d hd; simp at hd ⊢; omega) (BxFx w0 A n c F m d W E (some ⟨ba, oa, none⟩) n' c' F' m' d' O L gx (some ⟨bx, ox, none⟩) cx Fx dx O2 L) (PhiF9t w0.heap.size gx bx ox n' cx ba oa c' k z)
            (fun x y h hb => h.next hb) (phiF9t_below w0.heap.size gx bx ox n' cx ba oa c' k z) (BL.out.next (Below.refl _ _).drew) (fun p hp v w hv => by
              simp only [List.mem_cons, List.not_mem_nil, or_false] at hp
              rcases hp with rfl | rfl <;> exact hv) (fun kq hkq => by simp at hkq) ?hstep ?hend
          case hstep =>
            intro kq o ho hw a w hI hA hd K hK
            obtain ⟨ρ, hρ⟩ : ∃ ρ, a.eval = ρ := ⟨_, rfl⟩
            rw [hρ] at hA hd
            match kq, ho with
            | 0, ho =>
              have hoo := Option.some.inj ho
              subst hoo
              exact fx_val hK hρ (.int .i64 (k : Int)) (by have h := hA.tmp 7 (by decide); simp [execOp, h, go_sem]) rfl
            | 1, ho =>
              have hoo := Option.some.inj ho
              subst hoo
              exact fx_val hK hρ (.pointer (some ⟨gx, 0, none⟩)) (by have h := hA.tmp 5 (by decide); simp [execOp, h, go_sem]) rfl
            | 2, ho =>
              have hoo := Option.some.inj ho
              subst hoo
              have f1 : (ρ (.tmp 40)) = .pointer (some ⟨gx, 0, none⟩) := hd ⟨1, .data⟩ (by simp) (by rfl)
              exact fx_val hK hρ _ (by have h0 := hI.x0; simp [execOp, f1, h0, go_sem]) rfl
            | 3, ho =>
              have hoo := Option.some.inj ho
              subst hoo
              have f2 : (ρ (.tmp 41)) = .slice (some ⟨bx, ox, none⟩) n' cx := hd ⟨2, .data⟩ (by simp) (by rfl)
              exact fx_val hK hρ (.int .i64 (n' : Int)) (by simp [execOp, f2, hA.const, go_sem]) rfl
            | 4, ho =>
              have hoo := Option.some.inj ho
              subst hoo
              have f0 : (ρ (.tmp 39)) = .int .i64 (k : Int) := hd ⟨0, .data⟩ (by simp) (by rfl)
              have f3 : (ρ (.tmp 42)) = .int .i64 (n' : Int) := hd ⟨3, .data⟩ (by simp) (by rfl)
              exact fx_val hK hρ (.bool false) (by simp [execOp, f0, f3, hlt, go_sem]) rfl
            | 5, ho =>
              have hoo := Option.some.inj ho
              subst hoo
              have f4 : (ρ (.tmp 43)) = .bool false := hd ⟨4, .data⟩ (by simp) (by rfl)
              exact fx_val hK hρ (.bool false) (by simp [execOp, f4, hA.const, go_sem]) rfl
            | 6, ho =>
              have hoo := Option.some.inj ho
              subst hoo
              exact fx_val hK hρ (.pointer (some ⟨(w0.heap.size + 1), 0, none⟩)) (by have h := hA.tmp 3 (by decide); simp [execOp, h, go_sem]) rfl
            | 7, ho =>
              have hoo := Option.some.inj ho
              subst hoo
              have f6 : (ρ (.tmp 45)) = .pointer (some ⟨(w0.heap.size + 1), 0, none⟩) := hd ⟨6, .data⟩ (by simp) (by rfl)
              exact fx_val hK hρ _ (by have h0 := hI.b.c0; simp [execOp, f6, h0, go_sem]) rfl
            | 8, ho =>
              have hoo := Option.some.inj ho
              subst hoo
              exact fx_val hK hρ (.int .i64 (k : Int)) (by have h := hA.tmp 7 (by decide); simp [execOp, h, go_sem]) rfl
            | 9, ho =>
              have hoo := Option.some.inj ho
              subst hoo
              have f7 : (ρ (.tmp 46)) = .slice (some ⟨ba, oa, none⟩) n' c' := hd ⟨7, .data⟩ (by simp) (by rfl)
              have f8 : (ρ (.tmp 47)) = .int .i64 (k : Int) := hd ⟨8, .data⟩ (by simp) (by rfl)
              exact fx_val hK hρ (.pointer (some ⟨ba, oa + k, none⟩)) (by simp [execOp, f7, f8, hlt, go_sem]) rfl
            | 10, ho =>
              have hoo := Option.some.inj ho
              subst hoo
              have f9 : (ρ (.tmp 48)) = .pointer (some ⟨ba, oa + k, none⟩) := hd ⟨9, .data⟩ (by simp) (by rfl)
              exact fx_val hK hρ (.int .i64 z) (by have h0 := ints_cell hI.b.k.on HZ1.out; simp [execOp, f9, h0, go_sem]) rfl
            | 11, ho =>
              have hoo := Option.some.inj ho
              subst hoo
              have f10 : (ρ (.tmp 49)) = .int .i64 z := hd ⟨10, .data⟩ (by simp) (by rfl)
              exact fx_val hK hρ (.bool true) (by simp [execOp, f10, HZN.out, hA.const, go_sem]) rfl
            | 12, ho =>
              have hoo := Option.some.inj ho
              subst hoo
              have f11 : (ρ (.tmp 50)) = .bool true := hd ⟨11, .data⟩ (by simp) (by rfl)
              exact fx_val hK hρ (.bool true) (by simp [execOp, f11, hA.const, go_sem]) rfl
            | 13, ho =>
              have hoo := Option.some.inj ho
              subst hoo
              exact fx_val hK hρ (.pointer (some ⟨gx, 0, none⟩)) (by have h := hA.tmp 5 (by decide); simp [execOp, h, go_sem]) rfl
            | 14, ho =>
              have hoo := Option.some.inj ho
              subst hoo
              have f13 : (ρ (.tmp 52)) = .pointer (some ⟨gx, 0, none⟩) := hd ⟨13, .data⟩ (by simp) (by rfl)
              exact fx_val hK hρ _ (by have h0 := hI.x0; simp [execOp, f13, h0, go_sem]) rfl
            | 15, ho =>
              have hoo := Option.some.inj ho
              subst hoo
              exact fx_val hK hρ (.int .i64 (k : Int)) (by have h := hA.tmp 7 (by decide); simp [execOp, h, go_sem]) rfl
            | 16, ho =>
              have hoo := Option.some.inj ho
              subst hoo
              have f14 : (ρ (.tmp 53)) = .slice (some ⟨bx, ox, none⟩) n' cx := hd ⟨14, .data⟩ (by simp) (by rfl)
              have f15 : (ρ (.tmp 54)) = .int .i64 (k : Int) := hd ⟨15, .data⟩ (by simp) (by rfl)
              exact fx_val hK hρ (.pointer (some ⟨bx, ox + k, none⟩)) (by simp [execOp, f14, f15, hlt, go_sem]) rfl
            | 17, ho =>
              have hoo := Option.some.inj ho
              subst hoo
              have f16 : (ρ (.tmp 55)) = .pointer (some ⟨bx, ox + k, none⟩) := hd ⟨16, .data⟩ (by simp) (by rfl)
              exact fx_val hK hρ (.int .i64 z) (by have h0 := ints_cell hI.k2.on HZ2.out; simp [execOp, f16, h0, go_sem]) rfl
            | 18, ho =>
              have hoo := Option.some.inj ho
              subst hoo
              exact fx_val hK hρ (.pointer (some ⟨(w0.heap.size + 1), 0, none⟩)) (by have h := hA.tmp 3 (by decide); simp [execOp, h, go_sem]) rfl
            | 19, ho =>
              have hoo := Option.some.inj ho
              subst hoo
              have f18 : (ρ (.tmp 57)) = .pointer (some ⟨(w0.heap.size + 1), 0, none⟩) := hd ⟨18, .data⟩ (by simp) (by rfl)
              exact fx_val hK hρ _ (by have h0 := hI.b.c0; simp [execOp, f18, h0, go_sem]) rfl
            | 20, ho =>
              have hoo := Option.some.inj ho
              subst hoo
              exact fx_val hK hρ (.int .i64 (k : Int)) (by have h := hA.tmp 7 (by decide); simp [execOp, h, go_sem]) rfl
            | 21, ho =>
              have hoo := Option.some.inj ho
              subst hoo
              have f19 : (ρ (.tmp 58)) = .slice (some ⟨ba, oa, none⟩) n' c' := hd ⟨19, .data⟩ (by simp) (by rfl)
              have f20 : (ρ (.tmp 59)) = .int .i64 (k : Int) := hd ⟨20, .data⟩ (by simp) (by rfl)
              exact fx_val hK hρ (.pointer (some ⟨ba, oa + k, none⟩)) (by simp [execOp, f19, f20, hlt, go_sem]) rfl
            | 22, ho =>
              have hoo := Option.some.inj ho
              subst hoo
              have f21 : (ρ (.tmp 60)) = .pointer (some ⟨ba, oa + k, none⟩) := hd ⟨21, .data⟩ (by simp) (by rfl)
              exact fx_val hK hρ (.int .i64 z) (by have h0 := ints_cell hI.b.k.on HZ1.out; simp [execOp, f21, h0, go_sem]) rfl
            | 23, ho =>
              have hoo := Option.some.inj ho
              subst hoo
              have f17 : (ρ (.tmp 56)) = .int .i64 z := hd ⟨17, .data⟩ (by simp) (by rfl)
              have f22 : (ρ (.tmp 61)) = .int .i64 z := hd ⟨22, .data⟩ (by simp) (by rfl)
              exact fx_val hK hρ (.bool false) (by simp [execOp, f17, f22, hA.const, go_sem]) rfl
            | 24, ho =>
              have hoo := Option.some.inj ho
              subst hoo
              have f12 : (ρ (.tmp 51)) = .bool true := hd ⟨12, .data⟩ (by simp) (by rfl)
              have f23 : (ρ (.tmp 62)) = .bool false := hd ⟨23, .data⟩ (by simp) (by rfl)
              exact fx_val hK hρ (.bool false) (by simp [execOp, f12, f23, hA.const, hA.const, go_sem]) rfl
            | 25, ho =>
              have hoo := Option.some.inj ho
              subst hoo
              have f5 : (ρ (.tmp 44)) = .bool false := hd ⟨5, .data⟩ (by simp) (by rfl)
              have f24 : (ρ (.tmp 63)) = .bool false := hd ⟨24, .data⟩ (by simp) (by rfl)
              exact fx_val hK hρ (.bool false) (by simp [execOp, f5, f24, hA.const, hA.const, go_sem]) rfl
            | kq + 26, ho => simp at ho
          case hend =>
            intro vals9 xw hI hF
            have fz : vals9 64 = .bool false := hF 25 (by decide)
            simp only [fillA, fillL, List.contains_cons, List.contains_nil, Nat.reduceBEq, Bool.or_false, Bool.false_or, Bool.or_true, Bool.true_or, cond_true, cond_false, Nat.zero_add, Nat.reduceAdd]
            rw [fz]
            have BL2 := Lib.hid hI
            clear hF hI fz
            go_wp2
            go_roundw
            case rel => exact ⟨k + 1, by omega, by go_num, BL2⟩
            case measure => simp [intOf]; omega
      · obtain rfl : n' = k := by omega
        clear B3
        go_wp2_with fail
        refine wp_region_stored 9 [66, 67, 68, 69, 70, 65, 71, 72, 8, 1000, 9] [7, 10] (by kernel_rfl) (by kernel_rfl) (by intro d hd; simp at hd ⊢; omega) (fun x => BxFx w0 A n c F m d W E A' n' c' F' m' d' O L gx Ax cx Fx dx O2 L x ∧ Below wr.heap.size wr x) (PhiLf A n c F m d W E Ax n' cx Fx m' dx O2 L O2 L [] 0 wr.heap.size) (ThX wr 8 O2 L)
          (fun x y h hb => ⟨h.1.next hb, h.2.trans (hb.mono h.2.size)⟩) (phiLf_below A n c F m d W E Ax n' cx Fx m' dx O2 L O2 L [] 0 wr.heap.size) (⟨BL.out.next (Below.refl _ _).drew, (Below.refl _ _).drew⟩) ?hstep ?hpure ?hstore ?htheta ?hend
        case hstep =>
          intro kq o hkp hkS ho a w hI hA hd K hK
          obtain ⟨ρ, hρ⟩ : ∃ ρ, a.eval = ρ := ⟨_, rfl⟩
          rw [hρ] at hA hd
          match kq, hkp, hkS, ho with
          | 0, _, _, ho =>
            have hoo := Option.some.inj ho
            subst hoo
            exact fx_val hK hρ _ (by have h := hA.tmp 2 (by decide); have h0 := hI.1.b.d0; have h1 := hI.1.b.d1; simp [execOp, h, h0, h1, go_sem]) rfl
          | 1, _, _, ho =>
            have hoo := Option.some.inj ho
            subst hoo
            have f0 : (ρ (.tmp 66)) = .agg #[.slice A n c, .slice F m d] := hd ⟨0, .data⟩ (by simp) (by rfl)
            exact fx_call hK hρ 12 _ _ #[.agg #[.slice A n c, .slice F m d]] rfl (by simp only [List.map_toArray, List.map_cons, List.map_nil, hA.const, f0]) (eg_of Tryd.func12 (by kernel_rfl) rfl) ((own_g10 (hI.1.b.g)).mono fun e w' ⟨A1, c1, F1, d1, he, hd, hb⟩ => ⟨_, he, ⟨A1, c1, F1, d1, rfl, hd⟩, hb⟩)
          | 2, _, _, ho =>
            have hoo := Option.some.inj ho
            subst hoo
            exact fx_val hK hρ _ (by have h := hA.tmp 5 (by decide); have h0 := hI.1.x0; have h1 := hI.1.x1; simp [execOp, h, h0, h1, go_sem]) rfl
          | 3, _, _, ho =>
            have hoo := Option.some.inj ho
            subst hoo
            have f2 : (ρ (.tmp 68)) = .agg #[.slice Ax n' cx, .slice Fx m' dx] := hd ⟨2, .data⟩ (by simp) (by rfl)
            exact fx_call hK hρ 13 _ _ #[.agg #[.slice Ax n' cx, .slice Fx m' dx]] rfl (by simp only [List.map_toArray, List.map_cons, List.map_nil, hA.const, f2]) (eg_of Tryd.func13 (by kernel_rfl) rfl) ((ownC_any w (hI.1.k2)).mono fun e w' ⟨⟨A1, c1, F1, d1, he, hM⟩, hb⟩ => ⟨_, he, ⟨A1, c1, F1, d1, rfl, hM⟩, hb⟩)
          | 4, _, _, ho =>
            have hoo := Option.some.inj ho
            subst hoo
            have f1 : GDl n m W E (ρ (.tmp 67)) w := hd ⟨1, .data⟩ (by simp) (by rfl)
            have f3 : GCl n' m' O2 L (ρ (.tmp 69)) w := hd ⟨3, .data⟩ (by simp) (by rfl)
            obtain ⟨A1, c1, F1, d1, f1', hD⟩ := f1
            obtain ⟨A2, c2, F2, d2, f3', hM⟩ := f3
            exact fx_call hK hρ 11 _ _ #[.agg #[.slice A1 n c1, .slice F1 m d1], .agg #[.slice A2 n' c2, .slice F2 m' d2]] rfl (by simp only [List.map_toArray, List.map_cons, List.map_nil, hA.const, f1', f3']) (eg_of Tryd.func11 (by kernel_rfl) rfl) ((HK.out.fill w hD hM).mono fun e w' hg => (by
              obtain ⟨v4, he, hg, hb⟩ := hg
              rw [HFE2.out.1] at he
              rw [HFE2.out.2.1, HFE2.out.2.2] at hg
              obtain ⟨A4, n4, c4, F4, m4, d4, rfl, h4⟩ := hg
              exact ⟨_, he, ⟨A4, n4, c4, F4, m4, d4, rfl, h4⟩, hb⟩))
          | 5, _, _, ho =>
            have hoo := Option.some.inj ho
            subst hoo
            have f4 : GTu O2 L 0 (ρ (.tmp 70)) w := hd ⟨4, .data⟩ (by simp) (by rfl)
            obtain ⟨A4, n4, c4, F4, m4, d4, f4', h4⟩ := f4
            exact fx_val hK hρ _ (by simp [execOp, f4', go_sem]) ⟨A4, n4, c4, F4, m4, d4, rfl, h4⟩
          | 6, _, _, ho =>
            have hoo := Option.some.inj ho
            subst hoo
            have f5 : GTu O2 L 0 (ρ (.tmp 65)) w := hd ⟨5, .data⟩ (by simp) (by rfl)
            obtain ⟨A4, n4, c4, F4, m4, d4, f5', h4⟩ := f5
            exact fx_val hK hρ (.agg #[.slice A4 n4 c4, .slice F4 m4 d4]) (by simp [execOp, f5', go_sem]) ⟨A4, n4, c4, F4, m4, d4, rfl, h4⟩
          | 7, _, hkS, _ => exact absurd (by decide) hkS
          | 8, _, _, ho =>
            have hoo := Option.some.inj ho
            subst hoo
            exact fx_make hK hρ (.pointer (some ⟨w.heap.size, 0, none⟩)) (w.alloc (.cells #[.slice none 0 0, .slice none 0 0] 27)) (by simp [execOp, go_sem]) ⟨_, rfl, hI.2.size, heap_alloc_new w _⟩ (below_alloc _)
          | 9, hkp, _, _ => exact absurd rfl hkp
          | 10, _, hkS, _ => exact absurd (by decide) hkS
          | kq + 11, _, _, ho => simp at ho
        case hpure =>
          intro kq o hkS ho ρ w hA hd
          simp only [List.mem_cons, List.not_mem_nil, or_false] at hkS
          rcases hkS with rfl | rfl
          · have hoo := Option.some.inj ho
            subst hoo
            obtain ⟨w', A4, n4, c4, F4, m4, d4, f5, _⟩ := hd ⟨5, .data⟩ (by simp) (by rfl) (by decide)
            have f5' : ρ (.tmp 65) = .tuple #[.agg #[.slice A4 n4 c4, .slice F4 m4 d4], .int .i64 0] := f5
            exact ⟨.int .i64 0, by simp [execOp, f5', go_sem], fun _ => rfl⟩
          · have hoo := Option.some.inj ho
            subst hoo
            obtain ⟨w', f7⟩ := hd ⟨7, .data⟩ (by simp) (by rfl) (by decide)
            have f7' : ρ (.tmp 72) = .int .i64 0 := f7
            exact ⟨.int .i64 0, by simp [execOp, f7', go_sem], fun _ => rfl⟩
        case hstore =>
          intro o ho a w hI hA hF K hK
          have hoo := Option.some.inj ho
          subst hoo
          exact stX (slot := 8) rfl rfl rfl (hF 8 (by decide) (by decide) (by decide)) (hF 6 (by decide) (by decide) (by decide)) hI.2 (fun w' h1 _ _ => hK w' h1)
        case htheta =>
          intro f g w h hT
          exact ThX.slot hT (h 8 (by decide) (by decide) (by decide))
        case hend =>
          intro vals11 y7 hT hF
          obtain ⟨gy, Ay, ny, cy, Fy, my, dy, f8, hb7, _, hx7, hk7⟩ := hT
          have f9 : vals11 9 = .int .i64 0 := (hF 10 (by decide) (by decide)).choose_spec
          simp only [fillA, fillL, List.contains_cons, List.contains_nil, Nat.reduceBEq, Bool.or_false, Bool.false_or, Bool.or_true, Bool.true_or, cond_true, cond_false, Nat.zero_add, Nat.reduceAdd]
          rw [f8, f9]
          obtain rfl : n' = ny := by rw [← hk7.hn, HFF.out.1, HOL.out.1]
          obtain rfl : m' = my := by rw [← hk7.hm, HOL.out.2]
          have B7 : Hid (BxFy w0 A n c F m d W E A' n' c' F' m' d' O L gx Ax cx Fx dx O2 L gy Ay cy Fy dy y7) := Lib.hid ⟨BL.out.next hb7, hx7, hk7⟩
          clear hF hb7 hx7 hk7 f8 f9 BL
          by_cases hkz : kz = 0
          · have HT0 : Hid (kz = 0) := Lib.hid hkz
            clear hkz
            go_wp2_with fail
            refine wp_region_facts' [73, 74, 75, 76, 77, 78, 79, 80, 81, 82, 83, 84, 85, 86, 87, 88, 89, 90, 91, 92, 93, 94, 95, 96, 97, 98, 99, 100, 101, 102, 103, 104, 105, 106, 107, 108, 109, 4] [true, true, true, true, true, true, true, true, false, false, false, false, true, true, true, true, true, true, true, true, true, true, true, true, true, true, true, true, true, true, true, true, true, true, true, true, true, true] [(7, true), (13, true), (20, true), (28, true), (32, true)] (by kernel_rfl) (by kernel_rfl) (by kernel_rfl) (by intro d hd; simp at hd ⊢; omega) (BxFy w0 A n c F m d W E A' n' c' F' m' d' O L gx Ax cx Fx dx O2 L gy Ay cy Fy dy) (PhiF12t A n c F m d W E A' n' c' F' m' d' O L O2 w0.heap.size kz gx Ax cx Fx dx Ay cy Fy dy)
              (fun x y h hb => h.next hb) (phiF12t_below A n c F m d W E A' n' c' F' m' d' O L O2 w0.heap.size kz gx Ax cx Fx dx Ay cy Fy dy) (B7.out.next (Below.refl _ _).drew) (fun p hp v w hv => by
                simp only [List.mem_cons, List.not_mem_nil, or_false] at hp
                rcases hp with rfl | rfl | rfl | rfl | rfl <;> exact hv) (fun kq hkq w => by
                have hlt : kq < 38 := by
                  apply Classical.byContradiction
                  intro h
                  rw [List.getD_eq_getElem?_getD, List.getElem?_eq_none (by simp; omega)] at hkq
                  simp at hkq
                match kq, hlt, hkq with
                | 0, _, h => exact absurd h (by decide)
                | 1, _, h => exact absurd h (by decide)
                | 2, _, h => exact absurd h (by decide)
                | 3, _, h => exact absurd h (by decide)
                | 4, _, h => exact absurd h (by decide)
                | 5, _, h => exact absurd h (by decide)
                | 6, _, h => exact absurd h (by decide)
                | 7, _, h => exact absurd h (by decide)
                | 8, _, _ => exact trivial
                | 9, _, _ => exact trivial
                | 10, _, _ => exact trivial
                | 11, _, _ => exact trivial
                | 12, _, h => exact absurd h (by decide)
                | 13, _, h => exact absurd h (by decide)
                | 14, _, h => exact absurd h (by decide)
                | 15, _, h => exact absurd h (by decide)
                | 16, _, h => exact absurd h (by decide)
                | 17, _, h => exact absurd h (by decide)
                | 18, _, h => exact absurd h (by decide)
                | 19, _, h => exact absurd h (by decide)
                | 20, _, h => exact absurd h (by decide)
                | 21, _, h => exact absurd h (by decide)
                | 22, _, h => exact absurd h (by decide)
                | 23, _, h => exact absurd h (by decide)
                | 24, _, h => exact absurd h (by decide)
                | 25, _, h => exact absurd h (by decide)
                | 26, _, h => exact absurd h (by decide)
                | 27, _, h => exact absurd h (by decide)
                | 28, _, h => exact absurd h (by decide)
                | 29, _, h => exact absurd h (by decide)
                | 30, _, h => exact absurd h (by decide)
                | 31, _, h => exact absurd h (by decide)
                | 32, _, h => exact absurd h (by decide)
                | 33, _, h => exact absurd h (by decide)
                | 34, _, h => exact absurd h (by decide)
                | 35, _, h => exact absurd h (by decide)
                | 36, _, h => exact absurd h (by decide)
                | 37, _, h => exact absurd h (by decide)
                | kq + 38, h, _ => omega) ?hstep ?hend
            case hstep =>
              intro kq o ho hw a w hI hA hd K hK
              obtain ⟨ρ, hρ⟩ : ∃ ρ, a.eval = ρ := ⟨_, rfl⟩
              rw [hρ] at hA hd
              match kq, ho with
              | 0, ho =>
                have hoo := Option.some.inj ho
                subst hoo
                exact fx_val hK hρ _ (by have h := hA.tmp 2 (by decide); have h0 := hI.f.b.d0; have h1 := hI.f.b.d1; simp [execOp, h, h0, h1, go_sem]) rfl
              | 1, ho =>
                have hoo := Option.some.inj ho
                subst hoo
                have f0 : (ρ (.tmp 73)) = .agg #[.slice A n c, .slice F m d] := hd ⟨0, .data⟩ (by simp) (by rfl)
                exact fx_call hK hρ 12 _ _ #[.agg #[.slice A n c, .slice F m d]] rfl (by simp only [List.map_toArray, List.map_cons, List.map_nil, hA.const, f0]) (eg_of Tryd.func12 (by kernel_rfl) rfl) ((own_g10 (hI.f.b.g)).mono fun e w' ⟨A1, c1, F1, d1, he, hd, hb⟩ => ⟨_, he, ⟨A1, c1, F1, d1, rfl, hd⟩, hb⟩)
              | 2, ho =>
                have hoo := Option.some.inj ho
                subst hoo
                exact fx_val hK hρ _ (by have h := hA.tmp 5 (by decide); have h0 := hI.f.x0; have h1 := hI.f.x1; simp [execOp, h, h0, h1, go_sem]) rfl
              | 3, ho =>
                have hoo := Option.some.inj ho
                subst hoo
                have f2 : (ρ (.tmp 75)) = .agg #[.slice Ax n' cx, .slice Fx m' dx] := hd ⟨2, .data⟩ (by simp) (by rfl)
                exact fx_call hK hρ 13 _ _ #[.agg #[.slice Ax n' cx, .slice Fx m' dx]] rfl (by simp only [List.map_toArray, List.map_cons, List.map_nil, hA.const, f2]) (eg_of Tryd.func13 (by kernel_rfl) rfl) ((ownC_any w (hI.f.k2)).mono fun e w' ⟨⟨A1, c1, F1, d1, he, hM⟩, hb⟩ => ⟨_, he, ⟨A1, c1, F1, d1, rfl, hM⟩, hb⟩)
              | 4, ho =>
                have hoo := Option.some.inj ho
                subst hoo
                have f1 : GDl n m W E (ρ (.tmp 74)) w := hd ⟨1, .data⟩ (by simp) (by rfl)
                have f3 : GCl n' m' O2 L (ρ (.tmp 76)) w := hd ⟨3, .data⟩ (by simp) (by rfl)
                obtain ⟨A1, c1, F1, d1, f1', hD⟩ := f1
                obtain ⟨A2, c2, F2, d2, f3', hM⟩ := f3
                exact fx_call hK hρ 15 _ _ #[.agg #[.slice A1 n c1, .slice F1 m d1], .agg #[.slice A2 n' c2, .slice F2 m' d2]] rfl (by simp only [List.map_toArray, List.map_cons, List.map_nil, hA.const, f1', f3']) (eg_of Tryd.func15 (by kernel_rfl) rfl) ((HK.out.ready w hD hM).mono fun e w' hg => (by
              obtain ⟨v4, he, hg, hb⟩ := hg
              obtain ⟨A5, c5, rfl, h5⟩ := hg
              rw [HKZ.out] at he
              exact ⟨_, he, ⟨A5, c5, rfl⟩, hb⟩))
              | 5, ho =>
                have hoo := Option.some.inj ho
                subst hoo
                have f4 : GSl kz (ρ (.tmp 77)) w := hd ⟨4, .data⟩ (by simp) (by rfl)
                obtain ⟨A5, c5, f4'⟩ := f4
                exact fx_val hK hρ (.int .i64 (kz : Int)) (by simp [execOp, f4', go_sem]) rfl
              | 6, ho =>
                have hoo := Option.some.inj ho
                subst hoo
                have f5 : (ρ (.tmp 78)) = .int .i64 (kz : Int) := hd ⟨5, .data⟩ (by simp) (by rfl)
                exact fx_val hK hρ (.bool true) (by simp [execOp, f5, HT0.out, hA.const, go_sem]) rfl
              | 7, ho =>
                have hoo := Option.some.inj ho
                subst hoo
                have f6 : (ρ (.tmp 79)) = .bool true := hd ⟨6, .data⟩ (by simp) (by rfl)
                exact fx_val hK hρ (.bool true) (by simp [execOp, f6, hA.const, go_sem]) rfl
              | 8, ho =>
                exact absurd hw (by decide)
              | 9, ho =>
                exact absurd hw (by decide)
              | 10, ho =>
                exact absurd hw (by decide)
              | 11, ho =>
                exact absurd hw (by decide)
              | 12, ho =>
                have hoo := Option.some.inj ho
                subst hoo
                have f7 : (ρ (.tmp 80)) = .bool true := hd ⟨7, .data⟩ (by simp) (by rfl)
                exact fx_val hK hρ (.bool true) (by simp [execOp, f7, hA.const, hA.const, go_sem]) rfl
              | 13, ho =>
                have hoo := Option.some.inj ho
                subst hoo
                have f12 : (ρ (.tmp 85)) = .bool true := hd ⟨12, .data⟩ (by simp) (by rfl)
                exact fx_val hK hρ (.bool true) (by simp [execOp, f12, hA.const, go_sem]) rfl
              | 14, ho =>
                have hoo := Option.some.inj ho
                subst hoo
                exact fx_val hK hρ (.pointer (some ⟨gx, 1, none⟩)) (by have h := hA.tmp 5 (by decide); simp [execOp, h, go_sem]) rfl
              | 15, ho =>
                have hoo := Option.some.inj ho
                subst hoo
                have f14 : (ρ (.tmp 87)) = .pointer (some ⟨gx, 1, none⟩) := hd ⟨14, .data⟩ (by simp) (by rfl)
                exact fx_val hK hρ _ (by have h0 := hI.f.x1; simp [execOp, f14, h0, go_sem]) rfl
              | 16, ho =>
                have hoo := Option.some.inj ho
                subst hoo
                exact fx_val hK hρ (.pointer (some ⟨(w0.heap.size + 1), 1, none⟩)) (by have h := hA.tmp 3 (by decide); simp [execOp, h, go_sem]) rfl
              | 17, ho =>
                have hoo := Option.some.inj ho
                subst hoo
                have f16 : (ρ (.tmp 89)) = .pointer (some ⟨(w0.heap.size + 1), 1, none⟩) := hd ⟨16, .data⟩ (by simp) (by rfl)
                exact fx_val hK hρ _ (by have h0 := hI.f.b.c1; simp [execOp, f16, h0, go_sem]) rfl
              | 18, ho =>
                have hoo := Option.some.inj ho
                subst hoo
                have f15 : (ρ (.tmp 88)) = .slice Fx m' dx := hd ⟨15, .data⟩ (by simp) (by rfl)
                have f17 : (ρ (.tmp 90)) = .slice F' m' d' := hd ⟨17, .data⟩ (by simp) (by rfl)
                exact fx_call hK hρ 22 _ _ #[.slice Fx m' dx, .slice F' m' d'] rfl (by simp only [List.map_toArray, List.map_cons, List.map_nil, hA.const, f15, f17]) (eg_of Tryd.func22 (by kernel_rfl) rfl) ((left_same w hI.f.k2 hI.f.b.k).mono fun e w' ⟨he, hb⟩ => ⟨_, he, rfl, hb⟩)
              | 19, ho =>
                have hoo := Option.some.inj ho
                subst hoo
                have f13 : (ρ (.tmp 86)) = .bool true := hd ⟨13, .data⟩ (by simp) (by rfl)
                have f18 : (ρ (.tmp 91)) = .bool true := hd ⟨18, .data⟩ (by simp) (by rfl)
                exact fx_val hK hρ (.bool true) (by simp [execOp, f13, f18, hA.const, hA.const, go_sem]) rfl
              | 20, ho =>
                have hoo := Option.some.inj ho
                subst hoo
                have f19 : (ρ (.tmp 92)) = .bool true := hd ⟨19, .data⟩ (by simp) (by rfl)
                exact fx_val hK hρ (.bool true) (by simp [execOp, f19, hA.const, go_sem]) rfl
              | 21, ho =>
                have hoo := Option.some.inj ho
                subst hoo
                exact fx_val hK hρ _ (by have h := hA.tmp 2 (by decide); have h0 := hI.f.b.d0; have h1 := hI.f.b.d1; simp [execOp, h, h0, h1, go_sem]) rfl
              | 22, ho =>
                have hoo := Option.some.inj ho
                subst hoo
                have f21 : (ρ (.tmp 94)) = .agg #[.slice A n c, .slice F m d] := hd ⟨21, .data⟩ (by simp) (by rfl)
                exact fx_call hK hρ 12 _ _ #[.agg #[.slice A n c, .slice F m d]] rfl (by simp only [List.map_toArray, List.map_cons, List.map_nil, hA.const, f21]) (eg_of Tryd.func12 (by kernel_rfl) rfl) ((own_g10 (hI.f.b.g)).mono fun e w' ⟨A1, c1, F1, d1, he, hd, hb⟩ => ⟨_, he, ⟨A1, c1, F1, d1, rfl, hd⟩, hb⟩)
              | 23, ho =>
                have hoo := Option.some.inj ho
                subst hoo
                exact fx_val hK hρ _ (by have h := hA.tmp 5 (by decide); have h0 := hI.f.x0; have h1 := hI.f.x1; simp [execOp, h, h0, h1, go_sem]) rfl
              | 24, ho =>
                have hoo := Option.some.inj ho
                subst hoo
                have f23 : (ρ (.tmp 96)) = .agg #[.slice Ax n' cx, .slice Fx m' dx] := hd ⟨23, .data⟩ (by simp) (by rfl)
                exact fx_call hK hρ 13 _ _ #[.agg #[.slice Ax n' cx, .slice Fx m' dx]] rfl (by simp only [List.map_toArray, List.map_cons, List.map_nil, hA.const, f23]) (eg_of Tryd.func13 (by kernel_rfl) rfl) ((ownC_any w (hI.f.k2)).mono fun e w' ⟨⟨A1, c1, F1, d1, he, hM⟩, hb⟩ => ⟨_, he, ⟨A1, c1, F1, d1, rfl, hM⟩, hb⟩)
              | 25, ho =>
                have hoo := Option.some.inj ho
                subst hoo
                have f22 : GDl n m W E (ρ (.tmp 95)) w := hd ⟨22, .data⟩ (by simp) (by rfl)
                have f24 : GCl n' m' O2 L (ρ (.tmp 97)) w := hd ⟨24, .data⟩ (by simp) (by rfl)
                obtain ⟨A1, c1, F1, d1, f22', hD⟩ := f22
                obtain ⟨A2, c2, F2, d2, f24', hM⟩ := f24
                exact fx_call hK hρ 17 _ _ #[.agg #[.slice A1 n c1, .slice F1 m d1], .agg #[.slice A2 n' c2, .slice F2 m' d2]] rfl (by simp only [List.map_toArray, List.map_cons, List.map_nil, hA.const, f22', f24']) (eg_of Tryd.func17 (by kernel_rfl) rfl) ((HK.out.check w hD hM).mono fun e w' ⟨he, hb⟩ => ⟨_, he, (by show Value.int .i64 _ = .int .i64 0; rw [HFE2.out.1]), hb⟩)
              | 26, ho =>
                have hoo := Option.some.inj ho
                subst hoo
                have f25 : (ρ (.tmp 98)) = .int .i64 0 := hd ⟨25, .data⟩ (by simp) (by rfl)
                exact fx_val hK hρ (.bool true) (by simp [execOp, f25, hA.const, go_sem]) rfl
              | 27, ho =>
                have hoo := Option.some.inj ho
                subst hoo
                have f20 : (ρ (.tmp 93)) = .bool true := hd ⟨20, .data⟩ (by simp) (by rfl)
                have f26 : (ρ (.tmp 99)) = .bool true := hd ⟨26, .data⟩ (by simp) (by rfl)
                exact fx_val hK hρ (.bool true) (by simp [execOp, f20, f26, hA.const, hA.const, go_sem]) rfl
              | 28, ho =>
                have hoo := Option.some.inj ho
                subst hoo
                have f27 : (ρ (.tmp 100)) = .bool true := hd ⟨27, .data⟩ (by simp) (by rfl)
                exact fx_val hK hρ (.bool true) (by simp [execOp, f27, hA.const, go_sem]) rfl
              | 29, ho =>
                have hoo := Option.some.inj ho
                subst hoo
                exact fx_val hK hρ (.int .i64 0) (by have h := hA.tmp 9 (by decide); simp [execOp, h, go_sem]) rfl
              | 30, ho =>
                have hoo := Option.some.inj ho
                subst hoo
                have f29 : (ρ (.tmp 102)) = .int .i64 0 := hd ⟨29, .data⟩ (by simp) (by rfl)
                exact fx_val hK hρ (.bool true) (by simp [execOp, f29, hA.const, go_sem]) rfl
              | 31, ho =>
                have hoo := Option.some.inj ho
                subst hoo
                have f28 : (ρ (.tmp 101)) = .bool true := hd ⟨28, .data⟩ (by simp) (by rfl)
                have f30 : (ρ (.tmp 103)) = .bool true := hd ⟨30, .data⟩ (by simp) (by rfl)
                exact fx_val hK hρ (.bool true) (by simp [execOp, f28, f30, hA.const, hA.const, go_sem]) rfl
              | 32, ho =>
                have hoo := Option.some.inj ho
                subst hoo
                have f31 : (ρ (.tmp 104)) = .bool true := hd ⟨31, .data⟩ (by simp) (by rfl)
                exact fx_val hK hρ (.bool true) (by simp [execOp, f31, hA.const, go_sem]) rfl
              | 33, ho =>
                have hoo := Option.some.inj ho
                subst hoo
                exact fx_val hK hρ _ (by have h := hA.tmp 8 (by decide); have h0 := hI.y0; have h1 := hI.y1; simp [execOp, h, h0, h1, go_sem]) rfl
              | 34, ho =>
                have hoo := Option.some.inj ho
                subst hoo
                exact fx_val hK hρ _ (by have h := hA.tmp 5 (by decide); have h0 := hI.f.x0; have h1 := hI.f.x1; simp [execOp, h, h0, h1, go_sem]) rfl
              | 35, ho =>
                have hoo := Option.some.inj ho
                subst hoo
                have f33 : (ρ (.tmp 106)) = .agg #[.slice Ay n' cy, .slice Fy m' dy] := hd ⟨33, .data⟩ (by simp) (by rfl)
                have f34 : (ρ (.tmp 107)) = .agg #[.slice Ax n' cx, .slice Fx m' dx] := hd ⟨34, .data⟩ (by simp) (by rfl)
                exact fx_call hK hρ 19 _ _ #[.agg #[.slice Ay n' cy, .slice Fy m' dy], .agg #[.slice Ax n' cx, .slice Fx m' dx]] rfl (by simp only [List.map_toArray, List.map_cons, List.map_nil, hA.const, f33, f34]) (eg_of Tryd.func19 (by kernel_rfl) rfl) ((rsameC_any w hI.k3 hI.f.k2).mono fun e w' ⟨he, hb⟩ => ⟨_, he, (by show (_ : Value) = _; simp), hb⟩)
              | 36, ho =>
                have hoo := Option.some.inj ho
                subst hoo
                have f32 : (ρ (.tmp 105)) = .bool true := hd ⟨32, .data⟩ (by simp) (by rfl)
                have f35 : (ρ (.tmp 108)) = .bool true := hd ⟨35, .data⟩ (by simp) (by rfl)
                exact fx_val hK hρ (.bool true) (by simp [execOp, f32, f35, hA.const, hA.const, go_sem]) rfl
              | 37, ho =>
                have hoo := Option.some.inj ho
                subst hoo
                have f36 : (ρ (.tmp 109)) = .bool true := hd ⟨36, .data⟩ (by simp) (by rfl)
                exact fx_val hK hρ (.bool true) (by simp [execOp, f36, hA.const, go_sem]) rfl
              | kq + 38, ho => simp at ho
            case hend =>
              intro vals12 y8 hI hF
              have fz : vals12 4 = .bool true := hF 37 (by decide)
              simp only [fillA, fillL, List.contains_cons, List.contains_nil, Nat.reduceBEq, Bool.or_false, Bool.false_or, Bool.or_true, Bool.true_or, cond_true, cond_false, Nat.zero_add, Nat.reduceAdd]
              rw [fz]
              have B8 := Lib.hid hI.f.b.bel
              clear hF hI fz
              go_wp2
              go_ret
              exact ⟨rfl, B8.out⟩
          · have HT0 : Hid (¬ kz = 0) := Lib.hid hkz
            have HT1 : Hid ((-1) ∉ O2) := Lib.hid (HRZ.out hkz)
            clear hkz
            go_wp2_with fail
            refine wp_region_facts' [73, 74, 75, 76, 77, 78, 79, 80, 81, 82, 83, 84, 85, 86, 87, 88, 89, 90, 91, 92, 93, 94, 95, 96, 97, 98, 99, 100, 101, 102, 103, 104, 105, 106, 107, 108, 109, 4] [] [(7, false), (13, true), (20, true), (28, true), (32, true)] (by kernel_rfl) (by kernel_rfl) (by kernel_rfl) (by intro d hd; simp at hd ⊢; omega) (BxFy w0 A n c F m d W E A' n' c' F' m' d' O L gx Ax cx Fx dx O2 L gy Ay cy Fy dy) (PhiF12f A n c F m d W E A' n' c' F' m' d' O L O2 w0.heap.size kz gx Ax cx Fx dx Ay cy Fy dy)
              (fun x y h hb => h.next hb) (phiF12f_below A n c F m d W E A' n' c' F' m' d' O L O2 w0.heap.size kz gx Ax cx Fx dx Ay cy Fy dy) (B7.out.next (Below.refl _ _).drew) (fun p hp v w hv => by
                simp only [List.mem_cons, List.not_mem_nil, or_false] at hp
                rcases hp with rfl | rfl | rfl | rfl | rfl <;> exact hv) (fun kq hkq => by simp at hkq) ?hstep ?hend
            case hstep =>
              intro kq o ho hw a w hI hA hd K hK
              obtain ⟨ρ, hρ⟩ : ∃ ρ, a.eval = ρ := ⟨_, rfl⟩
              rw [hρ] at hA hd
              match kq, ho with
              | 0, ho =>
                have hoo := Option.some.inj ho
                subst hoo
                exact fx_val hK hρ _ (by have h := hA.tmp 2 (by decide); have h0 := hI.f.b.d0; have h1 := hI.f.b.d1; simp [execOp, h, h0, h1, go_sem]) rfl
              | 1, ho =>
                have hoo := Option.some.inj ho
                subst hoo
                have f0 : (ρ (.tmp 73)) = .agg #[.slice A n c, .slice F m d] := hd ⟨0, .data⟩ (by simp) (by rfl)
                exact fx_call hK hρ 12 _ _ #[.agg #[.slice A n c, .slice F m d]] rfl (by simp only [List.map_toArray, List.map_cons, List.map_nil, hA.const, f0]) (eg_of Tryd.func12 (by kernel_rfl) rfl) ((own_g10 (hI.f.b.g)).mono fun e w' ⟨A1, c1, F1, d1, he, hd, hb⟩ => ⟨_, he, ⟨A1, c1, F1, d1, rfl, hd⟩, hb⟩)
              | 2, ho =>
                have hoo := Option.some.inj ho
                subst hoo
                exact fx_val hK hρ _ (by have h := hA.tmp 5 (by decide); have h0 := hI.f.x0; have h1 := hI.f.x1; simp [execOp, h, h0, h1, go_sem]) rfl
              | 3, ho =>
                have hoo := Option.some.inj ho
                subst hoo
                have f2 : (ρ (.tmp 75)) = .agg #[.slice Ax n' cx, .slice Fx m' dx] := hd ⟨2, .data⟩ (by simp) (by rfl)
                exact fx_call hK hρ 13 _ _ #[.agg #[.slice Ax n' cx, .slice Fx m' dx]] rfl (by simp only [List.map_toArray, List.map_cons, List.map_nil, hA.const, f2]) (eg_of Tryd.func13 (by kernel_rfl) rfl) ((ownC_any w (hI.f.k2)).mono fun e w' ⟨⟨A1, c1, F1, d1, he, hM⟩, hb⟩ => ⟨_, he, ⟨A1, c1, F1, d1, rfl, hM⟩, hb⟩)
              | 4, ho =>
                have hoo := Option.some.inj ho
                subst hoo
                have f1 : GDl n m W E (ρ (.tmp 74)) w := hd ⟨1, .data⟩ (by simp) (by rfl)
                have f3 : GCl n' m' O2 L (ρ (.tmp 76)) w := hd ⟨3, .data⟩ (by simp) (by rfl)
                obtain ⟨A1, c1, F1, d1, f1', hD⟩ := f1
                obtain ⟨A2, c2, F2, d2, f3', hM⟩ := f3
                exact fx_call hK hρ 15 _ _ #[.agg #[.slice A1 n c1, .slice F1 m d1], .agg #[.slice A2 n' c2, .slice F2 m' d2]] rfl (by simp only [List.map_toArray, List.map_cons, List.map_nil, hA.const, f1', f3']) (eg_of Tryd.func15 (by kernel_rfl) rfl) ((HK.out.ready w hD hM).mono fun e w' hg => (by
              obtain ⟨v4, he, hg, hb⟩ := hg
              obtain ⟨A5, c5, rfl, h5⟩ := hg
              rw [HKZ.out] at he
              exact ⟨_, he, ⟨A5, c5, rfl⟩, hb⟩))
              | 5, ho =>
                have hoo := Option.some.inj ho
                subst hoo
                have f4 : GSl kz (ρ (.tmp 77)) w := hd ⟨4, .data⟩ (by simp) (by rfl)
                obtain ⟨A5, c5, f4'⟩ := f4
                exact fx_val hK hρ (.int .i64 (kz : Int)) (by simp [execOp, f4', go_sem]) rfl
              | 6, ho =>
                have hoo := Option.some.inj ho
                subst hoo
                have f5 : (ρ (.tmp 78)) = .int .i64 (kz : Int) := hd ⟨5, .data⟩ (by simp) (by rfl)
                exact fx_val hK hρ (.bool false) (by simp [execOp, f5, HT0.out, hA.const, go_sem]) rfl
              | 7, ho =>
                have hoo := Option.some.inj ho
                subst hoo
                have f6 : (ρ (.tmp 79)) = .bool false := hd ⟨6, .data⟩ (by simp) (by rfl)
                exact fx_val hK hρ (.bool false) (by simp [execOp, f6, hA.const, go_sem]) rfl
              | 8, ho =>
                have hoo := Option.some.inj ho
                subst hoo
                exact fx_val hK hρ (.pointer (some ⟨gx, 0, none⟩)) (by have h := hA.tmp 5 (by decide); simp [execOp, h, go_sem]) rfl
              | 9, ho =>
                have hoo := Option.some.inj ho
                subst hoo
                have f8 : (ρ (.tmp 81)) = .pointer (some ⟨gx, 0, none⟩) := hd ⟨8, .data⟩ (by simp) (by rfl)
                exact fx_val hK hρ _ (by have h0 := hI.f.x0; simp [execOp, f8, h0, go_sem]) rfl
              | 10, ho =>
                have hoo := Option.some.inj ho
                subst hoo
                have f9 : (ρ (.tmp 82)) = .slice Ax n' cx := hd ⟨9, .data⟩ (by simp) (by rfl)
                exact fx_call hK hρ 35 _ _ #[.slice Ax n' cx, .int .i64 (-1)] rfl (by simp only [List.map_toArray, List.map_cons, List.map_nil, hA.const, f9]) (eg_of Tryd.func35 (by kernel_rfl) rfl) ((has_at w hI.f.k2 HT1.out hlim).mono fun e w' ⟨he, hb⟩ => ⟨_, he, rfl, hb⟩)
              | 11, ho =>
                have hoo := Option.some.inj ho
                subst hoo
                have f10 : (ρ (.tmp 83)) = .bool false := hd ⟨10, .data⟩ (by simp) (by rfl)
                exact fx_val hK hρ (.bool true) (by simp [execOp, f10, hA.const, go_sem]) rfl
              | 12, ho =>
                have hoo := Option.some.inj ho
                subst hoo
                have f7 : (ρ (.tmp 80)) = .bool false := hd ⟨7, .data⟩ (by simp) (by rfl)
                have f11 : (ρ (.tmp 84)) = .bool true := hd ⟨11, .data⟩ (by simp) (by rfl)
                exact fx_val hK hρ (.bool true) (by simp [execOp, f7, f11, hA.const, hA.const, go_sem]) rfl
              | 13, ho =>
                have hoo := Option.some.inj ho
                subst hoo
                have f12 : (ρ (.tmp 85)) = .bool true := hd ⟨12, .data⟩ (by simp) (by rfl)
                exact fx_val hK hρ (.bool true) (by simp [execOp, f12, hA.const, go_sem]) rfl
              | 14, ho =>
                have hoo := Option.some.inj ho
                subst hoo
                exact fx_val hK hρ (.pointer (some ⟨gx, 1, none⟩)) (by have h := hA.tmp 5 (by decide); simp [execOp, h, go_sem]) rfl
              | 15, ho =>
                have hoo := Option.some.inj ho
                subst hoo
                have f14 : (ρ (.tmp 87)) = .pointer (some ⟨gx, 1, none⟩) := hd ⟨14, .data⟩ (by simp) (by rfl)
                exact fx_val hK hρ _ (by have h0 := hI.f.x1; simp [execOp, f14, h0, go_sem]) rfl
              | 16, ho =>
                have hoo := Option.some.inj ho
                subst hoo
                exact fx_val hK hρ (.pointer (some ⟨(w0.heap.size + 1), 1, none⟩)) (by have h := hA.tmp 3 (by decide); simp [execOp, h, go_sem]) rfl
              | 17, ho =>
                have hoo := Option.some.inj ho
                subst hoo
                have f16 : (ρ (.tmp 89)) = .pointer (some ⟨(w0.heap.size + 1), 1, none⟩) := hd ⟨16, .data⟩ (by simp) (by rfl)
                exact fx_val hK hρ _ (by have h0 := hI.f.b.c1; simp [execOp, f16, h0, go_sem]) rfl
              | 18, ho =>
                have hoo := Option.some.inj ho
                subst hoo
                have f15 : (ρ (.tmp 88)) = .slice Fx m' dx := hd ⟨15, .data⟩ (by simp) (by rfl)
                have f17 : (ρ (.tmp 90)) = .slice F' m' d' := hd ⟨17, .data⟩ (by simp) (by rfl)
                exact fx_call hK hρ 22 _ _ #[.slice Fx m' dx, .slice F' m' d'] rfl (by simp only [List.map_toArray, List.map_cons, List.map_nil, hA.const, f15, f17]) (eg_of Tryd.func22 (by kernel_rfl) rfl) ((left_same w hI.f.k2 hI.f.b.k).mono fun e w' ⟨he, hb⟩ => ⟨_, he, rfl, hb⟩)
              | 19, ho =>
                have hoo := Option.some.inj ho
                subst hoo
                have f13 : (ρ (.tmp 86)) = .bool true := hd ⟨13, .data⟩ (by simp) (by rfl)
                have f18 : (ρ (.tmp 91)) = .bool true := hd ⟨18, .data⟩ (by simp) (by rfl)
                exact fx_val hK hρ (.bool true) (by simp [execOp, f13, f18, hA.const, hA.const, go_sem]) rfl
              | 20, ho =>
                have hoo := Option.some.inj ho
                subst hoo
                have f19 : (ρ (.tmp 92)) = .bool true := hd ⟨19, .data⟩ (by simp) (by rfl)
                exact fx_val hK hρ (.bool true) (by simp [execOp, f19, hA.const, go_sem]) rfl
              | 21, ho =>
                have hoo := Option.some.inj ho
                subst hoo
                exact fx_val hK hρ _ (by have h := hA.tmp 2 (by decide); have h0 := hI.f.b.d0; have h1 := hI.f.b.d1; simp [execOp, h, h0, h1, go_sem]) rfl
              | 22, ho =>
                have hoo := Option.some.inj ho
                subst hoo
                have f21 : (ρ (.tmp 94)) = .agg #[.slice A n c, .slice F m d] := hd ⟨21, .data⟩ (by simp) (by rfl)
                exact fx_call hK hρ 12 _ _ #[.agg #[.slice A n c, .slice F m d]] rfl (by simp only [List.map_toArray, List.map_cons, List.map_nil, hA.const, f21]) (eg_of Tryd.func12 (by kernel_rfl) rfl) ((own_g10 (hI.f.b.g)).mono fun e w' ⟨A1, c1, F1, d1, he, hd, hb⟩ => ⟨_, he, ⟨A1, c1, F1, d1, rfl, hd⟩, hb⟩)
              | 23, ho =>
                have hoo := Option.some.inj ho
                subst hoo
                exact fx_val hK hρ _ (by have h := hA.tmp 5 (by decide); have h0 := hI.f.x0; have h1 := hI.f.x1; simp [execOp, h, h0, h1, go_sem]) rfl
              | 24, ho =>
                have hoo := Option.some.inj ho
                subst hoo
                have f23 : (ρ (.tmp 96)) = .agg #[.slice Ax n' cx, .slice Fx m' dx] := hd ⟨23, .data⟩ (by simp) (by rfl)
                exact fx_call hK hρ 13 _ _ #[.agg #[.slice Ax n' cx, .slice Fx m' dx]] rfl (by simp only [List.map_toArray, List.map_cons, List.map_nil, hA.const, f23]) (eg_of Tryd.func13 (by kernel_rfl) rfl) ((ownC_any w (hI.f.k2)).mono fun e w' ⟨⟨A1, c1, F1, d1, he, hM⟩, hb⟩ => ⟨_, he, ⟨A1, c1, F1, d1, rfl, hM⟩, hb⟩)
              | 25, ho =>
                have hoo := Option.some.inj ho
                subst hoo
                have f22 : GDl n m W E (ρ (.tmp 95)) w := hd ⟨22, .data⟩ (by simp) (by rfl)
                have f24 : GCl n' m' O2 L (ρ (.tmp 97)) w := hd ⟨24, .data⟩ (by simp) (by rfl)
                obtain ⟨A1, c1, F1, d1, f22', hD⟩ := f22
                obtain ⟨A2, c2, F2, d2, f24', hM⟩ := f24
                exact fx_call hK hρ 17 _ _ #[.agg #[.slice A1 n c1, .slice F1 m d1], .agg #[.slice A2 n' c2, .slice F2 m' d2]] rfl (by simp only [List.map_toArray, List.map_cons, List.map_nil, hA.const, f22', f24']) (eg_of Tryd.func17 (by kernel_rfl) rfl) ((HK.out.check w hD hM).mono fun e w' ⟨he, hb⟩ => ⟨_, he, (by show Value.int .i64 _ = .int .i64 0; rw [HFE2.out.1]), hb⟩)
              | 26, ho =>
                have hoo := Option.some.inj ho
                subst hoo
                have f25 : (ρ (.tmp 98)) = .int .i64 0 := hd ⟨25, .data⟩ (by simp) (by rfl)
                exact fx_val hK hρ (.bool true) (by simp [execOp, f25, hA.const, go_sem]) rfl
              | 27, ho =>
                have hoo := Option.some.inj ho
                subst hoo
                have f20 : (ρ (.tmp 93)) = .bool true := hd ⟨20, .data⟩ (by simp) (by rfl)
                have f26 : (ρ (.tmp 99)) = .bool true := hd ⟨26, .data⟩ (by simp) (by rfl)
                exact fx_val hK hρ (.bool true) (by simp [execOp, f20, f26, hA.const, hA.const, go_sem]) rfl
              | 28, ho =>
                have hoo := Option.some.inj ho
                subst hoo
                have f27 : (ρ (.tmp 100)) = .bool true := hd ⟨27, .data⟩ (by simp) (by rfl)
                exact fx_val hK hρ (.bool true) (by simp [execOp, f27, hA.const, go_sem]) rfl
              | 29, ho =>
                have hoo := Option.some.inj ho
                subst hoo
                exact fx_val hK hρ (.int .i64 0) (by have h := hA.tmp 9 (by decide); simp [execOp, h, go_sem]) rfl
              | 30, ho =>
                have hoo := Option.some.inj ho
                subst hoo
                have f29 : (ρ (.tmp 102)) = .int .i64 0 := hd ⟨29, .data⟩ (by simp) (by rfl)
                exact fx_val hK hρ (.bool true) (by simp [execOp, f29, hA.const, go_sem]) rfl
              | 31, ho =>
                have hoo := Option.some.inj ho
                subst hoo
                have f28 : (ρ (.tmp 101)) = .bool true := hd ⟨28, .data⟩ (by simp) (by rfl)
                have f30 : (ρ (.tmp 103)) = .bool true := hd ⟨30, .data⟩ (by simp) (by rfl)
                exact fx_val hK hρ (.bool true) (by simp [execOp, f28, f30, hA.const, hA.const, go_sem]) rfl
              | 32, ho =>
                have hoo := Option.some.inj ho
                subst hoo
                have f31 : (ρ (.tmp 104)) = .bool true := hd ⟨31, .data⟩ (by simp) (by rfl)
                exact fx_val hK hρ (.bool true) (by simp [execOp, f31, hA.const, go_sem]) rfl
              | 33, ho =>
                have hoo := Option.some.inj ho
                subst hoo
                exact fx_val hK hρ _ (by have h := hA.tmp 8 (by decide); have h0 := hI.y0; have h1 := hI.y1; simp [execOp, h, h0, h1, go_sem]) rfl
              | 34, ho =>
                have hoo := Option.some.inj ho
                subst hoo
                exact fx_val hK hρ _ (by have h := hA.tmp 5 (by decide); have h0 := hI.f.x0; have h1 := hI.f.x1; simp [execOp, h, h0, h1, go_sem]) rfl
              | 35, ho =>
                have hoo := Option.some.inj ho
                subst hoo
                have f33 : (ρ (.tmp 106)) = .agg #[.slice Ay n' cy, .slice Fy m' dy] := hd ⟨33, .data⟩ (by simp) (by rfl)
                have f34 : (ρ (.tmp 107)) = .agg #[.slice Ax n' cx, .slice Fx m' dx] := hd ⟨34, .data⟩ (by simp) (by rfl)
                exact fx_call hK hρ 19 _ _ #[.agg #[.slice Ay n' cy, .slice Fy m' dy], .agg #[.slice Ax n' cx, .slice Fx m' dx]] rfl (by simp only [List.map_toArray, List.map_cons, List.map_nil, hA.const, f33, f34]) (eg_of Tryd.func19 (by kernel_rfl) rfl) ((rsameC_any w hI.k3 hI.f.k2).mono fun e w' ⟨he, hb⟩ => ⟨_, he, (by show (_ : Value) = _; simp), hb⟩)
              | 36, ho =>
                have hoo := Option.some.inj ho
                subst hoo
                have f32 : (ρ (.tmp 105)) = .bool true := hd ⟨32, .data⟩ (by simp) (by rfl)
                have f35 : (ρ (.tmp 108)) = .bool true := hd ⟨35, .data⟩ (by simp) (by rfl)
                exact fx_val hK hρ (.bool true) (by simp [execOp, f32, f35, hA.const, hA.const, go_sem]) rfl
              | 37, ho =>
                have hoo := Option.some.inj ho
                subst hoo
                have f36 : (ρ (.tmp 109)) = .bool true := hd ⟨36, .data⟩ (by simp) (by rfl)
                exact fx_val hK hρ (.bool true) (by simp [execOp, f36, hA.const, go_sem]) rfl
              | kq + 38, ho => simp at ho
            case hend =>
              intro vals12 y8 hI hF
              have fz : vals12 4 = .bool true := hF 37 (by decide)
              simp only [fillA, fillL, List.contains_cons, List.contains_nil, Nat.reduceBEq, Bool.or_false, Bool.false_or, Bool.or_true, Bool.true_or, cond_true, cond_false, Nat.zero_add, Nat.reduceAdd]
              rw [fz]
              have B8 := Lib.hid hI.f.b.bel
              clear hF hI fz
              go_wp2
              go_ret
              exact ⟨rfl, B8.out⟩
theorem walk_ListFill (K : ListOk) (w0 : World) (hT : Tab64 w0) (hg : InG w0 A n c F m d W E) (hc : InC w0 A' n' c' F' m' d' O L) : Calls Tryd.prog 6 #[.agg #[.slice A n c, .slice F m d], .agg #[.slice A' n' c', .slice F' m' d']] w0 fun e w' => e = .returned (.bool true) ∧ Below w0.heap.size w0 w' := by
  by_cases h : (n ≤ 70 ∧ m ≤ 300) ∧ n' ≤ 12 ∧ m' ≤ 70
  · by_cases h0 : crewE W E O L = 0
    · exact fill_good K w0 (hg.isG hT h.1.1 h.1.2) (hc.isC h.2.1 h.2.2) h h0
    · exact fill_bad K w0 (hg.isG hT h.1.1 h.1.2) (hc.isC h.2.1 h.2.2) h h0
  · exact fill_many K w0 hT hg hc h
end
end Go.Proofs.YtmmogdccjiagnaaDoor
