/- The walk of DescSame in the seat YtpckmhmabmmllaaDoor, given what the program's functions answer (printed by desc/mk_walks.py). No statement is proved here. -/
import Derived.Test.YtpckmhmabmmllaaDoorZDescBoxes
set_option linter.unusedVariables false
namespace Go.Proofs.YtpckmhmabmmllaaDoor
open Go.RowKit

def PhiS (s sx sy : Sh) (T : Task) (n : Int) (b0 : Nat) (rx ry : Bool) : Nat → Value → World → Prop
  | 0, v, w => v = s.arg T.period T.deadline
  | 1, v, w => ∃ x : Sh, v = x.arg T.period T.deadline ∧ IsD w x T
  | 2, v, w => v = s.arg T.period T.deadline
  | 3, v, w => ∃ x : Sh, v = x.arg T.period T.deadline ∧ IsD w x T
  | 4, v, w => v = .bool true
  | 5, v, w => v = .bool true
  | 6, v, w => v = s.arg T.period T.deadline
  | 7, v, w => v = sx.arg n T.deadline
  | 8, v, w => v = .bool rx
  | 9, v, w => v = .int .i64 n
  | 10, v, w => v = .pointer (some ⟨b0, 0, none⟩)
  | 11, v, w => v = .int .i64 T.period
  | 12, v, w => v = .bool rx
  | 13, v, w => v = .bool true
  | 14, v, w => v = .bool true
  | 15, v, w => v = .bool true
  | 16, v, w => v = s.arg T.period T.deadline
  | 17, v, w => v = sy.arg T.period n
  | 18, v, w => v = .bool ry
  | 19, v, w => v = .int .i64 n
  | 20, v, w => v = .pointer (some ⟨b0, 1, none⟩)
  | 21, v, w => v = .int .i64 T.deadline
  | 22, v, w => v = .bool ry
  | 23, v, w => v = .bool true
  | 24, v, w => v = .bool true
  | 25, v, w => v = .bool true
  | _, _, _ => True
theorem phiS_below (s sx sy : Sh) (T : Task) (n : Int) (b0 : Nat) (rx ry : Bool) : ∀ k v w w', PhiS s sx sy T n b0 rx ry k v w → Below w.heap.size w w' → PhiS s sx sy T n b0 rx ry k v w' := by
  intro k v w w' h hb
  match k, h with
  | 0, h => exact h
  | 1, h => obtain ⟨x, e, d⟩ := h; exact ⟨x, e, d.below hb⟩
  | 2, h => exact h
  | 3, h => obtain ⟨x, e, d⟩ := h; exact ⟨x, e, d.below hb⟩
  | 4, h => exact h
  | 5, h => exact h
  | 6, h => exact h
  | 7, h => exact h
  | 8, h => exact h
  | 9, h => exact h
  | 10, h => exact h
  | 11, h => exact h
  | 12, h => exact h
  | 13, h => exact h
  | 14, h => exact h
  | 15, h => exact h
  | 16, h => exact h
  | 17, h => exact h
  | 18, h => exact h
  | 19, h => exact h
  | 20, h => exact h
  | 21, h => exact h
  | 22, h => exact h
  | 23, h => exact h
  | 24, h => exact h
  | 25, h => exact h
  | k + 26, h => exact trivial
/-- While the three tasks are compared. -/
def InvS (w : World) (s sx sy : Sh) (T : Task) (n : Int) (gx gy : Nat) (y : World) : Prop :=
  Bx1D w s T y ∧ CellsD y sx n T.deadline gx ∧ IsD y sx ⟨n, T.deadline, T.parts, T.edges, T.futures, T.bars⟩ ∧ CellsD y sy T.period n gy ∧ IsD y sy ⟨T.period, n, T.parts, T.edges, T.futures, T.bars⟩
theorem InvS.next {w y z : World} {s sx sy : Sh} {T : Task} {n : Int} {gx gy : Nat} (h : InvS w s sx sy T n gx gy y) (hb : Below y.heap.size y z) : InvS w s sx sy T n gx gy z :=
  ⟨h.1.next hb, h.2.1.next hb, h.2.2.1.below hb, h.2.2.2.1.next hb, h.2.2.2.2.below hb⟩
set_option maxRecDepth 100000 in
set_option maxHeartbeats 8000000 in
theorem same_few (K : DescOk) (w : World) (s : Sh) (T : Task) (n : Int) (hx : -9223372036854775808 ≤ n ∧ n ≤ 9223372036854775807) (hT : DTab w) (h : InD w s T) (f : FewD T) :
    Calls Tryd.prog 8 #[s.arg T.period T.deadline, .int .i64 n] w fun e w' => e = .returned (.bool true) ∧ Below w.heap.size w w' := by
  have HK := Lib.hid K
  have HTW := Lib.hid (fun W (h : Below w.heap.size w W) => DTab.via hT h)
  have B0 := Lib.hid ((Bx1T.start h.t).few h hT f)
  have F1 := Lib.hid f
  obtain ⟨rx, hrx⟩ : ∃ r, (n == T.period) = r := ⟨_, rfl⟩
  obtain ⟨ry, hry⟩ : ∃ r, (n == T.deadline) = r := ⟨_, rfl⟩
  have HRX := Lib.hid hrx
  have HRY := Lib.hid hry
  have C0 := Lib.hid (fun W x y (h : IsD W x T) (h' : IsD W y T) => show Calls Tryd.prog 14 #[x.arg T.period T.deadline, y.arg T.period T.deadline] W fun e w' => e = .returned (.bool true) ∧ Below W.heap.size W w' by
    have := HK.out.same W h h'
    rwa [decide_eq_true rfl] at this)
  have EX : decide (T = ⟨n, T.deadline, T.parts, T.edges, T.futures, T.bars⟩) = rx := by
    rw [← hrx, Bool.eq_iff_iff, decide_eq_true_iff, beq_iff_eq]
    constructor
    · intro h; exact (congrArg Task.period h).symm
    · intro h; subst h; rfl
  have EY : decide (T = ⟨T.period, n, T.parts, T.edges, T.futures, T.bars⟩) = ry := by
    rw [← hry, Bool.eq_iff_iff, decide_eq_true_iff, beq_iff_eq]
    constructor
    · intro h; exact (congrArg Task.deadline h).symm
    · intro h; subst h; rfl
  have CX0 := Lib.hid (fun W sx (h : IsD W s T) (h' : IsD W sx ⟨n, T.deadline, T.parts, T.edges, T.futures, T.bars⟩) => show Calls Tryd.prog 14 #[s.arg T.period T.deadline, sx.arg n T.deadline] W fun e w' => e = .returned (.bool rx) ∧ Below W.heap.size W w' by
    have := HK.out.same W h h'
    rwa [EX] at this)
  have CY0 := Lib.hid (fun W sy (h : IsD W s T) (h' : IsD W sy ⟨T.period, n, T.parts, T.edges, T.futures, T.bars⟩) => show Calls Tryd.prog 14 #[s.arg T.period T.deadline, sy.arg T.period n] W fun e w' => e = .returned (.bool ry) ∧ Below W.heap.size W w' by
    have := HK.out.same W h h'
    rwa [EY] at this)
  clear K h hT f hrx hry EX EY
  go_enter Tryd.func8, Tryd.ntmps8
  go_wp2_with fail
  refine (awake_any HK.out _ (HTW.out _ B0.out.bel)).mono ?_
  rintro e w1 ⟨rfl, b1⟩
  have B1 := Lib.hid (B0.out.next b1)
  clear b1
  obtain ⟨c1, c2, c3, c4, c5, c6⟩ := B1.out.c
  go_wp2_with fail
  refine (few_d B1.out.d.t F1.out).mono ?_
  rintro e w2 ⟨rfl, b2⟩
  have B2 := Lib.hid (B1.out.next b2)
  clear b2 c1 c2 c3 c4 c5 c6
  go_wp2_with fail
  refine wp_boxes_d 2 [15, 17] [16, 18] [5, 6] (by kernel_rfl) (by intro d hd; simp at hd ⊢; omega) B2.out
    (fun j o hj ho => by
      match j, hj, ho with
      | 0, _, ho => obtain rfl := Option.some.inj ho; exact ⟨2, rfl, by decide, rfl⟩
      | 1, _, ho => obtain rfl := Option.some.inj ho; exact ⟨2, rfl, by decide, rfl⟩)
    (fun j o hj ho => by
      match j, hj, ho with
      | 0, _, ho => obtain rfl := Option.some.inj ho; exact ⟨_, rfl⟩
      | 1, _, ho => obtain rfl := Option.some.inj ho; exact ⟨_, rfl⟩) ?_
  intro vals x hX hbw hbox hne
  obtain ⟨gx, u1, u2, u3, u4, ex, bx⟩ := hbox 0 (by decide)
  obtain ⟨gy, v1, v2, v3, v4, ey, bY⟩ := hbox 1 (by decide)
  have ex' : vals 5 = .pointer (some ⟨gx, 0, none⟩) := ex
  have ey' : vals 6 = .pointer (some ⟨gy, 0, none⟩) := ey
  have hxy : gx ≠ gy := fun e => hne 0 1 (by decide) (by decide) (by decide) (by rw [ex, ey, e])
  simp only [fillA, fillL, Nat.zero_add, Nat.reduceAdd]
  rw [ex', ey']
  have k1 : ∀ k, k ≠ gx → (x.setCell ⟨gx, 0, none⟩ (.int .i64 n)).heap[k]? = x.heap[k]? := fun k hk => heap_setCell_other _ _ _ _ hk
  have b1x := bx.setP n
  have b1y := bY.other bx.row (Ne.symm hxy) k1
  have k2 : ∀ k, k ≠ gy → ((x.setCell ⟨gx, 0, none⟩ (.int .i64 n)).setCell ⟨gy, 1, none⟩ (.int .i64 n)).heap[k]? = (x.setCell ⟨gx, 0, none⟩ (.int .i64 n)).heap[k]? := fun k hk => heap_setCell_other _ _ _ _ hk
  have b2x := b1x.other b1y.row hxy k2
  have b2y := b1y.setQ n
  have hb2 : Below w2.heap.size w2 ((x.setCell ⟨gx, 0, none⟩ (.int .i64 n)).setCell ⟨gy, 1, none⟩ (.int .i64 n)) := (hbw.setCell (p := ⟨gx, 0, none⟩) bx.le _).setCell (p := ⟨gy, 1, none⟩) bY.le _
  have X2 := B2.out.next hb2
  obtain ⟨sx, _, _, _, _, lx, ix⟩ := b2x.lies X2.d.few X2.d.tab
  obtain ⟨sy, _, _, _, _, ly, iy⟩ := b2y.lies X2.d.few X2.d.tab
  have HI := Lib.hid (show InvS w s sx sy T n gx gy _ from ⟨X2, lx, ix n T.deadline, ly, iy T.period n⟩)
  have CX := Lib.hid (fun W => CX0.out W sx)
  have CY := Lib.hid (fun W => CY0.out W sy)
  have c0 := cell_of_row x gx 0 _ _ _ bx.row
  have z0 := frozen_of_row x gx 0 _ _ bx.row
  have c1 := cell_of_row _ gy 1 _ _ _ b1y.row
  have z1 := frozen_of_row _ gy 1 _ _ b1y.row
  simp only [List.getElem?_toArray, List.getElem?_cons_succ, List.getElem?_cons_zero] at c0 c1
  clear hX hbw hbox hne ex ey ex' ey' k1 k2 b1x b1y b2x b2y hb2 X2 lx ly ix iy bx bY B0 B1 CX0 CY0 hxy
  go_wp2_with fail
  refine wp_region_facts' [23, 24, 25, 26, 27, 28, 29, 30, 31, 32, 33, 34, 35, 36, 37, 38, 39, 40, 41, 42, 43, 44, 45, 46, 47, 4] [] [(5, true), (15, true)] (by kernel_rfl) (by kernel_rfl) (by kernel_rfl) (by intro d hd; simp at hd ⊢; omega) (InvS w s sx sy T n gx gy) (PhiS s sx sy T n w.heap.size rx ry)
    (fun x y h hb => h.next hb) (phiS_below s sx sy T n w.heap.size rx ry) (HI.out.next (Below.refl _ _).drew) (by
      intro p hp v x hv
      rcases List.mem_cons.mp hp with rfl | hp
      · exact hv
      · obtain rfl := List.mem_singleton.mp hp
        exact hv) (fun k hk => by simp at hk) ?hstep ?hend
  case hstep =>
    intro k o ho hw a w hI hA hd K hK
    obtain ⟨ρ, hρ⟩ : ∃ ρ, a.eval = ρ := ⟨_, rfl⟩
    rw [hρ] at hA hd
    match k, ho with
    | 0, ho =>
      have hoo := Option.some.inj ho
      subst hoo
      exact fx_val hK hρ _ (ld_desc rfl (hA.tmp 2 (by decide)) hI.1.c) rfl
    | 1, ho =>
      have hoo := Option.some.inj ho
      subst hoo
      have f0 : (ρ (.tmp 23)) = s.arg T.period T.deadline := hd ⟨0, .data⟩ (by simp) (by rfl)
      exact fx_call hK hρ 12 _ _ _ rfl (by rw [Array.map_singleton, f0]) (eg_of Tryd.func12 (by kernel_rfl) rfl) ((own_d (hI.1.d)).mono fun e w' ⟨x, he, hd, hb⟩ => ⟨_, he, ⟨x, rfl, hd⟩, hb⟩)
    | 2, ho =>
      have hoo := Option.some.inj ho
      subst hoo
      exact fx_val hK hρ _ (ld_desc rfl (hA.tmp 2 (by decide)) hI.1.c) rfl
    | 3, ho =>
      have hoo := Option.some.inj ho
      subst hoo
      have f2 : (ρ (.tmp 25)) = s.arg T.period T.deadline := hd ⟨2, .data⟩ (by simp) (by rfl)
      exact fx_call hK hρ 12 _ _ _ rfl (by rw [Array.map_singleton, f2]) (eg_of Tryd.func12 (by kernel_rfl) rfl) ((own_d (hI.1.d)).mono fun e w' ⟨x, he, hd, hb⟩ => ⟨_, he, ⟨x, rfl, hd⟩, hb⟩)
    | 4, ho =>
      have hoo := Option.some.inj ho
      subst hoo
      have f1 : ∃ x : Sh, (ρ (.tmp 24)) = x.arg T.period T.deadline ∧ IsD w x T := hd ⟨1, .data⟩ (by simp) (by rfl)
      have f3 : ∃ x : Sh, (ρ (.tmp 26)) = x.arg T.period T.deadline ∧ IsD w x T := hd ⟨3, .data⟩ (by simp) (by rfl)
      obtain ⟨x, e, d⟩ := f1
      obtain ⟨y, e', d'⟩ := f3
      exact fx_call hK hρ 14 _ _ _ rfl (by simp only [List.map_toArray, List.map_cons, List.map_nil, e, e']) (eg_of Tryd.func14 (by kernel_rfl) rfl) ((C0.out _ _ _ d d').mono fun e w' ⟨he, hb⟩ => ⟨_, he, rfl, hb⟩)
    | 5, ho =>
      have hoo := Option.some.inj ho
      subst hoo
      have f4 : (ρ (.tmp 27)) = .bool true := hd ⟨4, .data⟩ (by simp) (by rfl)
      exact fx_val hK hρ (.bool true) (by simp [execOp, f4, go_sem]) rfl
    | 6, ho =>
      have hoo := Option.some.inj ho
      subst hoo
      exact fx_val hK hρ _ (ld_desc rfl (hA.tmp 2 (by decide)) hI.1.c) rfl
    | 7, ho =>
      have hoo := Option.some.inj ho
      subst hoo
      exact fx_val hK hρ _ (ld_desc rfl ((hA.tmp 5 (by decide))) hI.2.1) rfl
    | 8, ho =>
      have hoo := Option.some.inj ho
      subst hoo
      have f6 : (ρ (.tmp 29)) = s.arg T.period T.deadline := hd ⟨6, .data⟩ (by simp) (by rfl)
      have f7 : (ρ (.tmp 30)) = sx.arg n T.deadline := hd ⟨7, .data⟩ (by simp) (by rfl)
      exact fx_call hK hρ 14 _ _ _ rfl (by simp only [List.map_toArray, List.map_cons, List.map_nil, f6, f7]) (eg_of Tryd.func14 (by kernel_rfl) rfl) ((CX.out _ hI.1.d hI.2.2.1).mono fun e w' ⟨he, hb⟩ => ⟨_, he, rfl, hb⟩)
    | 9, ho =>
      have hoo := Option.some.inj ho
      subst hoo
      exact fx_val hK hρ (.int .i64 n) (by have h := hA.tmp 1 (by decide); simp [execOp, h, go_sem]) rfl
    | 10, ho =>
      have hoo := Option.some.inj ho
      subst hoo
      exact fx_val hK hρ _ (by have h := hA.tmp 2 (by decide); simp [execOp, h, go_sem]) rfl
    | 11, ho =>
      have hoo := Option.some.inj ho
      subst hoo
      have f10 : (ρ (.tmp 33)) = .pointer (some ⟨_, 0, none⟩) := hd ⟨10, .data⟩ (by simp) (by rfl)
      exact fx_val hK hρ _ (by have h := hI.1.c.1; simp [execOp, f10, h, go_sem]) rfl
    | 12, ho =>
      have hoo := Option.some.inj ho
      subst hoo
      have f9 : (ρ (.tmp 32)) = .int .i64 n := hd ⟨9, .data⟩ (by simp) (by rfl)
      have f11 : (ρ (.tmp 34)) = .int .i64 T.period := hd ⟨11, .data⟩ (by simp) (by rfl)
      exact fx_val hK hρ (.bool rx) (by simp [execOp, f9, f11, go_sem, HRX.out]) rfl
    | 13, ho =>
      have hoo := Option.some.inj ho
      subst hoo
      have f8 : (ρ (.tmp 31)) = .bool rx := hd ⟨8, .data⟩ (by simp) (by rfl)
      have f12 : (ρ (.tmp 35)) = .bool rx := hd ⟨12, .data⟩ (by simp) (by rfl)
      exact fx_val hK hρ (.bool true) (by simp [execOp, f8, f12, go_sem]) rfl
    | 14, ho =>
      have hoo := Option.some.inj ho
      subst hoo
      have f5 : (ρ (.tmp 28)) = .bool true := hd ⟨5, .data⟩ (by simp) (by rfl)
      have f13 : (ρ (.tmp 36)) = .bool true := hd ⟨13, .data⟩ (by simp) (by rfl)
      exact fx_val hK hρ (.bool true) (by simp [execOp, f5, f13, go_sem]) rfl
    | 15, ho =>
      have hoo := Option.some.inj ho
      subst hoo
      have f14 : (ρ (.tmp 37)) = .bool true := hd ⟨14, .data⟩ (by simp) (by rfl)
      exact fx_val hK hρ (.bool true) (by simp [execOp, f14, go_sem]) rfl
    | 16, ho =>
      have hoo := Option.some.inj ho
      subst hoo
      exact fx_val hK hρ _ (ld_desc rfl (hA.tmp 2 (by decide)) hI.1.c) rfl
    | 17, ho =>
      have hoo := Option.some.inj ho
      subst hoo
      exact fx_val hK hρ _ (ld_desc rfl ((hA.tmp 6 (by decide))) hI.2.2.2.1) rfl
    | 18, ho =>
      have hoo := Option.some.inj ho
      subst hoo
      have f16 : (ρ (.tmp 39)) = s.arg T.period T.deadline := hd ⟨16, .data⟩ (by simp) (by rfl)
      have f17 : (ρ (.tmp 40)) = sy.arg T.period n := hd ⟨17, .data⟩ (by simp) (by rfl)
      exact fx_call hK hρ 14 _ _ _ rfl (by simp only [List.map_toArray, List.map_cons, List.map_nil, f16, f17]) (eg_of Tryd.func14 (by kernel_rfl) rfl) ((CY.out _ hI.1.d hI.2.2.2.2).mono fun e w' ⟨he, hb⟩ => ⟨_, he, rfl, hb⟩)
    | 19, ho =>
      have hoo := Option.some.inj ho
      subst hoo
      exact fx_val hK hρ (.int .i64 n) (by have h := hA.tmp 1 (by decide); simp [execOp, h, go_sem]) rfl
    | 20, ho =>
      have hoo := Option.some.inj ho
      subst hoo
      exact fx_val hK hρ _ (by have h := hA.tmp 2 (by decide); simp [execOp, h, go_sem]) rfl
    | 21, ho =>
      have hoo := Option.some.inj ho
      subst hoo
      have f20 : (ρ (.tmp 43)) = .pointer (some ⟨_, 1, none⟩) := hd ⟨20, .data⟩ (by simp) (by rfl)
      exact fx_val hK hρ _ (by have h := hI.1.c.2.1; simp [execOp, f20, h, go_sem]) rfl
    | 22, ho =>
      have hoo := Option.some.inj ho
      subst hoo
      have f19 : (ρ (.tmp 42)) = .int .i64 n := hd ⟨19, .data⟩ (by simp) (by rfl)
      have f21 : (ρ (.tmp 44)) = .int .i64 T.deadline := hd ⟨21, .data⟩ (by simp) (by rfl)
      exact fx_val hK hρ (.bool ry) (by simp [execOp, f19, f21, go_sem, HRY.out]) rfl
    | 23, ho =>
      have hoo := Option.some.inj ho
      subst hoo
      have f18 : (ρ (.tmp 41)) = .bool ry := hd ⟨18, .data⟩ (by simp) (by rfl)
      have f22 : (ρ (.tmp 45)) = .bool ry := hd ⟨22, .data⟩ (by simp) (by rfl)
      exact fx_val hK hρ (.bool true) (by simp [execOp, f18, f22, go_sem]) rfl
    | 24, ho =>
      have hoo := Option.some.inj ho
      subst hoo
      have f15 : (ρ (.tmp 38)) = .bool true := hd ⟨15, .data⟩ (by simp) (by rfl)
      have f23 : (ρ (.tmp 46)) = .bool true := hd ⟨23, .data⟩ (by simp) (by rfl)
      exact fx_val hK hρ (.bool true) (by simp [execOp, f15, f23, go_sem]) rfl
    | 25, ho =>
      have hoo := Option.some.inj ho
      subst hoo
      have f24 : (ρ (.tmp 47)) = .bool true := hd ⟨24, .data⟩ (by simp) (by rfl)
      exact fx_val hK hρ (.bool true) (by simp [execOp, f24, go_sem]) rfl
    | k + 26, ho => simp at ho
  case hend =>
    intro vals x hI hF
    have f25 : vals 4 = .bool true := hF 25 (by decide)
    simp only [fillA, fillL, List.contains_cons, List.contains_nil, Nat.reduceBEq, Bool.or_false, Bool.or_true, cond_true, cond_false, Nat.zero_add, Nat.reduceAdd]
    rw [f25]
    have HJ := Lib.hid hI
    clear hF hI f25
    go_wp2
    go_ret
    exact ⟨rfl, HJ.out.1.bel⟩
set_option maxRecDepth 100000 in
set_option maxHeartbeats 4000000 in
theorem same_many (K : DescOk) (w : World) (s : Sh) (T : Task) (n : Int) (hT : DTab w) (h : InD w s T) (f : ¬ FewD T) :
    Calls Tryd.prog 8 #[s.arg T.period T.deadline, .int .i64 n] w fun e w' => e = .returned (.bool true) ∧ Below w.heap.size w w' := by
  have HK := Lib.hid K
  have HTW := Lib.hid (fun W (h : Below w.heap.size w W) => DTab.via hT h)
  have B0 := Lib.hid (Bx1T.start h.t)
  have F1 := Lib.hid f
  clear K h hT f
  go_enter Tryd.func8, Tryd.ntmps8
  go_wp2_with fail
  refine (awake_any HK.out _ (HTW.out _ B0.out.bel)).mono ?_
  rintro e w1 ⟨rfl, b1⟩
  have B1 := Lib.hid (B0.out.next b1)
  clear b1
  obtain ⟨c1, c2, c3, c4, c5, c6⟩ := B1.out.c
  go_wp2_with fail
  refine (few_n B1.out.t F1.out).mono ?_
  rintro e w3 ⟨rfl, b3⟩
  have B3 := Lib.hid (B1.out.next b3)
  clear b3 c1 c2 c3 c4 c5 c6 B0 B1
  go_wp2_with fail
  refine (awake_any HK.out _ (HTW.out _ B3.out.bel)).mono ?_
  rintro e w4 ⟨rfl, b4⟩
  have B4 := Lib.hid (B3.out.next b4)
  clear b4
  go_wp2
  go_ret
  exact ⟨rfl, B4.out.bel⟩
theorem walk_DescSame (K : DescOk) (w : World) (hT : DTab w) {s : Sh} {T : Task} (h : InD w s T) (n : Int) (hx : -9223372036854775808 ≤ n ∧ n ≤ 9223372036854775807) :
    Calls Tryd.prog 8 #[s.arg T.period T.deadline, .int .i64 n] w fun e w' => e = .returned (.bool true) ∧ Below w.heap.size w w' := by
  by_cases hf : FewD T
  · exact same_few K w s T n hx hT h hf
  · exact same_many K w s T n hT h hf
end Go.Proofs.YtpckmhmabmmllaaDoor
