/- deque.Push in the seat YtcjmljpfhabmnaaDoor: its contract.
   trefoillaw12.Own in the seat YtcjmljpfhabmnaaDoor: its contract.
   trefoilref12.Items and Push in the seat YtcjmljpfhabmnaaDoor: their contracts.
   No statement is proved here. -/
import Derived.Test.YtcjmljpfhabmnaaDoorZM10
set_option linter.unusedSimpArgs false
set_option linter.unusedVariables false
set_option linter.unusedSimpArgs false
namespace Go.Proofs.YtcjmljpfhabmnaaDoor
open Go Go.RowKit

theorem rws_far {w0 w : World} {L : List (TypeId × List Value)} (h : Rws w0 L w) {g j : Nat} (hg : w0.heap.size + L.length ≤ g) (v : Value) : Rws w0 L (w.setCell ⟨g, j, none⟩ v) := by
  refine ⟨h.bel.setCell (by show w0.heap.size ≤ g; omega) v, fun i t vs hi => ?_⟩
  have hl : i < L.length := (List.getElem?_eq_some_iff.mp hi).1
  have := h.row i t vs hi
  unfold RowV at this ⊢
  rw [heap_setCell_other _ _ _ _ (by show w0.heap.size + i ≠ g; omega)]
  exact this
/-- What is handed out when something is pushed: the top, the bottom, the ring. -/
def pushT (n T B : Int) : Int := if pushE n T B = 0 then T else 0
def pushB (n T B : Int) : Int := if pushE n T B = 0 then B + 1 else 0
def pushR (R : List Int) (T B v : Int) : List Int := if pushE R.length T B = 0 then R.set (plN R.length B) v else []
def GotPush (R : List Int) (T B v : Int) (w : World) (e : Ending) (w' : World) : Prop :=
  ∃ A' n' c', e = .returned (.tuple #[.agg #[.slice A' n' c', .int .i64 (pushT R.length T B), .int .i64 (pushB R.length T B)], .int .i64 (pushE R.length T B)]) ∧ OwnQ w' w.heap.size A' n' c' (pushR R T B v) ∧ Below w.heap.size w w'
theorem push_bad {R : List Int} {T B v z : Int} {w w' : World} (h : pushE R.length T B = z) (hz : z ≠ 0) (hb : Below w.heap.size w w') : GotPush R T B v w (.returned (.tuple #[.agg #[.slice none 0 0, .int .i64 0, .int .i64 0], .int .i64 z])) w' := by
  refine ⟨none, 0, 0, ?_, ?_, hb⟩
  · unfold pushT pushB; rw [h, if_neg hz, if_neg hz]
  · unfold pushR; rw [h, if_neg hz]; exact noOwnQ _ _
def rowsP (A : Option Addr) (n c : Nat) (T B : Int) : List (TypeId × List Value) := [(27, [.slice A n c, .int .i64 T, .int .i64 B]), (27, [.slice none 0 0, .int .i64 0, .int .i64 0])]
def PhiPs (wf : World) (g n c2 : Nat) (T B : Int) (p : Nat) (x : Int) : Nat → Value → World → Prop
  | 0, v, w => v = .pointer (some ⟨wf.heap.size, 0, none⟩)
  | 1, v, w => v = .slice (some ⟨g, 0, none⟩) n c2
  | 2, v, w => v = .agg #[.slice (some ⟨g, 0, none⟩) n c2, .int .i64 T, .int .i64 B]
  | 3, v, w => v = .pointer (some ⟨wf.heap.size, 2, none⟩)
  | 4, v, w => v = .int .i64 B
  | 5, v, w => v = .int .i64 p
  | 6, v, w => v = .int .i64 x
  | _, _, _ => True
theorem phiPs_below {wf : World} {g n c2 : Nat} {T B : Int} {p : Nat} {x : Int} : ∀ kq v w w', PhiPs wf g n c2 T B p x kq v w → Below w.heap.size w w' → PhiPs wf g n c2 T B p x kq v w' := by
  intro kq v w w' h hb
  match kq, h with
  | 0, h => exact h
  | 1, h => exact h
  | 2, h => exact h
  | 3, h => exact h
  | 4, h => exact h
  | 5, h => exact h
  | 6, h => exact h
  | kq + 7, h => exact trivial
def ThtPs (wf : World) (g n c2 : Nat) (T B : Int) (p : Nat) (x : Int) (base : Nat) (R : List Int) (t : Nat) (f : Nat → Value) (w2 : World) : Prop :=
  7 ≤ t ∧ t ≤ 9 ∧ f 35 = .slice (some ⟨g, 0, none⟩) n c2 ∧ f 39 = .int .i64 p ∧ f 40 = .int .i64 x ∧ (8 ≤ t → f 41 = .pointer (some ⟨g, p, none⟩)) ∧ Rws wf (rowsP (some ⟨g, 0, none⟩) n c2 T B) w2 ∧
  (t ≤ 8 → OwnI w2 base (.slice (some ⟨g, 0, none⟩) n c2) R) ∧ (t = 9 → OwnI w2 base (.slice (some ⟨g, 0, none⟩) n c2) (R.set p x))
section
variable {A : Option Addr} {n c : Nat} {R : List Int}
set_option maxRecDepth 100000 in
set_option maxHeartbeats 8000000 in
theorem dpush_any (T B x : Int) (wf : World) (hq : IsQ wf A n c R) (hT : DTab wf) :
    Calls Tryd.prog 12 #[.agg #[.slice A n c, .int .i64 T, .int .i64 B], .int .i64 x] wf (GotPush R T B x wf) := by
  have B0 := Lib.hid (Rws.start wf (rowsP A n c T B))
  have hln := hq.ln
  have CK := Lib.hid (dcheck_any A n c T B _ hln (hT.via B0.out.bel))
  have HQ := Lib.hid hq
  have HN := Lib.hid hq.hn
  obtain ⟨w0, hw0⟩ : ∃ w0, w0 = allocs wf (rowsP A n c T B) := ⟨_, rfl⟩
  rw [← hw0] at CK B0
  have HW : Hid (w0 = (wf.alloc (.cells #[.slice A n c, .int .i64 T, .int .i64 B] 27)).alloc (.cells #[.slice none 0 0, .int .i64 0, .int .i64 0] 27)) := Lib.hid hw0
  clear hw0 hq hT
  by_cases hc : ¬ ChkQ n T B
  · have HE : Hid (pushE R.length T B = 120) := Lib.hid (by unfold pushE; rw [HN.out, if_pos hc])
    have e2 : chkQE n T B = 120 := if_neg hc
    rw [e2] at CK
    clear e2 hc
    go_enter Tryd.func12, Tryd.ntmps12
    go_wp2_with fail
    rw [← HW.out]
    refine CK.out.mono ?_
    rintro e w1 ⟨rfl, b1⟩
    have B1 := Lib.hid (B0.out.next b1)
    clear b1
    have c00 := B1.out.cell 0 0 rfl rfl
    have zc00 := B1.out.frozen 0 0 rfl
    have c01 := B1.out.cell 0 1 rfl rfl
    have zc01 := B1.out.frozen 0 1 rfl
    have c02 := B1.out.cell 0 2 rfl rfl
    have zc02 := B1.out.frozen 0 2 rfl
    have c10 := B1.out.cell 1 0 rfl rfl
    have zc10 := B1.out.frozen 1 0 rfl
    have c11 := B1.out.cell 1 1 rfl rfl
    have zc11 := B1.out.frozen 1 1 rfl
    have c12 := B1.out.cell 1 2 rfl rfl
    have zc12 := B1.out.frozen 1 2 rfl
    simp only [Nat.add_zero] at c00 zc00 c01 zc01 c02 zc02
    have B2 := Lib.hid (B1.out.setQ 1 rfl (.slice none 0 0) (.int .i64 0) (.int .i64 0))
    go_wp2
    exact bodyPost_ret (ret_qe rfl rfl rfl (B2.out.row 1 _ _ rfl) rfl) rfl (push_bad HE.out (by decide) B2.out.bel)
  replace hc := Classical.not_not.mp hc
  have e2 : chkQE n T B = 0 := if_pos hc
  rw [e2] at CK
  have HCQ := Lib.hid hc
  obtain ⟨c1, c2, c3, c4, c5⟩ := hc
  have hn64 : n ≤ 64 := by have := c1.bounds; omega
  have hn0 : 0 < n := by have := c1.bounds; omega
  clear e2 c1
  go_enter Tryd.func12, Tryd.ntmps12
  go_wp2_with fail
  rw [← HW.out]
  refine CK.out.mono ?_
  rintro e w1 ⟨rfl, b1⟩
  have B1 := Lib.hid (B0.out.next b1)
  clear b1 B0 CK HW
  have c00 := B1.out.cell 0 0 rfl rfl
  have zc00 := B1.out.frozen 0 0 rfl
  have c01 := B1.out.cell 0 1 rfl rfl
  have zc01 := B1.out.frozen 0 1 rfl
  have c02 := B1.out.cell 0 2 rfl rfl
  have zc02 := B1.out.frozen 0 2 rfl
  have c10 := B1.out.cell 1 0 rfl rfl
  have zc10 := B1.out.frozen 1 0 rfl
  have c11 := B1.out.cell 1 1 rfl rfl
  have zc11 := B1.out.frozen 1 1 rfl
  have c12 := B1.out.cell 1 2 rfl rfl
  have zc12 := B1.out.frozen 1 2 rfl
  simp only [Nat.add_zero] at c00 zc00 c01 zc01 c02 zc02
  by_cases h1 : B < T
  · have HE : Hid (pushE R.length T B = 121) := Lib.hid (by unfold pushE; rw [HN.out, if_neg (show ¬ ¬ ChkQ n T B from fun q => q HCQ.out), if_pos (.inl h1)])
    have d1 : decide (B < T) = true := decide_eq_true h1
    clear h1
    have B2 := Lib.hid (B1.out.setQ 1 rfl (.slice none 0 0) (.int .i64 0) (.int .i64 0))
    go_wp2
    exact bodyPost_ret (ret_qe rfl rfl rfl (B2.out.row 1 _ _ rfl) rfl) rfl (push_bad HE.out (by decide) B2.out.bel)
  have d1 : decide (B < T) = false := decide_eq_false h1
  by_cases h2 : B = T + n
  · have HE : Hid (pushE R.length T B = 121) := Lib.hid (by unfold pushE; rw [HN.out, if_neg (show ¬ ¬ ChkQ n T B from fun q => q HCQ.out), if_pos (.inr h2)])
    have d2 : (B == T + (n : Int)) = true := by rw [beq_iff_eq]; exact h2
    clear h1 h2
    have B2 := Lib.hid (B1.out.setQ 1 rfl (.slice none 0 0) (.int .i64 0) (.int .i64 0))
    go_wp2
    exact bodyPost_ret (ret_qe rfl rfl rfl (B2.out.row 1 _ _ rfl) rfl) rfl (push_bad HE.out (by decide) B2.out.bel)
  have d2 : (B == T + (n : Int)) = false := beq_eq_false_iff_ne.mpr h2
  have HE : Hid (pushE R.length T B = 0) := Lib.hid (by unfold pushE; rw [HN.out, if_neg (show ¬ ¬ ChkQ n T B from fun q => q HCQ.out), if_neg (fun q => q.elim h1 h2)])
  have hq1 := HQ.out.below B1.out.bel
  have CC := Lib.hid (clone_i w1 A n c R HQ.out.hn hln hq1.ints HQ.out.hA)
  obtain ⟨p, hp⟩ : ∃ p, p = plN n B := ⟨_, rfl⟩
  have HP : Hid (plN R.length B = p) := Lib.hid (by rw [HN.out, hp])
  have hpn : p < n := by rw [hp]; exact Nat.mod_lt _ hn0
  have HL1 : Hid (wf.heap.size + 1 < w1.heap.size) := Lib.hid (B1.out.row 1 _ _ rfl).lt
  clear hp HQ hq1 h1 h2 HCQ
  go_wp2_with fail
  refine CC.out.mono ?_
  rintro e w2 ⟨A2, cc, he, ho, hb2⟩
  rw [HN.out] at he ho
  subst he
  obtain ⟨g, rfl, hg1, hg2⟩ := OwnI.someC ho (by rw [HN.out]; exact hn0)
  have B2 := Lib.hid (B1.out.next hb2)
  clear c00 zc00 c01 zc01 c02 zc02 c10 zc10 c11 zc11 c12 zc12
  obtain ⟨w3, hw3, B3⟩ : ∃ w3, w3 = w2.setCell ⟨wf.heap.size, 0, none⟩ (.slice (some ⟨g, 0, none⟩) n cc) ∧ Hid (Rws wf (rowsP (some ⟨g, 0, none⟩) n cc T B) w3) := ⟨_, rfl, Lib.hid (B2.out.set 0 0 rfl (.slice (some ⟨g, 0, none⟩) n cc))⟩
  have HO3 : Hid (OwnI w3 w1.heap.size (.slice (some ⟨g, 0, none⟩) n cc) R) := Lib.hid (by rw [hw3]; exact ho.setFar (by have := HL1.out; omega))
  have HW3 := Lib.hid hw3
  have HG := Lib.hid hg1
  have c00 := B2.out.cell 0 0 rfl rfl
  have zc00 := B2.out.frozen 0 0 rfl
  have c01 := B2.out.cell 0 1 rfl rfl
  have zc01 := B2.out.frozen 0 1 rfl
  have c02 := B2.out.cell 0 2 rfl rfl
  have zc02 := B2.out.frozen 0 2 rfl
  simp only [Nat.add_zero] at c00 zc00 c01 zc01 c02 zc02
  clear ho hw3 hb2 hg1 hg2 CC
  go_upto_region 7 with fail
  rw [← HW3.out]
  clear HW3 B2 B1
  clear c00 zc00 c01 zc01 c02 zc02
  have CP := Lib.hid (fun w => dplace_any (some ⟨g, 0, none⟩) n cc T B B w hn0 hln (by omega))
  have HPL : Hid (plN n B = p) := Lib.hid (by rw [← HP.out, HN.out])
  rw [HPL.out] at CP
  refine wp_region_tail 7 [34, 35, 36, 37, 38, 39, 40, 41, 1000] [] (by kernel_rfl) (by kernel_rfl) (by intro d hd; simp at hd ⊢; omega) (fun y => Rws wf (rowsP (some ⟨g, 0, none⟩) n cc T B) y ∧ OwnI y w1.heap.size (.slice (some ⟨g, 0, none⟩) n cc) R) (PhiPs wf g n cc T B p x) (fun _ _ => True) (ThtPs wf g n cc T B p x w1.heap.size R)
    (fun y y' h hb => ⟨h.1.next hb, OwnI.below h.2 hb⟩) phiPs_below (⟨B3.out.next (Below.refl _ _).drew, OwnI.below HO3.out (Below.refl _ _).drew⟩) ?hstep ?hloose ?hmid ?htail ?hcon ?hend
  case hstep =>
    intro kq o hkm hkF ho a1 w hI hA hd K hK
    obtain ⟨ρ, hρ⟩ : ∃ ρ, a1.eval = ρ := ⟨_, rfl⟩
    rw [hρ] at hA hd
    match kq, hkm, hkF, ho with
    | 0, _, _, ho =>
      have hoo := Option.some.inj ho
      subst hoo
      exact fx_val hK hρ (.pointer (some ⟨wf.heap.size, 0, none⟩)) (by have h := hA.tmp 2 (by decide); simp [execOp, h, go_sem]) rfl
    | 1, _, _, ho =>
      have hoo := Option.some.inj ho
      subst hoo
      have f0 : ρ (.tmp 34) = .pointer (some ⟨wf.heap.size, 0, none⟩) := hd ⟨0, .data⟩ (by simp) (by rfl) (by decide)
      have h0 := hI.1.cell 0 0 rfl rfl
      simp only [Nat.add_zero] at h0
      exact fx_val hK hρ (.slice (some ⟨g, 0, none⟩) n cc) (by simp [execOp, f0, h0, go_sem]) rfl
    | 2, _, _, ho =>
      have hoo := Option.some.inj ho
      subst hoo
      have h0 := hI.1.cell 0 0 rfl rfl
      have h1 := hI.1.cell 0 1 rfl rfl
      have h2 := hI.1.cell 0 2 rfl rfl
      simp only [Nat.add_zero] at h0 h1 h2
      have hs := hA.tmp 2 (by decide)
      exact fx_val hK hρ (.agg #[.slice (some ⟨g, 0, none⟩) n cc, .int .i64 T, .int .i64 B]) (by simp [execOp, hs, h0, h1, h2, go_sem]) rfl
    | 3, _, _, ho =>
      have hoo := Option.some.inj ho
      subst hoo
      exact fx_val hK hρ (.pointer (some ⟨wf.heap.size, 2, none⟩)) (by have h := hA.tmp 2 (by decide); simp [execOp, h, go_sem]) rfl
    | 4, _, _, ho =>
      have hoo := Option.some.inj ho
      subst hoo
      have f3 : ρ (.tmp 37) = .pointer (some ⟨wf.heap.size, 2, none⟩) := hd ⟨3, .data⟩ (by simp) (by rfl) (by decide)
      have h0 := hI.1.cell 0 2 rfl rfl
      simp only [Nat.add_zero] at h0
      exact fx_val hK hρ (.int .i64 B) (by simp [execOp, f3, h0, go_sem]) rfl
    | 5, _, _, ho =>
      have hoo := Option.some.inj ho
      subst hoo
      have f2 : ρ (.tmp 36) = .agg #[.slice (some ⟨g, 0, none⟩) n cc, .int .i64 T, .int .i64 B] := hd ⟨2, .data⟩ (by simp) (by rfl) (by decide)
      have f4 : ρ (.tmp 38) = .int .i64 B := hd ⟨4, .data⟩ (by simp) (by rfl) (by decide)
      exact fx_call hK hρ 18 _ _ #[.agg #[.slice (some ⟨g, 0, none⟩) n cc, .int .i64 T, .int .i64 B], .int .i64 B] rfl (by simp only [List.map_toArray, List.map_cons, List.map_nil, hA.const, f2, f4]) (eg_of Tryd.func18 (by kernel_rfl) rfl) ((CP.out w).mono fun e w' ⟨he, hb⟩ => ⟨_, he, rfl, hb⟩)
    | 6, _, _, ho =>
      have hoo := Option.some.inj ho
      subst hoo
      exact fx_val hK hρ (.int .i64 x) (by have h := hA.tmp 1 (by decide); simp [execOp, h, go_sem]) rfl
    | kq + 7, h, _, _ => exact absurd h (by omega)
  case hloose =>
    intro kq o hkF ho ρ w hA hd
    exact absurd hkF (by simp)
  case hmid =>
    intro vals w hI hF
    exact ⟨Nat.le_refl _, by decide, hF 1 (by decide) (by decide), hF 5 (by decide) (by decide), hF 6 (by decide) (by decide), fun h => absurd h (by decide), hI.1, fun _ => hI.2, fun h => absurd h (by decide)⟩
  case htail =>
    intro t o htm ho a1 w hA hT hL K hK
    have htl : t < 9 := (Array.getElem?_eq_some_iff.1 ho).1
    obtain ⟨ρ, hρ⟩ : ∃ ρ, a1.eval = ρ := ⟨_, rfl⟩
    rw [hρ] at hA
    try rw [hρ] at hL
    obtain rfl | rfl : t = 7 ∨ t = 8 := by omega
    · have hoo := Option.some.inj ho
      subst hoo
      obtain ⟨t1, t2, g35, g39, g40, g41, hr, ho1, ho2⟩ := hT
      simp only [hρ] at g35 g39 g40 g41
      unfold Oper.wp
      rw [show (execOp a1.eval _).run Tryd.prog w = .ok (.value (.pointer (some ⟨g, p, none⟩))) (w) from by rw [hρ]; simp [execOp, g35, g39, go_sem]; omega, Oper.upon_value]
      refine hK _ _ ⟨by decide, by decide, ?_⟩
      simp only [Option.some.injEq, Nat.reduceEqDiff, if_false, if_true, hρ]
      exact ⟨g35, g39, g40, fun _ => rfl, hr, fun _ => ho1 (by decide), fun h => absurd h (by decide)⟩
    · have hoo := Option.some.inj ho
      subst hoo
      obtain ⟨t1, t2, g35, g39, g40, g41, hr, ho1, ho2⟩ := hT
      simp only [hρ] at g35 g39 g40 g41
      have ho := ho1 (by decide)
      obtain ⟨z0, e1⟩ := ho.cellC (j := p) (by rw [HN.out]; exact hpn)
      have e2 := ho.frozenC p
      have h41 := g41 (by decide)
      unfold Oper.wp
      rw [show (execOp a1.eval _).run Tryd.prog w = .ok .skip (w.setCell ⟨g, p, none⟩ (.int .i64 x)) from by rw [hρ]; simp [execOp, h41, g40, e1, e2, go_sem], Oper.upon_skip]
      refine hK undef _ ⟨by decide, by decide, ?_⟩
      simp only [reduceCtorEq, if_false, hρ]
      exact ⟨g35, g39, g40, fun _ => h41, rws_far hr (by have := HG.out; have := HL1.out; simp [rowsP]; omega) _, fun h => absurd h (by decide), fun _ => ownI_setC ho (by rw [HN.out]; exact hpn) x⟩
  case hcon =>
    intro t f g w h hT
    obtain ⟨t1, t2, g35, g39, g40, g41, hr, ho1, ho2⟩ := hT
    have q1 := h 1 (by omega) (by simp)
    have q5 := h 5 (by omega) (by simp)
    have q6 := h 6 (by omega) (by simp)
    simp only [List.getD_cons_zero, List.getD_cons_succ] at q1 q5 q6
    refine ⟨t1, t2, q1 ▸ g35, q5 ▸ g39, q6 ▸ g40, fun e => ?_, hr, ho1, ho2⟩
    have q7 := h 7 (by omega) (by simp)
    simp only [List.getD_cons_zero, List.getD_cons_succ] at q7
    exact q7 ▸ g41 e
  case hend =>
    intro vals w3 hT
    obtain ⟨_, _, _, _, _, _, hr, _, ho2⟩ := hT
    have B4 := Lib.hid hr
    have HO4 := Lib.hid (ho2 rfl)
    clear hr ho2
    simp only [fillA, fillL, List.contains_cons, List.contains_nil, Nat.reduceBEq, Bool.or_false, Bool.false_or, Bool.or_true, Bool.true_or, cond_true, cond_false, Nat.zero_add, Nat.reduceAdd]
    have c00 := B4.out.cell 0 0 rfl rfl
    have zc00 := B4.out.frozen 0 0 rfl
    have c01 := B4.out.cell 0 1 rfl rfl
    have zc01 := B4.out.frozen 0 1 rfl
    have c02 := B4.out.cell 0 2 rfl rfl
    have zc02 := B4.out.frozen 0 2 rfl
    have c10 := B4.out.cell 1 0 rfl rfl
    have zc10 := B4.out.frozen 1 0 rfl
    have c11 := B4.out.cell 1 1 rfl rfl
    have zc11 := B4.out.frozen 1 1 rfl
    have c12 := B4.out.cell 1 2 rfl rfl
    have zc12 := B4.out.frozen 1 2 rfl
    simp only [Nat.add_zero] at c00 zc00 c01 zc01 c02 zc02
    have B5 := Lib.hid ((B4.out.set 0 2 rfl (.int .i64 (B + 1))).setQ 1 rfl (.slice (some ⟨g, 0, none⟩) n cc) (.int .i64 T) (.int .i64 (B + 1)))
    have HO5 : Hid (OwnI ((((w3.setCell ⟨wf.heap.size, 2, none⟩ (.int .i64 (B + 1))).setCell ⟨wf.heap.size + 1, 0, none⟩ (.slice (some ⟨g, 0, none⟩) n cc)).setCell ⟨wf.heap.size + 1, 1, none⟩ (.int .i64 T)).setCell ⟨wf.heap.size + 1, 2, none⟩ (.int .i64 (B + 1))) w1.heap.size (.slice (some ⟨g, 0, none⟩) n cc) (R.set p x)) := Lib.hid ((((HO4.out.setFar (by have := HL1.out; omega)).setFar (by have := HL1.out; omega)).setFar (by have := HL1.out; omega)).setFar (by have := HL1.out; omega))
    go_wp2
    refine bodyPost_ret (ret_qe rfl rfl rfl (B5.out.row 1 _ _ rfl) rfl) rfl ⟨some ⟨g, 0, none⟩, n, cc, ?_, ⟨?_, ?_, hln⟩, B5.out.bel⟩
    · unfold pushT pushB; rw [HE.out]; rfl
    · unfold pushR; rw [HE.out, if_pos rfl, HP.out]; exact OwnI.down HO5.out (by have := HL1.out; omega)
    · unfold pushR; rw [HE.out, if_pos rfl, List.length_set]; exact HN.out
end
end Go.Proofs.YtcjmljpfhabmnaaDoor
set_option linter.unusedVariables false
set_option linter.unusedSimpArgs false
namespace Go.Proofs.YtcjmljpfhabmnaaDoor
open Go Go.RowKit

def NewD (w : World) (base : Nat) (v : Value) : Prop := ∃ g, v = .slice (some ⟨g, 0, none⟩) 0 0 ∧ w.heap[g]? = some (.cells #[] 3 (0, 0)) ∧ base ≤ g
theorem NewD.below {w w' : World} {base : Nat} {v : Value} (h : NewD w base v) (hb : Below w.heap.size w w') : NewD w' base v := by
  obtain ⟨g, e, hg, hl⟩ := h
  exact ⟨g, e, by rw [hb.block _ (Array.getElem?_eq_some_iff.1 hg).1]; exact hg, hl⟩
set_option maxHeartbeats 1000000 in
theorem fresh_intsD {w : World} {base : Nat} {u : Value} (hu : NewD w base u) (hbw : base ≤ w.heap.size) {A : Option Addr} {n c : Nat} {zs : List Int} (hn : zs.length = n) (hl : n ≤ 1000) (hI : Ints w w.heap.size A zs) (hA : A = none → n = 0 ∧ c = 0) :
    ∃ A1 c1 w', (Builtin.append_ #[25, 25] 25 #[u, .slice A n c]).run Tryd.prog w = .ok (.slice A1 n c1) w' ∧ OwnI w' base (.slice A1 n c1) zs ∧ Below w.heap.size w w' := by
  obtain ⟨g, rfl, hg, hbg⟩ := hu
  obtain ⟨i0, hi, hz0, hz1, hz2⟩ := int_info1
  subst hn
  obtain ⟨v', w', hr, ho, hb⟩ := fresh_append (P := Tryd.prog) w 25 25 3 i0 (.int .i64 0) 1 8 Tryd.underlying25 hi hz0 hz1 hz2 rfl (by decide) base g hg hbg hbw A zs.length c (zs.map (Value.int .i64)) (by simp) hA (fun ad e => by subst e; exact hI.cells) (oneCell_ints zs) (by unfold maxLen; omega) (by omega)
  have ho2 : OwnI w' base v' zs := ho
  obtain ⟨A1, c1, rfl, _⟩ := ho2.slice
  exact ⟨A1, c1, w', hr, ho2, hb⟩
def PhiOw (wf : World) (A : Option Addr) (n c : Nat) (R : List Int) (T B : Int) : Nat → Value → World → Prop
  | 0, v, w => NewD w (wf.heap.size + 2) v
  | 1, v, w => v = .pointer (some ⟨wf.heap.size, 0, none⟩)
  | 2, v, w => v = .slice A n c
  | 3, v, w => ∃ A1 c1, v = .slice A1 n c1 ∧ OwnI w (wf.heap.size + 2) (.slice A1 n c1) R
  | 4, v, w => v = .pointer (some ⟨wf.heap.size, 1, none⟩)
  | 5, v, w => v = .int .i64 T
  | 6, v, w => v = .pointer (some ⟨wf.heap.size, 2, none⟩)
  | 7, v, w => v = .int .i64 B
  | 8, v, w => ∃ A1 c1, v = .agg #[.slice A1 n c1, .int .i64 T, .int .i64 B] ∧ OwnI w (wf.heap.size + 2) (.slice A1 n c1) R
  | _, _, _ => True
theorem phiOw_below {wf : World} {A : Option Addr} {n c : Nat} {R : List Int} {T B : Int} : ∀ kq v w w', PhiOw wf A n c R T B kq v w → Below w.heap.size w w' → PhiOw wf A n c R T B kq v w' := by
  intro kq v w w' h hb
  match kq, h with
  | 0, h => exact NewD.below h hb
  | 1, h => exact h
  | 2, h => exact h
  | 3, h => exact (by obtain ⟨A1, c1, e, ho⟩ := h; exact ⟨A1, c1, e, OwnI.below ho hb⟩)
  | 4, h => exact h
  | 5, h => exact h
  | 6, h => exact h
  | 7, h => exact h
  | 8, h => exact (by obtain ⟨A1, c1, e, ho⟩ := h; exact ⟨A1, c1, e, OwnI.below ho hb⟩)
  | kq + 9, h => exact trivial
def ThtOw (wf : World) (A : Option Addr) (n c : Nat) (R : List Int) (T B : Int) (t : Nat) (f : Nat → Value) (w2 : World) : Prop :=
  9 ≤ t ∧ t ≤ 10 ∧ ∃ A1 c1, f 11 = .agg #[.slice A1 n c1, .int .i64 T, .int .i64 B] ∧ OwnI w2 (wf.heap.size + 2) (.slice A1 n c1) R ∧ (t = 9 → Rws wf (rowsP A n c T B) w2) ∧
    (t = 10 → Rws wf [(27, [.slice A n c, .int .i64 T, .int .i64 B]), (27, [.slice A1 n c1, .int .i64 T, .int .i64 B])] w2)
theorem results_one {fn : Func} {p : Tmp} (h : fn.results = #[.cell p 27]) {tmps : Array Value} {w : World} {g : Nat} {cs : List Value} (hp : tmps.getD p undef = .pointer (some ⟨g, 0, none⟩)) (h1 : RowV g 27 cs w) (l1 : cs.length = 3) :
    (results fn tmps).run Tryd.prog w = .ok (.agg cs.toArray) w :=
  results_cell_row h _ _ g _ _ _ _ hp h1 Tryd.underlying27 rfl (by rw [dq_info]; simp [l1])
section
variable {A : Option Addr} {n c : Nat} {R : List Int}
end
end Go.Proofs.YtcjmljpfhabmnaaDoor
set_option linter.unusedVariables false
set_option linter.unusedSimpArgs false
namespace Go.Proofs.YtcjmljpfhabmnaaDoor
open Go Go.RowKit

section
variable {A : Option Addr} {n c : Nat} {R : List Int}
end
def PhiRp (wf : World) (g n c : Nat) (A1 : Option Addr) (j c1 off bb : Nat) (y : Int) : Nat → Value → World → Prop
  | 0, v, w => v = .pointer (some ⟨g, 0, none⟩)
  | 1, v, w => v = .slice A1 j c1
  | 2, v, w => v = .pointer (some ⟨wf.heap.size, 0, none⟩)
  | 3, v, w => v = .slice (some ⟨bb, off, none⟩) n c
  | 4, v, w => v = .int .i64 j
  | 5, v, w => v = .pointer (some ⟨bb, off + j, none⟩)
  | 6, v, w => v = .int .i64 y
  | 7, v, w => OwnXs 3 (Value.slice A1 j c1).ownBlock [.int .i64 y] v w
  | _, _, _ => True
theorem phiRp_below {wf : World} {g n c : Nat} {A1 : Option Addr} {j c1 off bb : Nat} {y : Int} : ∀ kq v w w', PhiRp wf g n c A1 j c1 off bb y kq v w → Below w.heap.size w w' → PhiRp wf g n c A1 j c1 off bb y kq v w' := by
  intro kq v w w' h hb
  match kq, h with
  | 0, h => exact h
  | 1, h => exact h
  | 2, h => exact h
  | 3, h => exact h
  | 4, h => exact h
  | 5, h => exact h
  | 6, h => exact h
  | 7, h => exact OwnXs.rx (u := 0) (base := 0) h (.inl hb)
  | kq + 8, h => exact trivial
def ThtRp (wf : World) (g n c : Nat) (T B : Int) (A1 : Option Addr) (j c1 : Nat) (zs : List Int) (off bb : Nat) (y : Int) (t : Nat) (f : Nat → Value) (w2 : World) : Prop :=
  8 ≤ t ∧ t ≤ 11 ∧ f 56 = .slice A1 j c1 ∧ Rws wf (rowsP (some ⟨bb, off, none⟩) n c T B) w2 ∧ g + 1 ≤ w2.heap.size ∧
  (t = 8 → OwnXs 3 (Value.slice A1 j c1).ownBlock [.int .i64 y] (f 62) w2) ∧ (t = 8 → OwnI w2 (g + 1) (.slice A1 j c1) zs) ∧
  (9 ≤ t → ∃ A2 c2, f 63 = .slice A2 (j + 1) c2 ∧ OwnI w2 (g + 1) (.slice A2 (j + 1) c2) (zs ++ [y]) ∧ (t = 11 → RowV g 27 [.slice A2 (j + 1) c2, .int .i64 T, .int .i64 (B + 1)] w2)) ∧
  (10 ≤ t → f 64 = .pointer (some ⟨g, 0, none⟩)) ∧ (t ≤ 10 → RowV g 27 [.slice A1 j c1, .int .i64 T, .int .i64 (B + 1)] w2)
/-- A row of its own, somewhere. -/
theorem RowV.far {g k j : Nat} {t : TypeId} {vs : List Value} {w : World} {v : Value} (h : RowV g t vs w) (hk : g ≠ k) : RowV g t vs (w.setCell ⟨k, j, none⟩ v) := by
  unfold RowV at h ⊢
  rw [heap_setCell_other _ _ _ _ hk]; exact h
section
variable {A : Option Addr} {n c : Nat} {R : List Int}
theorem take_set_step {R : List Int} {p j : Nat} {x : Int} (hj : j < R.length) : (R.set p x).take (j + 1) = (R.set p x).take j ++ [if j = p then x else R.getD j 0] := by
  rw [List.take_add_one]
  congr 1
  by_cases h : j = p
  · subst h
    rw [if_pos rfl, List.getElem?_set_self hj]; rfl
  · rw [if_neg h, List.getElem?_set_ne (fun e => h e.symm), List.getD_eq_getElem?_getD, List.getElem?_eq_getElem hj]; rfl
end
end Go.Proofs.YtcjmljpfhabmnaaDoor
