/- The walk of LowTouch in the seat YtagjphcjbllclaaDoor (printed by lower/mk_touch.py). No statement is proved here. -/
import Derived.Test.YtagjphcjbllclaaDoorZLowTouchMath
import Derived.Test.YtagjphcjbllclaaDoorZM4
set_option linter.unusedVariables false
namespace Go.Proofs.YtagjphcjbllclaaDoor
open Go.RowKit

set_option maxRecDepth 100000 in
theorem idx_eqP {ρ : Operand → Value} {o : Oper} {x y : Operand} {lb lo n c k : Nat} {w : World} (ho : o.op = .indexAddr 26 x y) (hx : ρ x = .slice (some ⟨lb, lo, none⟩) n c) (hy : ρ y = .int .i64 (k : Int)) (hk : k < n) :
    (execOp ρ o).run Tryd.prog w = .ok (.value (.pointer (some ⟨lb, lo + k * 2, none⟩))) w := by
  have hk2 : (k : Int) < (n : Int) := by omega
  simp [execOp, ho, hx, hy, hk2, go_sem]
set_option maxRecDepth 100000 in
theorem idx_eqT {ρ : Operand → Value} {o : Oper} {x y : Operand} {lb lo n c k : Nat} {w : World} (ho : o.op = .indexAddr 38 x y) (hx : ρ x = .slice (some ⟨lb, lo, none⟩) n c) (hy : ρ y = .int .i64 (k : Int)) (hk : k < n) :
    (execOp ρ o).run Tryd.prog w = .ok (.value (.pointer (some ⟨lb, lo + k * 3, none⟩))) w := by
  have hk2 : (k : Int) < (n : Int) := by omega
  simp [execOp, ho, hx, hy, hk2, go_sem]
/-- A lowered task, and a future in a box. -/
structure InT (w : World) (s : Sh) (T : Task) (g : Nat) (A : Option Addr) (n c : Nat) (F : Option Addr) (m d : Nat) (R : Option Addr) (k e : Nat) (gq mN uN : Nat) (Af : Int) (w' : World) : Prop where
  l : BxL w s T g A n c F m d R k e (lowWv T) (lowEv T) (lowPv T) w'
  q0 : w'.cell? ⟨gq, 0, none⟩ = some (.int .i64 mN)
  q1 : w'.cell? ⟨gq, 1, none⟩ = some (.int .i64 uN)
  q2 : w'.cell? ⟨gq, 2, none⟩ = some (.int .i64 Af)
theorem InT.next {w : World} {s : Sh} {T : Task} {g : Nat} {A : Option Addr} {n c : Nat} {F : Option Addr} {m d : Nat} {R : Option Addr} {k e gq mN uN : Nat} {Af : Int} {y z : World} (h : InT w s T g A n c F m d R k e gq mN uN Af y) (hb : Below y.heap.size y z) : InT w s T g A n c F m d R k e gq mN uN Af z :=
  ⟨h.l.next hb, (hb.cell (World.block_lt_of_cell? _ _ h.q0)).trans h.q0, (hb.cell (World.block_lt_of_cell? _ _ h.q1)).trans h.q1, (hb.cell (World.block_lt_of_cell? _ _ h.q2)).trans h.q2⟩
theorem InT.start {w : World} {s : Sh} {T : Task} {g : Nat} {A : Option Addr} {n c : Nat} {F : Option Addr} {m d : Nat} {R : Option Addr} {k e mN uN : Nat} {Af : Int} {y : World} (h : BxL w s T g A n c F m d R k e (lowWv T) (lowEv T) (lowPv T) y) :
    InT w s T g A n c F m d R k e y.heap.size mN uN Af (y.alloc (.cells #[.int .i64 mN, .int .i64 uN, .int .i64 Af] 54)) := by
  refine ⟨h.next (below_alloc _), ?_, ?_, ?_⟩ <;> (rw [World.cell?_alloc_at _ _ _ _ rfl]; rfl)
def PhiC7 (g gq p1 o1 k e j uN : Nat) (x : Int) (nb : Bool) : Nat → Value → World → Prop
  | 0, v, w => v = .pointer (some ⟨g, 2, none⟩)
  | 1, v, w => v = .slice (some ⟨p1, o1, none⟩) k e
  | 2, v, w => v = .int .i64 j
  | 3, v, w => v = .pointer (some ⟨p1, o1 + j * 2, none⟩)
  | 4, v, w => v = .pointer (some ⟨p1, o1 + j * 2, none⟩)
  | 5, v, w => v = .int .i64 x
  | 6, v, w => v = .pointer (some ⟨gq, 1, none⟩)
  | 7, v, w => v = .int .i64 uN
  | 8, v, w => v = .bool nb
  | _, _, _ => True
theorem phiC7_below (g gq p1 o1 k e j uN : Nat) (x : Int) (nb : Bool) : ∀ kq v w w', PhiC7 g gq p1 o1 k e j uN x nb kq v w → Below w.heap.size w w' → PhiC7 g gq p1 o1 k e j uN x nb kq v w' := by
  intro kq v w w' h hb
  match kq, h with
  | 0, h => exact h
  | 1, h => exact h
  | 2, h => exact h
  | 3, h => exact h
  | 4, h => exact h
  | 5, h => exact h
  | 6, h => exact h
  | 7, h => exact h
  | 8, h => exact h
  | kq + 9, h => exact trivial
def PhiD7 (g g1 gq : Nat) (A : Option Addr) (n c : Nat) (F : Option Addr) (m d : Nat) (R : Option Addr) (k e : Nat) (pp po np pc mN uN laN : Nat) (wk iy lu : Int) : Nat → Value → World → Prop
  | 0, v, w => v = .int .i64 laN
  | 1, v, w => v = .bool true
  | 2, v, w => v = .bool true
  | 3, v, w => v = .int .i64 wk
  | 4, v, w => v = .pointer (some ⟨g1, 2, none⟩)
  | 5, v, w => v = .slice (some ⟨pp, po, none⟩) np pc
  | 6, v, w => v = .pointer (some ⟨gq, 1, none⟩)
  | 7, v, w => v = .int .i64 uN
  | 8, v, w => v = .pointer (some ⟨pp, po + uN * 3, none⟩)
  | 9, v, w => v = .pointer (some ⟨pp, po + uN * 3 + 2, none⟩)
  | 10, v, w => v = .int .i64 wk
  | 11, v, w => v = .bool true
  | 12, v, w => v = .bool true
  | 13, v, w => v = .bool true
  | 14, v, w => v = .pointer (some ⟨g, 0, none⟩)
  | 15, v, w => v = .agg #[.slice A n c, .slice F m d]
  | 16, v, w => v = .agg #[.slice A n c, .slice F m d, .slice R k e]
  | 17, v, w => v = .pointer (some ⟨gq, 0, none⟩)
  | 18, v, w => v = .int .i64 mN
  | 19, v, w => v = .agg #[.int .i64 mN, .int .i64 0]
  | 20, v, w => v = .int .i64 iy
  | 21, v, w => v = .agg #[.slice A n c, .slice F m d, .slice R k e]
  | 22, v, w => v = .pointer (some ⟨gq, 1, none⟩)
  | 23, v, w => v = .int .i64 uN
  | 24, v, w => v = .int .i64 lu
  | 25, v, w => v = .bool true
  | 26, v, w => v = .bool true
  | 27, v, w => v = .bool true
  | _, _, _ => True
theorem phiD7_below (g g1 gq : Nat) (A : Option Addr) (n c : Nat) (F : Option Addr) (m d : Nat) (R : Option Addr) (k e : Nat) (pp po np pc mN uN laN : Nat) (wk iy lu : Int) : ∀ kq v w w', PhiD7 g g1 gq A n c F m d R k e pp po np pc mN uN laN wk iy lu kq v w → Below w.heap.size w w' → PhiD7 g g1 gq A n c F m d R k e pp po np pc mN uN laN wk iy lu kq v w' := by
  intro kq v w w' h hb
  match kq, h with
  | 0, h => exact h
  | 1, h => exact h
  | 2, h => exact h
  | 3, h => exact h
  | 4, h => exact h
  | 5, h => exact h
  | 6, h => exact h
  | 7, h => exact h
  | 8, h => exact h
  | 9, h => exact h
  | 10, h => exact h
  | 11, h => exact h
  | 12, h => exact h
  | 13, h => exact h
  | 14, h => exact h
  | 15, h => exact h
  | 16, h => exact h
  | 17, h => exact h
  | 18, h => exact h
  | 19, h => exact h
  | 20, h => exact h
  | 21, h => exact h
  | 22, h => exact h
  | 23, h => exact h
  | 24, h => exact h
  | 25, h => exact h
  | 26, h => exact h
  | 27, h => exact h
  | kq + 28, h => exact trivial
set_option maxRecDepth 100000 in
set_option maxHeartbeats 4000000 in
theorem touch_many (w : World) (s : Sh) (T : Task) (a : Int) (hT : DTab w) (h : InD w s T) (f : ¬ FewD T) :
    Calls Tryd.prog 5 #[s.arg T.period T.deadline, .int .i64 a] w fun e w' => e = .returned (.bool true) ∧ Below w.heap.size w w' := by
  have HTW := Lib.hid (fun W (h : Below w.heap.size w W) => DTab.via hT h)
  have B0 := Lib.hid (Bx1T.start h.t)
  have F1 := Lib.hid f
  clear h hT f
  go_enter Tryd.func5, Tryd.ntmps5
  go_wp2_with fail
  refine (awakeL_any _ (HTW.out _ B0.out.bel)).mono ?_
  rintro e w1 ⟨rfl, b1⟩
  have B1 := Lib.hid (B0.out.next b1)
  clear b1
  obtain ⟨t1, t2, t3, t4, t5, t6⟩ := B1.out.c
  go_wp2_with fail
  refine (few_n B1.out.t F1.out).mono ?_
  rintro e w2 ⟨rfl, b2⟩
  have B2 := Lib.hid (B1.out.next b2)
  clear b2 t1 t2 t3 t4 t5 t6
  go_wp2_with fail
  refine (awakeL_any _ (HTW.out _ B2.out.bel)).mono ?_
  rintro e w3 ⟨rfl, b3⟩
  have B3 := Lib.hid (B2.out.next b3)
  clear b3
  go_wp2_with fail
  go_ret
  exact ⟨rfl, B3.out.bel⟩
set_option maxRecDepth 100000 in
set_option maxHeartbeats 4000000 in
theorem touch_under (w : World) (s : Sh) (T : Task) (a : Int) (hT : DTab w) (h : InD w s T) (f : FewD T) (ha : a < 0) :
    Calls Tryd.prog 5 #[s.arg T.period T.deadline, .int .i64 a] w fun e w' => e = .returned (.bool true) ∧ Below w.heap.size w w' := by
  have HTW := Lib.hid (fun W (h : Below w.heap.size w W) => DTab.via hT h)
  have B0 := Lib.hid ((Bx1T.start h.t).few h hT f)
  have F1 := Lib.hid f
  clear h hT f
  go_enter Tryd.func5, Tryd.ntmps5
  go_wp2_with fail
  refine (awakeL_any _ (HTW.out _ B0.out.bel)).mono ?_
  rintro e w1 ⟨rfl, b1⟩
  have B1 := Lib.hid (B0.out.next b1)
  clear b1
  obtain ⟨t1, t2, t3, t4, t5, t6⟩ := B1.out.c
  go_wp2_with fail
  refine (few_d B1.out.d.t F1.out).mono ?_
  rintro e w2 ⟨rfl, b2⟩
  have B2 := Lib.hid (B1.out.next b2)
  clear b2 t1 t2 t3 t4 t5 t6
  obtain ⟨t1, t2, t3, t4, t5, t6⟩ := B2.out.c
  go_wp2_with fail
  refine (awakeL_any _ (HTW.out _ B2.out.bel)).mono ?_
  rintro e w3 ⟨rfl, b3⟩
  have B3 := Lib.hid (B2.out.next b3)
  clear b3
  go_wp2_with fail
  go_ret
  exact ⟨rfl, B3.out.bel⟩
set_option maxRecDepth 100000 in
set_option maxHeartbeats 4000000 in
theorem touch_over (w : World) (s : Sh) (T : Task) (a : Nat) (hT : DTab w) (h : InD w s T) (f : FewD T) (ha : s.nf ≤ a) :
    Calls Tryd.prog 5 #[s.arg T.period T.deadline, .int .i64 a] w fun e w' => e = .returned (.bool true) ∧ Below w.heap.size w w' := by
  have HTW := Lib.hid (fun W (h : Below w.heap.size w W) => DTab.via hT h)
  have B0 := Lib.hid ((Bx1T.start h.t).few h hT f)
  have F1 := Lib.hid f
  have hl3 : s.nf ≤ 20 := by have := f.nf; have := h.t.hf; omega
  clear h hT f
  obtain ⟨P, np, pc, E, ne, ec, Fu, nf, fc, Rr, nr, rc⟩ := s
  simp only at ha hl3
  go_enter Tryd.func5, Tryd.ntmps5
  go_wp2_with fail
  refine (awakeL_any _ (HTW.out _ B0.out.bel)).mono ?_
  rintro e w1 ⟨rfl, b1⟩
  have B1 := Lib.hid (B0.out.next b1)
  clear b1
  obtain ⟨t1, t2, t3, t4, t5, t6⟩ := B1.out.c
  go_wp2_with fail
  refine (few_d B1.out.d.t F1.out).mono ?_
  rintro e w2 ⟨rfl, b2⟩
  have B2 := Lib.hid (B1.out.next b2)
  clear b2 t1 t2 t3 t4 t5 t6
  obtain ⟨t1, t2, t3, t4, t5, t6⟩ := B2.out.c
  simp only at t5
  go_wp2_with fail
  refine (awakeL_any _ (HTW.out _ B2.out.bel)).mono ?_
  rintro e w3 ⟨rfl, b3⟩
  have B3 := Lib.hid (B2.out.next b3)
  clear b3
  go_wp2_with fail
  go_ret
  exact ⟨rfl, B3.out.bel⟩
set_option maxRecDepth 100000 in
set_option maxHeartbeats 8000000 in
theorem touch_no (w : World) (s : Sh) (T : Task) (a : Nat) (hT : DTab w) (h : InD w s T) (f : FewD T) (ha : a < s.nf) (hX : lowX T ≠ 0) :
    Calls Tryd.prog 5 #[s.arg T.period T.deadline, .int .i64 a] w fun e w' => e = .returned (.bool true) ∧ Below w.heap.size w w' := by
  have HTW := Lib.hid (fun W (h : Below w.heap.size w W) => DTab.via hT h)
  have B0 := Lib.hid ((Bx1T.start h.t).few h hT f)
  have F1 := Lib.hid f
  have hl3 : s.nf ≤ 20 := by have := f.nf; have := h.t.hf; omega
  clear h hT f
  obtain ⟨P, np, pc, E, ne, ec, Fu, nf, fc, Rr, nr, rc⟩ := s
  simp only at ha hl3
  obtain ⟨n, hn⟩ : ∃ n, (lowWv T).length = n := ⟨_, rfl⟩
  obtain ⟨m, hm⟩ : ∃ n, (lowEv T).length = n := ⟨_, rfl⟩
  obtain ⟨k, hk⟩ : ∃ n, (lowPv T).length = n := ⟨_, rfl⟩
  have CL := Lib.hid (fun W s (h : IsD W s T) => lower_sz hn hm hk h)
  obtain ⟨r, hr⟩ : ∃ r, r = lowX T := ⟨_, rfl⟩
  rw [← hr] at CL hX
  have hb : (r != 0) = true := bne_iff_ne.mpr hX
  clear hr hX hn hm hk
  go_enter Tryd.func5, Tryd.ntmps5
  go_wp2_with fail
  refine (awakeL_any _ (HTW.out _ B0.out.bel)).mono ?_
  rintro e w1 ⟨rfl, b1⟩
  have B1 := Lib.hid (B0.out.next b1)
  clear b1
  obtain ⟨t1, t2, t3, t4, t5, t6⟩ := B1.out.c
  go_wp2_with fail
  refine (few_d B1.out.d.t F1.out).mono ?_
  rintro e w2 ⟨rfl, b2⟩
  have B2 := Lib.hid (B1.out.next b2)
  clear b2 t1 t2 t3 t4 t5 t6
  obtain ⟨t1, t2, t3, t4, t5, t6⟩ := B2.out.c
  simp only at t5
  go_wp2_with fail
  refine (own_d B2.out.d).mono ?_
  rintro e w3 ⟨s', rfl, hs', b3⟩
  have B3 := Lib.hid (B2.out.next b3)
  have HS := Lib.hid hs'
  clear b3 hs' t1 t2 t3 t4 t5 t6
  go_wp2_with fail
  refine (CL.out _ _ HS.out).mono ?_
  rintro en w4 ⟨A, c, F, d, R, e, rfl, hL, b4⟩
  obtain ⟨w5, hw5⟩ : ∃ w5, w5 = w4.alloc (.cells #[.slice A n c, .slice F m d, .slice R k e] 28) := ⟨_, rfl⟩
  have hBL := BxL.start (B3.out.next b4) hL
  rw [← hw5] at hBL
  have HW := Lib.hid hw5
  have B5 := Lib.hid hBL
  clear hw5 hBL b4 hL B0 B1 B2 B3 CL HS F1 HTW
  go_wp2_with fail
  rw [← HW.out]
  go_ret
  exact ⟨rfl, B5.out.b.bel⟩
set_option maxRecDepth 100000 in
set_option maxHeartbeats 16000000 in
theorem touch_yes (w0 : World) (s : Sh) (T : Task) (a : Nat) (hT : DTab w0) (h : InD w0 s T) (f : FewD T) (ha : a < s.nf) (hX : lowX T = 0) :
    Calls Tryd.prog 5 #[s.arg T.period T.deadline, .int .i64 a] w0 fun e w' => e = .returned (.bool true) ∧ Below w0.heap.size w0 w' := by
  have HTW := Lib.hid (fun W (h : Below w0.heap.size w0 W) => DTab.via hT h)
  have B0 := Lib.hid ((Bx1T.start h.t).few h hT f)
  have F1 := Lib.hid f
  have HTT := Lib.hid h.t
  have hl3 : s.nf ≤ 20 := by have := f.nf; have := h.t.hf; omega
  have hl1 : s.np ≤ 20 := by have := f.np; have := h.t.hp; omega
  have hOK := lowX_zero.mp hX
  have haf : a < T.futures.length := by have := h.t.hf; omega
  clear h hT f
  obtain ⟨P, np, pc, E, ne, ec, Fu, nf, fc, Rr, nr, rc⟩ := s
  simp only at ha hl3 hl1
  obtain ⟨n, hn⟩ : ∃ n, (lowWv T).length = n := ⟨_, rfl⟩
  obtain ⟨m, hm⟩ : ∃ n, (lowEv T).length = n := ⟨_, rfl⟩
  obtain ⟨k, hk⟩ : ∃ n, (lowPv T).length = n := ⟨_, rfl⟩
  have CL := Lib.hid (fun W s (h : IsD W s T) => lower_sz hn hm hk h)
  rw [hX] at CL
  have hnk : n = k := by
    have e := low_yes hOK
    have h1 := lowW_len hOK.1
    have h2 := lowP_len hOK.1
    rw [e.1] at hn
    rw [e.2.2] at hk
    omega
  subst hnk
  have hk36 : n ≤ 36 := by
    have e := low_yes hOK
    have := low_few hOK.1
    rw [e.1] at hn
    omega
  have HOK := Lib.hid hOK
  have HAF := Lib.hid haf
  have HLN := Lib.hid (And.intro hn hk)
  clear hX hm hOK haf hn hk
  go_enter Tryd.func5, Tryd.ntmps5
  go_wp2_with fail
  refine (awakeL_any _ (HTW.out _ B0.out.bel)).mono ?_
  rintro e w1 ⟨rfl, b1⟩
  have B1 := Lib.hid (B0.out.next b1)
  clear b1
  obtain ⟨t1, t2, t3, t4, t5, t6⟩ := B1.out.c
  go_wp2_with fail
  refine (few_d B1.out.d.t F1.out).mono ?_
  rintro e w2 ⟨rfl, b2⟩
  have B2 := Lib.hid (B1.out.next b2)
  clear b2 t1 t2 t3 t4 t5 t6
  obtain ⟨t1, t2, t3, t4, t5, t6⟩ := B2.out.c
  simp only at t5
  go_wp2_with fail
  refine (own_d B2.out.d).mono ?_
  rintro e w3 ⟨s', rfl, hs', b3⟩
  have B3 := Lib.hid (B2.out.next b3)
  have HS := Lib.hid hs'
  clear b3 hs' t1 t2 t3 t4 t5 t6
  go_wp2_with fail
  refine (CL.out _ _ HS.out).mono ?_
  rintro en w4 ⟨A, c, F, d, R, e, rfl, hL, b4⟩
  obtain ⟨fb, fo, mk, us, Af, hfe, hfl, hfx, v0, v1, v2⟩ := (B3.out.next b4).d.t.futures.at_ (k := a) HAF.out
  simp only at hfe
  subst hfe
  have hfA : futAt T.futures a = (mk, us, Af) := by unfold futAt; rw [List.getD_eq_getElem?_getD, hfx]; rfl
  have hfm := HOK.out.1.futures.each _ (List.mem_of_getElem? hfx)
  have hm1 := hfm.maker
  have hm2 := hfm.user
  simp only at hm1 hm2
  obtain ⟨mN, rfl⟩ : ∃ mN : Nat, mk = mN := ⟨mk.toNat, by omega⟩
  obtain ⟨uN, rfl⟩ : ∃ uN : Nat, us = uN := ⟨us.toNat, by omega⟩
  have hnp := HTT.out.hp
  simp only at hnp
  have hmN : mN < np := by omega
  have hu : uN < np := by omega
  obtain ⟨w5, hw5⟩ : ∃ w5, w5 = w4.alloc (.cells #[.slice A n c, .slice F m d, .slice R n e] 28) := ⟨_, rfl⟩
  have hBL := BxL.start (B3.out.next b4) hL
  rw [← hw5] at hBL
  have s5 : w5.heap.size = w4.heap.size + 1 := by rw [hw5]; simp
  obtain ⟨w6, hw6⟩ : ∃ w6, w6 = w5.alloc (.cells #[.int .i64 mN, .int .i64 uN, .int .i64 Af] 54) := ⟨_, rfl⟩
  have hIT := InT.start (mN := mN) (uN := uN) (Af := Af) hBL
  rw [← hw6, s5] at hIT
  have HW := Lib.hid (And.intro hw5 hw6)
  have B6 := Lib.hid hIT
  have HFA := Lib.hid hfA
  obtain ⟨laN, hla⟩ : ∃ q : Nat, lastV (lowPv T) (mN : Int) = (q : Int) := ⟨lasN T.futures mN, by rw [(low_yes HOK.out).2.2]; exact last_last (by omega)⟩
  have HLA : Hid (laN = lasN T.futures mN) := Lib.hid (by
    have := last_last (T := T) (x := mN) (by omega)
    rw [← (low_yes HOK.out).2.2, hla] at this
    omega)
  have CLA := lastL_any w6 (mN : Int) (by omega) (by omega) hIT.l.l
  rw [hla] at CLA
  have HCL := Lib.hid CLA
  have hg0 : w0.heap.size < w4.heap.size := World.block_lt_of_cell? _ _ (B3.out.next b4).c.1
  obtain ⟨t1, t2, t3, t4, t5, t6⟩ := (B3.out.next b4).c
  have HNP := Lib.hid hnp
  simp only at t1 t2 t3 t4 t5 t6
  clear hw5 hw6 hBL hIT b4 hL B0 B1 B2 B3 CL HS F1 HTW hfx hfA hfm hm1 hm2 hla CLA s5 hnp
  go_wp2_with fail
  rw [← HW.out.1, ← HW.out.2]
  clear HW t1 t2 t3 t4 t5 t6 v0 v1 v2 hfl hg0
  refine HCL.out.mono ?_
  rintro en w7 ⟨rfl, b7⟩
  have B7 := Lib.hid (B6.out.next b7)
  clear b7 B6 HCL
  go_wp2_with fail
  go_loopw [9, 10] (fun s i wr => ∃ j : Nat, j ≤ n ∧ i = .int .i64 j ∧ s = .int .i64 (aheadK (lowWv T) (lowPv T) (uN : Int) j) ∧ Hid (InT w0 ⟨P, np, pc, E, ne, ec, some ⟨fb, fo, none⟩, nf, fc, Rr, nr, rc⟩ T w4.heap.size A n c F m d R n e (w4.heap.size + 1) mN uN Af wr)) (fun _ i _ => n - (intOf i).toNat)
  case atStart => exact ⟨0, Nat.zero_le _, rfl, rfl, B7⟩
  case round =>
    obtain ⟨j, hj, rfl, rfl, BJ⟩ := hrel
    clear B7
    obtain ⟨d0, d1, d2⟩ := BJ.out.l.cells
    by_cases hlt : j < n
    · obtain ⟨p1, o1, ⟨x, st⟩, hRe, hbl, hxe, r0, r1⟩ := BJ.out.l.l.pcs.at_ (k := j) (by rw [HLN.out.2]; exact hlt)
      obtain ⟨ab, ao, zw, hAe, hbl2, hze, y0⟩ := BJ.out.l.l.g.ints.at_ (k := j) (by rw [HLN.out.1]; exact hlt)
      subst hRe hAe
      have HX := Lib.hid (fun W (h : InT w0 ⟨P, np, pc, E, ne, ec, some ⟨fb, fo, none⟩, nf, fc, Rr, nr, rc⟩ T w4.heap.size (some ⟨ab, ao, none⟩) n c F m d (some ⟨p1, o1, none⟩) n e (w4.heap.size + 1) mN uN Af W) => show W.cell? ⟨p1, o1 + j * 2, none⟩ = some (.int .i64 x) from by
        obtain ⟨p1', o1', ⟨x', y'⟩, hee, _, hxe', r0, r1⟩ := h.l.l.pcs.at_ (k := j) (by rw [HLN.out.2]; exact hlt)
        injection hee with hee
        injection hee with e1 e2
        subst e1 e2
        rw [hxe] at hxe'
        injection hxe' with hxe'
        injection hxe' with e1 e2
        subst e1 e2
        exact r0)
      have HZ := Lib.hid (fun W (h : InT w0 ⟨P, np, pc, E, ne, ec, some ⟨fb, fo, none⟩, nf, fc, Rr, nr, rc⟩ T w4.heap.size (some ⟨ab, ao, none⟩) n c F m d (some ⟨p1, o1, none⟩) n e (w4.heap.size + 1) mN uN Af W) => show W.cell? ⟨ab, ao + j, none⟩ = some (.int .i64 zw) from by
        obtain ⟨p1', o1', x', hee, _, hxe', r0⟩ := h.l.l.g.ints.at_ (k := j) (by rw [HLN.out.1]; exact hlt)
        injection hee with hee
        injection hee with e1 e2
        subst e1 e2
        rw [hze] at hxe'
        injection hxe' with hxe'
        subst hxe'
        exact r0)
      have HPX : Hid (((lowPv T).getD j (0, 0)).1 = x) := Lib.hid (by rw [List.getD_eq_getElem?_getD, hxe]; rfl)
      have hstep7 : aheadK (lowWv T) (lowPv T) (uN : Int) (j + 1) = aheadK (lowWv T) (lowPv T) (uN : Int) j + if x = (uN : Int) then zw else 0 := by
        rw [aheadK, HPX.out, List.getD_eq_getElem?_getD, hze]
        rfl
      have hwo : WorkOk (lowWv T) := by rw [(low_yes HOK.out).1]; exact HOK.out.2.work
      have hab := ahead_bound hwo (lowPv T) (uN : Int) j
      have hab2 := ahead_bound hwo (lowPv T) (uN : Int) (j + 1)
      have hway : x = (uN : Int) → Af ≤ aheadK (lowWv T) (lowPv T) (uN : Int) j → beforeV (lowWv T) (lowEv T) (laN : Int) (j : Int) = true := fun e1 e2 => by
        have hp := HPX.out
        have hlen := HLN.out.2
        obtain ⟨q1, q2, q3⟩ := low_yes HOK.out
        rw [q3] at hp hlen
        rw [q1, q3] at e2
        rw [e1] at hp
        have := touch_way HOK.out.1 HAF.out HFA.out (i := j) (by omega) hp e2
        rw [q1, q2, HLA.out]
        unfold beforeV
        rw [if_pos]
        exact ⟨HOK.out.2, by omega, by omega, by simpa using this⟩
      obtain ⟨ah, hah⟩ : ∃ q, q = aheadK (lowWv T) (lowPv T) (uN : Int) j := ⟨_, rfl⟩
      rw [← hah] at hstep7 hab hway ⊢
      obtain ⟨ah2, hah2⟩ : ∃ q, q = aheadK (lowWv T) (lowPv T) (uN : Int) (j + 1) := ⟨_, rfl⟩
      rw [← hah2] at hstep7 hab2
      obtain ⟨nb, hnb⟩ : ∃ q, (x != (uN : Int)) = q := ⟨_, rfl⟩
      have HNB := Lib.hid hnb
      have HST := Lib.hid hstep7
      have HAH2 := Lib.hid hah2
      have HWAY := Lib.hid hway
      clear hbl hxe r0 r1 hbl2 hze y0 hstep7 hwo hway hah hah2 hnb
      go_wp2_with fail
      clear d0 d1 d2
      refine wp_region_facts' [54, 55, 56, 57, 58, 59, 60, 61, 62] [] [] (by kernel_rfl) (by kernel_rfl) (by kernel_rfl) (by intro d hd; simp at hd ⊢; omega) (InT w0 ⟨P, np, pc, E, ne, ec, some ⟨fb, fo, none⟩, nf, fc, Rr, nr, rc⟩ T w4.heap.size (some ⟨ab, ao, none⟩) n c F m d (some ⟨p1, o1, none⟩) n e (w4.heap.size + 1) mN uN Af) (PhiC7 w4.heap.size (w4.heap.size + 1) p1 o1 n e j uN x nb)
        (fun x y h hb => h.next hb) (phiC7_below w4.heap.size (w4.heap.size + 1) p1 o1 n e j uN x nb) (BJ.out.next (Below.refl _ _).drew) (fun p hp => by simp at hp) (fun kq hkq => by simp at hkq) ?hstep ?hend
      case hstep =>
        intro kq o ho hw a w hI hA hd K hK
        obtain ⟨ρ, hρ⟩ : ∃ ρ, a.eval = ρ := ⟨_, rfl⟩
        rw [hρ] at hA hd
        match kq, ho with
        | 0, ho =>
          have hoo := Option.some.inj ho
          subst hoo
          exact fx_val hK hρ _ (by have h := hA.tmp 5 (by decide); simp [execOp, h, go_sem]) rfl
        | 1, ho =>
          have hoo := Option.some.inj ho
          subst hoo
          have f0 : (ρ (.tmp 54)) = .pointer (some ⟨w4.heap.size, 2, none⟩) := hd ⟨0, .data⟩ (by simp) (by rfl)
          exact fx_val hK hρ _ (by have h0 := hI.l.c2; simp [execOp, f0, h0, go_sem]) rfl
        | 2, ho =>
          have hoo := Option.some.inj ho
          subst hoo
          exact fx_val hK hρ (.int .i64 j) (by have h := hA.tmp 10 (by decide); simp [execOp, h, go_sem]) rfl
        | 3, ho =>
          have hoo := Option.some.inj ho
          subst hoo
          have f1 : (ρ (.tmp 55)) = .slice (some ⟨p1, o1, none⟩) n e := hd ⟨1, .data⟩ (by simp) (by rfl)
          have f2 : (ρ (.tmp 56)) = .int .i64 j := hd ⟨2, .data⟩ (by simp) (by rfl)
          exact fx_val hK hρ _ (idx_eqP rfl f1 f2 hlt) rfl
        | 4, ho =>
          have hoo := Option.some.inj ho
          subst hoo
          have f3 : (ρ (.tmp 57)) = .pointer (some ⟨p1, o1 + j * 2, none⟩) := hd ⟨3, .data⟩ (by simp) (by rfl)
          exact fx_val hK hρ _ (by simp [execOp, f3, go_sem]) rfl
        | 5, ho =>
          have hoo := Option.some.inj ho
          subst hoo
          have f4 : (ρ (.tmp 58)) = .pointer (some ⟨p1, o1 + j * 2, none⟩) := hd ⟨4, .data⟩ (by simp) (by rfl)
          exact fx_val hK hρ _ (by have h0 := HX.out _ hI; simp [execOp, f4, h0, go_sem]) rfl
        | 6, ho =>
          have hoo := Option.some.inj ho
          subst hoo
          exact fx_val hK hρ _ (by have h := hA.tmp 7 (by decide); simp [execOp, h, go_sem]) rfl
        | 7, ho =>
          have hoo := Option.some.inj ho
          subst hoo
          have f6 : (ρ (.tmp 60)) = .pointer (some ⟨(w4.heap.size + 1), 1, none⟩) := hd ⟨6, .data⟩ (by simp) (by rfl)
          exact fx_val hK hρ _ (by have h0 := hI.q1; simp [execOp, f6, h0, go_sem]) rfl
        | 8, ho =>
          have hoo := Option.some.inj ho
          subst hoo
          have f5 : (ρ (.tmp 59)) = .int .i64 x := hd ⟨5, .data⟩ (by simp) (by rfl)
          have f7 : (ρ (.tmp 61)) = .int .i64 uN := hd ⟨7, .data⟩ (by simp) (by rfl)
          exact fx_val hK hρ (.bool nb) (by simp [execOp, f5, f7, go_sem, HNB.out]) rfl
        | kq + 9, ho => simp at ho
      case hend =>
        intro vals xw hI hF
        have f8 : vals 62 = .bool nb := hF 8 (by decide)
        simp only [fillA, fillL, List.contains_cons, List.contains_nil, Nat.reduceBEq, Bool.or_false, Bool.or_true, cond_true, cond_false, Nat.zero_add, Nat.reduceAdd]
        rw [f8]
        have HJ := Lib.hid hI
        clear hF hI f8 BJ
        obtain ⟨d0, d1, d2⟩ := HJ.out.l.cells
        have e2 := HJ.out.q2
        have z0 := HZ.out _ HJ.out
        by_cases hxu : x = (uN : Int)
        · obtain rfl : nb = false := by rw [← HNB.out, hxu]; simp
          have hs : ah2 = ah + zw := by rw [HST.out, if_pos hxu]
          have HS2 := Lib.hid hs
          have hb3 : 0 ≤ ah + zw ∧ ah + zw ≤ 100000 := by rw [← hs]; omega
          have HXU := Lib.hid hxu
          clear hs hxu hab2
          by_cases hA : Af ≤ ah
          · have CB := before_done xw (laN : Int) (j : Int) HJ.out.l.l.g
            rw [HWAY.out HXU.out hA] at CB
            have HCB := Lib.hid CB
            clear CB
            go_wp2_with fail
            refine HCB.out.mono ?_
            rintro en w8 ⟨rfl, b8⟩
            have HJ8 := Lib.hid (HJ.out.next b8)
            clear b8 HCB d0 d1 d2 e2 z0 hA
            obtain ⟨d0, d1, d2⟩ := HJ8.out.l.cells
            have z0 := HZ.out _ HJ8.out
            go_wp2
            go_roundw
            case rel => exact ⟨j + 1, by omega, by go_num, by rw [← HAH2.out, HS2.out], HJ8⟩
            case measure => simp [intOf]; omega
          · go_wp2
            go_roundw
            case rel => exact ⟨j + 1, by omega, by go_num, by rw [← HAH2.out, HS2.out], HJ⟩
            case measure => simp [intOf]; omega
        · obtain rfl : nb = true := by rw [← HNB.out]; simpa using hxu
          have HS2 : Hid (ah2 = ah) := Lib.hid (by rw [HST.out, if_neg hxu]; omega)
          clear hxu
          go_wp2
          go_roundw
          case rel => exact ⟨j + 1, by omega, by go_num, by rw [← HAH2.out, HS2.out], HJ⟩
          case measure => simp [intOf]; omega
    · obtain rfl : n = j := by omega
      obtain ⟨pp, po, px, py, wk, hPe, hbl, hpx, r0, r1, r2⟩ := BJ.out.l.b.d.t.parts.at_ (k := uN) (by rw [HNP.out]; exact hu)
      simp only at hPe
      subst hPe
      have HWK := Lib.hid (fun W (h : InT w0 ⟨some ⟨pp, po, none⟩, np, pc, E, ne, ec, some ⟨fb, fo, none⟩, nf, fc, Rr, nr, rc⟩ T w4.heap.size A n c F m d R n e (w4.heap.size + 1) mN uN Af W) => show W.cell? ⟨pp, po + uN * 3 + 2, none⟩ = some (.int .i64 wk) from by
        obtain ⟨p1', o1', x', y', z', hee, _, hxe', r0, r1, r2⟩ := h.l.b.d.t.parts.at_ (k := uN) (by rw [HNP.out]; exact hu)
        injection hee with hee
        injection hee with e1 e2
        subst e1 e2
        rw [hpx] at hxe'
        injection hxe' with hxe'
        injection hxe' with e1 e2
        injection e2 with e2 e3
        subst e1 e2 e3
        exact r2)
      have hah : aheadK (lowWv T) (lowPv T) (uN : Int) n = wk := by
        have hlen := HLN.out.2
        obtain ⟨q1, q2, q3⟩ := low_yes HOK.out
        rw [q3] at hlen
        rw [q1, q3, ← hlen, ahead_all (by rw [HNP.out]; exact hu), List.getD_eq_getElem?_getD, hpx]
        rfl
      have hbef : beforeV (lowWv T) (lowEv T) (idxV (lowPv T) ((mN : Int), 0)) (lastV (lowPv T) (uN : Int)) = true := by
        obtain ⟨q1, q2, q3⟩ := low_yes HOK.out
        rw [q1, q2, q3, idx_first (by rw [HNP.out]; exact hmN), last_last (by rw [HNP.out]; exact hu)]
        unfold beforeV
        rw [if_pos]
        exact ⟨HOK.out.2, by omega, by omega, by simpa using touch_whole HOK.out.1 HAF.out HFA.out⟩
      rw [hah]
      obtain ⟨iy, hiy⟩ : ∃ l, l = idxV (lowPv T) ((mN : Int), 0) := ⟨_, rfl⟩
      obtain ⟨lu, hlu⟩ : ∃ l, l = lastV (lowPv T) (uN : Int) := ⟨_, rfl⟩
      have CNO := Lib.hid (fun W (h : BxL w0 ⟨some ⟨pp, po, none⟩, np, pc, E, ne, ec, some ⟨fb, fo, none⟩, nf, fc, Rr, nr, rc⟩ T w4.heap.size A n c F m d R n e (lowWv T) (lowEv T) (lowPv T) W) => nodeL_any W (mN : Int) 0 h.l)
      have CLU := Lib.hid (fun W (h : BxL w0 ⟨some ⟨pp, po, none⟩, np, pc, E, ne, ec, some ⟨fb, fo, none⟩, nf, fc, Rr, nr, rc⟩ T w4.heap.size A n c F m d R n e (lowWv T) (lowEv T) (lowPv T) W) => lastL_any W (uN : Int) (by omega) (by omega) h.l)
      have CBE := Lib.hid (fun W (h : BxL w0 ⟨some ⟨pp, po, none⟩, np, pc, E, ne, ec, some ⟨fb, fo, none⟩, nf, fc, Rr, nr, rc⟩ T w4.heap.size A n c F m d R n e (lowWv T) (lowEv T) (lowPv T) W) => before_done W (idxV (lowPv T) ((mN : Int), 0)) (lastV (lowPv T) (uN : Int)) h.l.g)
      rw [hbef, ← hiy, ← hlu] at CBE
      rw [← hiy] at CNO
      rw [← hlu] at CLU
      clear hbl hpx r0 r1 r2 hah hbef hiy hlu
      go_wp2_with fail
      clear d0 d1 d2
      refine wp_region_facts' [83, 84, 85, 86, 87, 88, 89, 90, 91, 92, 93, 94, 95, 96, 97, 98, 99, 100, 101, 102, 103, 104, 105, 106, 107, 108, 109, 4] [] [(2, true), (13, true)] (by kernel_rfl) (by kernel_rfl) (by kernel_rfl) (by intro d hd; simp at hd ⊢; omega) (InT w0 ⟨some ⟨pp, po, none⟩, np, pc, E, ne, ec, some ⟨fb, fo, none⟩, nf, fc, Rr, nr, rc⟩ T w4.heap.size A n c F m d R n e (w4.heap.size + 1) mN uN Af) (PhiD7 w4.heap.size w0.heap.size (w4.heap.size + 1) A n c F m d R n e pp po np pc mN uN laN wk iy lu)
        (fun x y h hb => h.next hb) (phiD7_below w4.heap.size w0.heap.size (w4.heap.size + 1) A n c F m d R n e pp po np pc mN uN laN wk iy lu) (BJ.out.next (Below.refl _ _).drew) (by
          intro p hp v x hv
          rcases List.mem_cons.mp hp with rfl | hp
          · exact hv
          · obtain rfl := List.mem_singleton.mp hp
            exact hv) (fun kq hkq => by simp at hkq) ?hstepD ?hendD
      case hstepD =>
        intro kq o ho hw a w hI hA hd K hK
        obtain ⟨ρ, hρ⟩ : ∃ ρ, a.eval = ρ := ⟨_, rfl⟩
        rw [hρ] at hA hd
        match kq, ho with
        | 0, ho =>
          have hoo := Option.some.inj ho
          subst hoo
          exact fx_val hK hρ (.int .i64 laN) (by have h := hA.tmp 8 (by decide); simp [execOp, h, go_sem]) rfl
        | 1, ho =>
          have hoo := Option.some.inj ho
          subst hoo
          have f0 : (ρ (.tmp 83)) = .int .i64 laN := hd ⟨0, .data⟩ (by simp) (by rfl)
          exact fx_val hK hρ (.bool true) (by simp [execOp, f0, hA.const, go_sem]) rfl
        | 2, ho =>
          have hoo := Option.some.inj ho
          subst hoo
          have f1 : (ρ (.tmp 84)) = .bool true := hd ⟨1, .data⟩ (by simp) (by rfl)
          exact fx_val hK hρ (.bool true) (by simp [execOp, f1, go_sem]) rfl
        | 3, ho =>
          have hoo := Option.some.inj ho
          subst hoo
          exact fx_val hK hρ (.int .i64 wk) (by have h := hA.tmp 9 (by decide); simp [execOp, h, go_sem]) rfl
        | 4, ho =>
          have hoo := Option.some.inj ho
          subst hoo
          exact fx_val hK hρ _ (by have h := hA.tmp 2 (by decide); simp [execOp, h, go_sem]) rfl
        | 5, ho =>
          have hoo := Option.some.inj ho
          subst hoo
          have f4 : (ρ (.tmp 87)) = .pointer (some ⟨w0.heap.size, 2, none⟩) := hd ⟨4, .data⟩ (by simp) (by rfl)
          exact fx_val hK hρ _ (by have h0 := hI.l.b.c.2.2.1; simp [execOp, f4, h0, go_sem]) rfl
        | 6, ho =>
          have hoo := Option.some.inj ho
          subst hoo
          exact fx_val hK hρ _ (by have h := hA.tmp 7 (by decide); simp [execOp, h, go_sem]) rfl
        | 7, ho =>
          have hoo := Option.some.inj ho
          subst hoo
          have f6 : (ρ (.tmp 89)) = .pointer (some ⟨(w4.heap.size + 1), 1, none⟩) := hd ⟨6, .data⟩ (by simp) (by rfl)
          exact fx_val hK hρ _ (by have h0 := hI.q1; simp [execOp, f6, h0, go_sem]) rfl
        | 8, ho =>
          have hoo := Option.some.inj ho
          subst hoo
          have f5 : (ρ (.tmp 88)) = .slice (some ⟨pp, po, none⟩) np pc := hd ⟨5, .data⟩ (by simp) (by rfl)
          have f7 : (ρ (.tmp 90)) = .int .i64 uN := hd ⟨7, .data⟩ (by simp) (by rfl)
          exact fx_val hK hρ _ (idx_eqT rfl f5 f7 hu) rfl
        | 9, ho =>
          have hoo := Option.some.inj ho
          subst hoo
          have f8 : (ρ (.tmp 91)) = .pointer (some ⟨pp, po + uN * 3, none⟩) := hd ⟨8, .data⟩ (by simp) (by rfl)
          exact fx_val hK hρ _ (by simp [execOp, f8, go_sem]) rfl
        | 10, ho =>
          have hoo := Option.some.inj ho
          subst hoo
          have f9 : (ρ (.tmp 92)) = .pointer (some ⟨pp, po + uN * 3 + 2, none⟩) := hd ⟨9, .data⟩ (by simp) (by rfl)
          exact fx_val hK hρ _ (by have h0 := HWK.out _ hI; simp [execOp, f9, h0, go_sem]) rfl
        | 11, ho =>
          have hoo := Option.some.inj ho
          subst hoo
          have f3 : (ρ (.tmp 86)) = .int .i64 wk := hd ⟨3, .data⟩ (by simp) (by rfl)
          have f10 : (ρ (.tmp 93)) = .int .i64 wk := hd ⟨10, .data⟩ (by simp) (by rfl)
          exact fx_val hK hρ (.bool true) (by simp [execOp, f3, f10, go_sem]) rfl
        | 12, ho =>
          have hoo := Option.some.inj ho
          subst hoo
          have f2 : (ρ (.tmp 85)) = .bool true := hd ⟨2, .data⟩ (by simp) (by rfl)
          have f11 : (ρ (.tmp 94)) = .bool true := hd ⟨11, .data⟩ (by simp) (by rfl)
          exact fx_val hK hρ (.bool true) (by simp [execOp, f2, f11, go_sem]) rfl
        | 13, ho =>
          have hoo := Option.some.inj ho
          subst hoo
          have f12 : (ρ (.tmp 95)) = .bool true := hd ⟨12, .data⟩ (by simp) (by rfl)
          exact fx_val hK hρ (.bool true) (by simp [execOp, f12, go_sem]) rfl
        | 14, ho =>
          have hoo := Option.some.inj ho
          subst hoo
          exact fx_val hK hρ _ (by have h := hA.tmp 5 (by decide); simp [execOp, h, go_sem]) rfl
        | 15, ho =>
          have hoo := Option.some.inj ho
          subst hoo
          have f14 : (ρ (.tmp 97)) = .pointer (some ⟨w4.heap.size, 0, none⟩) := hd ⟨14, .data⟩ (by simp) (by rfl)
          exact fx_val hK hρ _ (by have h0 := hI.l.c0; have h1 := hI.l.c1; simp [execOp, f14, h0, h1, go_sem]) rfl
        | 16, ho =>
          have hoo := Option.some.inj ho
          subst hoo
          exact fx_val hK hρ _ (by have h := hA.tmp 5 (by decide); have h0 := hI.l.c0; have h1 := hI.l.c1; have h2 := hI.l.c2; simp [execOp, h, h0, h1, h2, go_sem]) rfl
        | 17, ho =>
          have hoo := Option.some.inj ho
          subst hoo
          exact fx_val hK hρ _ (by have h := hA.tmp 7 (by decide); simp [execOp, h, go_sem]) rfl
        | 18, ho =>
          have hoo := Option.some.inj ho
          subst hoo
          have f17 : (ρ (.tmp 100)) = .pointer (some ⟨(w4.heap.size + 1), 0, none⟩) := hd ⟨17, .data⟩ (by simp) (by rfl)
          exact fx_val hK hρ _ (by have h0 := hI.q0; simp [execOp, f17, h0, go_sem]) rfl
        | 19, ho =>
          have hoo := Option.some.inj ho
          subst hoo
          have f18 : (ρ (.tmp 101)) = .int .i64 mN := hd ⟨18, .data⟩ (by simp) (by rfl)
          exact fx_val hK hρ (.agg #[.int .i64 mN, .int .i64 0]) (by simp [execOp, f18, go_sem]) rfl
        | 20, ho =>
          have hoo := Option.some.inj ho
          subst hoo
          have f16 : (ρ (.tmp 99)) = .agg #[.slice A n c, .slice F m d, .slice R n e] := hd ⟨16, .data⟩ (by simp) (by rfl)
          have f19 : (ρ (.tmp 102)) = .agg #[.int .i64 mN, .int .i64 0] := hd ⟨19, .data⟩ (by simp) (by rfl)
          exact fx_call hK hρ 11 _ _ _ rfl (by simp only [List.map_toArray, List.map_cons, List.map_nil, f16, f19]) (eg_of Tryd.func11 (by kernel_rfl) rfl) ((CNO.out _ hI.l).mono fun e w' ⟨he, hb⟩ => ⟨_, he, rfl, hb⟩)
        | 21, ho =>
          have hoo := Option.some.inj ho
          subst hoo
          exact fx_val hK hρ _ (by have h := hA.tmp 5 (by decide); have h0 := hI.l.c0; have h1 := hI.l.c1; have h2 := hI.l.c2; simp [execOp, h, h0, h1, h2, go_sem]) rfl
        | 22, ho =>
          have hoo := Option.some.inj ho
          subst hoo
          exact fx_val hK hρ _ (by have h := hA.tmp 7 (by decide); simp [execOp, h, go_sem]) rfl
        | 23, ho =>
          have hoo := Option.some.inj ho
          subst hoo
          have f22 : (ρ (.tmp 105)) = .pointer (some ⟨(w4.heap.size + 1), 1, none⟩) := hd ⟨22, .data⟩ (by simp) (by rfl)
          exact fx_val hK hρ _ (by have h0 := hI.q1; simp [execOp, f22, h0, go_sem]) rfl
        | 24, ho =>
          have hoo := Option.some.inj ho
          subst hoo
          have f21 : (ρ (.tmp 104)) = .agg #[.slice A n c, .slice F m d, .slice R n e] := hd ⟨21, .data⟩ (by simp) (by rfl)
          have f23 : (ρ (.tmp 106)) = .int .i64 uN := hd ⟨23, .data⟩ (by simp) (by rfl)
          exact fx_call hK hρ 13 _ _ _ rfl (by simp only [List.map_toArray, List.map_cons, List.map_nil, f21, f23]) (eg_of Tryd.func13 (by kernel_rfl) rfl) ((CLU.out _ hI.l).mono fun e w' ⟨he, hb⟩ => ⟨_, he, rfl, hb⟩)
        | 25, ho =>
          have hoo := Option.some.inj ho
          subst hoo
          have f15 : (ρ (.tmp 98)) = .agg #[.slice A n c, .slice F m d] := hd ⟨15, .data⟩ (by simp) (by rfl)
          have f20 : (ρ (.tmp 103)) = .int .i64 iy := hd ⟨20, .data⟩ (by simp) (by rfl)
          have f24 : (ρ (.tmp 107)) = .int .i64 lu := hd ⟨24, .data⟩ (by simp) (by rfl)
          exact fx_call hK hρ 21 _ _ _ rfl (by simp only [List.map_toArray, List.map_cons, List.map_nil, f15, f20, f24]) (eg_of Tryd.func21 (by kernel_rfl) rfl) ((CBE.out _ hI.l).mono fun e w' ⟨he, hb⟩ => ⟨_, he, rfl, hb⟩)
        | 26, ho =>
          have hoo := Option.some.inj ho
          subst hoo
          have f13 : (ρ (.tmp 96)) = .bool true := hd ⟨13, .data⟩ (by simp) (by rfl)
          have f25 : (ρ (.tmp 108)) = .bool true := hd ⟨25, .data⟩ (by simp) (by rfl)
          exact fx_val hK hρ (.bool true) (by simp [execOp, f13, f25, go_sem]) rfl
        | 27, ho =>
          have hoo := Option.some.inj ho
          subst hoo
          have f26 : (ρ (.tmp 109)) = .bool true := hd ⟨26, .data⟩ (by simp) (by rfl)
          exact fx_val hK hρ (.bool true) (by simp [execOp, f26, go_sem]) rfl
        | kq + 28, ho => simp at ho
      case hendD =>
        intro vals xw hI hF
        have f27 : vals 4 = .bool true := hF 27 (by decide)
        simp only [fillA, fillL, List.contains_cons, List.contains_nil, Nat.reduceBEq, Bool.or_false, Bool.or_true, cond_true, cond_false, Nat.zero_add, Nat.reduceAdd]
        rw [f27]
        have HJ := Lib.hid hI
        clear hF hI f27
        go_wp2
        go_ret
        exact ⟨rfl, HJ.out.l.b.bel⟩
theorem walk_LowTouch (w : World) {s : Sh} {T : Task} (h : InD w s T) (a : Int) (ha : -9223372036854775808 ≤ a ∧ a ≤ 9223372036854775807) (hT : DTab w) :
    Calls Tryd.prog 5 #[s.arg T.period T.deadline, .int .i64 a] w fun e w' => e = .returned (.bool true) ∧ Below w.heap.size w w' := by
  by_cases f : FewD T
  · by_cases h0 : a < 0
    · exact touch_under w s T a hT h f h0
    · obtain ⟨q, rfl⟩ : ∃ q : Nat, a = q := ⟨a.toNat, by omega⟩
      by_cases h1 : s.nf ≤ q
      · exact touch_over w s T q hT h f h1
      · by_cases hX : lowX T = 0
        · exact touch_yes w s T q hT h f (by omega) hX
        · exact touch_no w s T q hT h f (by omega) hX
  · exact touch_many w s T a hT h f
end Go.Proofs.YtagjphcjbllclaaDoor
