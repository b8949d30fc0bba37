/- The walk of LowBarrier in the seat YtagjphcjbllclaaDoor (printed by lower/mk_barrier.py). No statement is proved here. -/
import Derived.Test.YtagjphcjbllclaaDoorZLowWays
import Derived.Test.YtagjphcjbllclaaDoorZM4
set_option linter.unusedVariables false
namespace Go.Proofs.YtagjphcjbllclaaDoor
open Go.RowKit

set_option maxRecDepth 100000 in
theorem idx_eqE {ρ : Operand → Value} {o : Oper} {x y : Operand} {lb lo n c k : Nat} {w : World} (ho : o.op = .indexAddr 23 x y) (hx : ρ x = .slice (some ⟨lb, lo, none⟩) n c) (hy : ρ y = .int .i64 (k : Int)) (hk : k < n) :
    (execOp ρ o).run Tryd.prog w = .ok (.value (.pointer (some ⟨lb, lo + k * 2, none⟩))) w := by
  have hk2 : (k : Int) < (n : Int) := by omega
  simp [execOp, ho, hx, hy, hk2, go_sem]
/-- A lowered task, and a barrier in a box. -/
structure InB (w : World) (s : Sh) (T : Task) (g : Nat) (A : Option Addr) (n c : Nat) (F : Option Addr) (m d : Nat) (R : Option Addr) (k e : Nat) (gq p1 o1 n1 c1 p2 o2 n2 c2 : Nat) (X Y : List Int) (w' : World) : Prop where
  l : BxL w s T g A n c F m d R k e (lowWv T) (lowEv T) (lowPv T) w'
  q0 : w'.cell? ⟨gq, 0, none⟩ = some (.slice (some ⟨p1, o1, none⟩) n1 c1)
  q1 : w'.cell? ⟨gq, 1, none⟩ = some (.slice (some ⟨p2, o2, none⟩) n2 c2)
  xs : ∀ j, j < n1 → w'.cell? ⟨p1, o1 + j, none⟩ = some (.int .i64 (X.getD j 0))
  ys : ∀ j, j < n2 → w'.cell? ⟨p2, o2 + j, none⟩ = some (.int .i64 (Y.getD j 0))
theorem InB.next {w : World} {s : Sh} {T : Task} {g : Nat} {A : Option Addr} {n c : Nat} {F : Option Addr} {m d : Nat} {R : Option Addr} {k e gq p1 o1 n1 c1 p2 o2 n2 c2 : Nat} {X Y : List Int} {y z : World} (h : InB w s T g A n c F m d R k e gq p1 o1 n1 c1 p2 o2 n2 c2 X Y y) (hb : Below y.heap.size y z) : InB w s T g A n c F m d R k e gq p1 o1 n1 c1 p2 o2 n2 c2 X Y z :=
  ⟨h.l.next hb, (hb.cell (World.block_lt_of_cell? _ _ h.q0)).trans h.q0, (hb.cell (World.block_lt_of_cell? _ _ h.q1)).trans h.q1, fun j hj => (hb.cell (World.block_lt_of_cell? _ _ (h.xs j hj))).trans (h.xs j hj), fun j hj => (hb.cell (World.block_lt_of_cell? _ _ (h.ys j hj))).trans (h.ys j hj)⟩
def PhiB7 (g gq : Nat) (A : Option Addr) (n c : Nat) (F : Option Addr) (m d : Nat) (R : Option Addr) (k e : Nat) (p1 o1 n1 c1 p2 o2 n2 c2 j1 j2 : Nat) (x y lx iy : Int) : Nat → Value → World → Prop
  | 0, v, w => v = .pointer (some ⟨g, 0, none⟩)
  | 1, v, w => v = .agg #[.slice A n c, .slice F m d]
  | 2, v, w => v = .agg #[.slice A n c, .slice F m d, .slice R k e]
  | 3, v, w => v = .pointer (some ⟨gq, 0, none⟩)
  | 4, v, w => v = .slice (some ⟨p1, o1, none⟩) n1 c1
  | 5, v, w => v = .int .i64 j1
  | 6, v, w => v = .pointer (some ⟨p1, o1 + j1, none⟩)
  | 7, v, w => v = .int .i64 x
  | 8, v, w => v = .int .i64 lx
  | 9, v, w => v = .agg #[.slice A n c, .slice F m d, .slice R k e]
  | 10, v, w => v = .pointer (some ⟨gq, 1, none⟩)
  | 11, v, w => v = .slice (some ⟨p2, o2, none⟩) n2 c2
  | 12, v, w => v = .int .i64 j2
  | 13, v, w => v = .pointer (some ⟨p2, o2 + j2, none⟩)
  | 14, v, w => v = .int .i64 y
  | 15, v, w => v = .agg #[.int .i64 y, .int .i64 0]
  | 16, v, w => v = .int .i64 iy
  | 17, v, w => v = .bool true
  | 18, v, w => v = .bool false
  | _, _, _ => True
theorem phiB7_below (g gq : Nat) (A : Option Addr) (n c : Nat) (F : Option Addr) (m d : Nat) (R : Option Addr) (k e : Nat) (p1 o1 n1 c1 p2 o2 n2 c2 j1 j2 : Nat) (x y lx iy : Int) : ∀ kq v w w', PhiB7 g gq A n c F m d R k e p1 o1 n1 c1 p2 o2 n2 c2 j1 j2 x y lx iy kq v w → Below w.heap.size w w' → PhiB7 g gq A n c F m d R k e p1 o1 n1 c1 p2 o2 n2 c2 j1 j2 x y lx iy kq v w' := by
  intro kq v w w' h hb
  match kq, h with
  | 0, h => exact h
  | 1, h => exact h
  | 2, h => exact h
  | 3, h => exact h
  | 4, h => exact h
  | 5, h => exact h
  | 6, h => exact h
  | 7, h => exact h
  | 8, h => exact h
  | 9, h => exact h
  | 10, h => exact h
  | 11, h => exact h
  | 12, h => exact h
  | 13, h => exact h
  | 14, h => exact h
  | 15, h => exact h
  | 16, h => exact h
  | 17, h => exact h
  | 18, h => exact h
  | kq + 19, h => exact trivial
def PhiE7 (g g1 : Nat) (A : Option Addr) (n c : Nat) (F : Option Addr) (m d : Nat) (R : Option Addr) (k e : Nat) (p1 o1 ne ec j1 : Nat) (x y lx iy : Int) : Nat → Value → World → Prop
  | 0, v, w => v = .pointer (some ⟨g, 0, none⟩)
  | 1, v, w => v = .agg #[.slice A n c, .slice F m d]
  | 2, v, w => v = .agg #[.slice A n c, .slice F m d, .slice R k e]
  | 3, v, w => v = .pointer (some ⟨g1, 3, none⟩)
  | 4, v, w => v = .slice (some ⟨p1, o1, none⟩) ne ec
  | 5, v, w => v = .int .i64 j1
  | 6, v, w => v = .pointer (some ⟨p1, o1 + j1 * 2, none⟩)
  | 7, v, w => v = .pointer (some ⟨p1, o1 + j1 * 2, none⟩)
  | 8, v, w => v = .int .i64 x
  | 9, v, w => v = .int .i64 lx
  | 10, v, w => v = .agg #[.slice A n c, .slice F m d, .slice R k e]
  | 11, v, w => v = .pointer (some ⟨g1, 3, none⟩)
  | 12, v, w => v = .slice (some ⟨p1, o1, none⟩) ne ec
  | 13, v, w => v = .int .i64 j1
  | 14, v, w => v = .pointer (some ⟨p1, o1 + j1 * 2, none⟩)
  | 15, v, w => v = .pointer (some ⟨p1, o1 + j1 * 2 + 1, none⟩)
  | 16, v, w => v = .int .i64 y
  | 17, v, w => v = .agg #[.int .i64 y, .int .i64 0]
  | 18, v, w => v = .int .i64 iy
  | 19, v, w => v = .bool true
  | 20, v, w => v = .bool false
  | _, _, _ => True
theorem phiE7_below (g g1 : Nat) (A : Option Addr) (n c : Nat) (F : Option Addr) (m d : Nat) (R : Option Addr) (k e : Nat) (p1 o1 ne ec j1 : Nat) (x y lx iy : Int) : ∀ kq v w w', PhiE7 g g1 A n c F m d R k e p1 o1 ne ec j1 x y lx iy kq v w → Below w.heap.size w w' → PhiE7 g g1 A n c F m d R k e p1 o1 ne ec j1 x y lx iy kq v w' := by
  intro kq v w w' h hb
  match kq, h with
  | 0, h => exact h
  | 1, h => exact h
  | 2, h => exact h
  | 3, h => exact h
  | 4, h => exact h
  | 5, h => exact h
  | 6, h => exact h
  | 7, h => exact h
  | 8, h => exact h
  | 9, h => exact h
  | 10, h => exact h
  | 11, h => exact h
  | 12, h => exact h
  | 13, h => exact h
  | 14, h => exact h
  | 15, h => exact h
  | 16, h => exact h
  | 17, h => exact h
  | 18, h => exact h
  | 19, h => exact h
  | 20, h => exact h
  | kq + 21, h => exact trivial
set_option maxRecDepth 100000 in
set_option maxHeartbeats 4000000 in
theorem barrier_many (w : World) (s : Sh) (T : Task) (hT : DTab w) (h : InD w s T) (f : ¬ FewD T) :
    Calls Tryd.prog 6 #[s.arg T.period T.deadline] w fun e w' => e = .returned (.bool true) ∧ Below w.heap.size w w' := by
  have HTW := Lib.hid (fun W (h : Below w.heap.size w W) => DTab.via hT h)
  have B0 := Lib.hid (Bx1T.start h.t)
  have F1 := Lib.hid f
  clear h hT f
  go_enter Tryd.func6, Tryd.ntmps6
  go_wp2_with fail
  refine (awakeL_any _ (HTW.out _ B0.out.bel)).mono ?_
  rintro e w1 ⟨rfl, b1⟩
  have B1 := Lib.hid (B0.out.next b1)
  clear b1
  obtain ⟨c1, c2, c3, c4, c5, c6⟩ := B1.out.c
  go_wp2_with fail
  refine (few_n B1.out.t F1.out).mono ?_
  rintro e w2 ⟨rfl, b2⟩
  have B2 := Lib.hid (B1.out.next b2)
  clear b2 c1 c2 c3 c4 c5 c6
  go_wp2_with fail
  refine (awakeL_any _ (HTW.out _ B2.out.bel)).mono ?_
  rintro e w3 ⟨rfl, b3⟩
  have B3 := Lib.hid (B2.out.next b3)
  clear b3
  go_wp2_with fail
  go_ret
  exact ⟨rfl, B3.out.bel⟩
set_option maxRecDepth 100000 in
set_option maxHeartbeats 8000000 in
theorem barrier_no (w : World) (s : Sh) (T : Task) (hT : DTab w) (h : InD w s T) (f : FewD T) (hX : lowX T ≠ 0) :
    Calls Tryd.prog 6 #[s.arg T.period T.deadline] w fun e w' => e = .returned (.bool true) ∧ Below w.heap.size w w' := by
  have HTW := Lib.hid (fun W (h : Below w.heap.size w W) => DTab.via hT h)
  have B0 := Lib.hid ((Bx1T.start h.t).few h hT f)
  have F1 := Lib.hid f
  clear h hT f
  obtain ⟨n, hn⟩ : ∃ n, (lowWv T).length = n := ⟨_, rfl⟩
  obtain ⟨m, hm⟩ : ∃ n, (lowEv T).length = n := ⟨_, rfl⟩
  obtain ⟨k, hk⟩ : ∃ n, (lowPv T).length = n := ⟨_, rfl⟩
  have CL := Lib.hid (fun W s (h : IsD W s T) => lower_sz hn hm hk h)
  obtain ⟨r, hr⟩ : ∃ r, r = lowX T := ⟨_, rfl⟩
  rw [← hr] at CL hX
  have hb : (r != 0) = true := bne_iff_ne.mpr hX
  clear hr hX hn hm hk
  go_enter Tryd.func6, Tryd.ntmps6
  go_wp2_with fail
  refine (awakeL_any _ (HTW.out _ B0.out.bel)).mono ?_
  rintro e w1 ⟨rfl, b1⟩
  have B1 := Lib.hid (B0.out.next b1)
  clear b1
  obtain ⟨c1, c2, c3, c4, c5, c6⟩ := B1.out.c
  go_wp2_with fail
  refine (few_d B1.out.d.t F1.out).mono ?_
  rintro e w2 ⟨rfl, b2⟩
  have B2 := Lib.hid (B1.out.next b2)
  clear b2 c1 c2 c3 c4 c5 c6
  obtain ⟨c1, c2, c3, c4, c5, c6⟩ := B2.out.c
  go_wp2_with fail
  refine (own_d B2.out.d).mono ?_
  rintro e w3 ⟨s', rfl, hs', b3⟩
  have B3 := Lib.hid (B2.out.next b3)
  have HS := Lib.hid hs'
  clear b3 hs' c1 c2 c3 c4 c5 c6
  go_wp2_with fail
  refine (CL.out _ _ HS.out).mono ?_
  rintro e w4 ⟨A, c, F', d, R', z, rfl, hL, b4⟩
  obtain ⟨w5, hw5⟩ : ∃ w5, w5 = w4.alloc (.cells #[.slice A n c, .slice F' m d, .slice R' k z] 28) := ⟨_, rfl⟩
  have hBL := BxL.start (B3.out.next b4) hL
  rw [← hw5] at hBL
  have HW := Lib.hid hw5
  have B5 := Lib.hid hBL
  clear hw5 hBL b4 hL B0 B1 B2 B3 CL HS F1 HTW
  go_wp2_with fail
  rw [← HW.out]
  go_ret
  exact ⟨rfl, B5.out.b.bel⟩

theorem InB.start {w : World} {s : Sh} {T : Task} {g : Nat} {A : Option Addr} {n c : Nat} {F : Option Addr} {m d : Nat} {R : Option Addr} {k e p1 o1 n1 c1 p2 o2 n2 c2 : Nat} {X Y : List Int} {y : World} (h : BxL w s T g A n c F m d R k e (lowWv T) (lowEv T) (lowPv T) y)
    (h1 : ∀ j, j < n1 → y.cell? ⟨p1, o1 + j, none⟩ = some (.int .i64 (X.getD j 0))) (h2 : ∀ j, j < n2 → y.cell? ⟨p2, o2 + j, none⟩ = some (.int .i64 (Y.getD j 0))) :
    InB w s T g A n c F m d R k e y.heap.size p1 o1 n1 c1 p2 o2 n2 c2 X Y (y.alloc (.cells #[.slice (some ⟨p1, o1, none⟩) n1 c1, .slice (some ⟨p2, o2, none⟩) n2 c2] 58)) := by
  have hb : Below y.heap.size y (y.alloc (.cells #[.slice (some ⟨p1, o1, none⟩) n1 c1, .slice (some ⟨p2, o2, none⟩) n2 c2] 58)) := below_alloc _
  refine ⟨h.next hb, ?_, ?_, fun j hj => (hb.cell (World.block_lt_of_cell? _ _ (h1 j hj))).trans (h1 j hj), fun j hj => (hb.cell (World.block_lt_of_cell? _ _ (h2 j hj))).trans (h2 j hj)⟩ <;> (rw [World.cell?_alloc_at _ _ _ _ rfl]; rfl)
theorem getD_mem {l : List Int} {j : Nat} (h : j < l.length) : l.getD j 0 ∈ l := by
  rw [List.getD_eq_getElem?_getD, List.getElem?_eq_getElem h]
  exact List.getElem_mem h
set_option maxRecDepth 100000 in
set_option maxHeartbeats 16000000 in
theorem barrier_yes (w0 : World) (s : Sh) (T : Task) (hT : DTab w0) (h : InD w0 s T) (f : FewD T) (hX : lowX T = 0) :
    Calls Tryd.prog 6 #[s.arg T.period T.deadline] w0 fun e w' => e = .returned (.bool true) ∧ Below w0.heap.size w0 w' := by
  have HTW := Lib.hid (fun W (h : Below w0.heap.size w0 W) => DTab.via hT h)
  have B0 := Lib.hid ((Bx1T.start h.t).few h hT f)
  have F1 := Lib.hid f
  have HTT := Lib.hid h.t
  have hl2 : s.ne ≤ 60 := by have := f.ne; have := h.t.he; omega
  have hl4 : s.nr ≤ 8 := by have := f.nr; have := h.t.hr; omega
  have HOK := Lib.hid (lowX_zero.mp hX)
  have HPB := Lib.hid f.np
  have HBF := Lib.hid f.bars
  clear h hT f
  obtain ⟨P, np, pc, E, ne, ec, Fu, nf, fc, Rr, nr, rc⟩ := s
  simp only at hl2 hl4
  obtain ⟨n, hn⟩ : ∃ n, (lowWv T).length = n := ⟨_, rfl⟩
  obtain ⟨m, hm⟩ : ∃ n, (lowEv T).length = n := ⟨_, rfl⟩
  obtain ⟨k, hk⟩ : ∃ n, (lowPv T).length = n := ⟨_, rfl⟩
  have CL := Lib.hid (fun W s (h : IsD W s T) => lower_sz hn hm hk h)
  rw [hX] at CL
  clear hX hn hm hk
  go_enter Tryd.func6, Tryd.ntmps6
  go_wp2_with fail
  refine (awakeL_any _ (HTW.out _ B0.out.bel)).mono ?_
  rintro e w1 ⟨rfl, b1⟩
  have B1 := Lib.hid (B0.out.next b1)
  clear b1
  obtain ⟨t1, t2, t3, t4, t5, t6⟩ := B1.out.c
  go_wp2_with fail
  refine (few_d B1.out.d.t F1.out).mono ?_
  rintro e w2 ⟨rfl, b2⟩
  have B2 := Lib.hid (B1.out.next b2)
  clear b2 t1 t2 t3 t4 t5 t6
  obtain ⟨t1, t2, t3, t4, t5, t6⟩ := B2.out.c
  go_wp2_with fail
  refine (own_d B2.out.d).mono ?_
  rintro e w3 ⟨s', rfl, hs', b3⟩
  have B3 := Lib.hid (B2.out.next b3)
  have HS := Lib.hid hs'
  clear b3 hs' t1 t2 t3 t4 t5 t6
  go_wp2_with fail
  refine (CL.out _ _ HS.out).mono ?_
  rintro en w4 ⟨A, c, F, d, R, e, rfl, hL, b4⟩
  obtain ⟨w5, hw5⟩ : ∃ w5, w5 = w4.alloc (.cells #[.slice A n c, .slice F m d, .slice R k e] 28) := ⟨_, rfl⟩
  have hBL := BxL.start (B3.out.next b4) hL
  rw [← hw5] at hBL
  have HW := Lib.hid hw5
  have B5 := Lib.hid hBL
  clear hw5 hBL b4 hL B0 B1 B2 B3 CL HS F1 HTW
  go_wp2_with fail
  rw [← HW.out]
  clear HW
  go_loopw [5] (fun i wr => ∃ j : Nat, j ≤ nr ∧ i = .int .i64 j ∧ Hid (BxL w0 ⟨P, np, pc, E, ne, ec, Fu, nf, fc, Rr, nr, rc⟩ T w4.heap.size A n c F m d R k e (lowWv T) (lowEv T) (lowPv T) wr)) (fun i _ => nr - (intOf i).toNat)
  case atStart => exact ⟨0, Nat.zero_le _, rfl, B5⟩
  case round =>
    obtain ⟨j, hj, rfl, BJ⟩ := hrel
    by_cases hlt : j < nr
    · obtain ⟨bb, ob, X, Y, A1, n1, c1, A2, n2, c2, rfl, hbl, hbx, hn1, hn2, q0, q1, I1, I2, _, _⟩ := BJ.out.b.d.t.bars.at_ (k := j) (by have := HTT.out.hr; simp only at this; omega)
      have hBO := HOK.out.1.bars (X, Y) (List.mem_of_getElem? hbx)
      obtain ⟨p1, o1, rfl, hp1, hc1⟩ := I1 hBO.ins.some_
      obtain ⟨p2, o2, rfl, hp2, hc2⟩ := I2 hBO.outs.some_
      have hFW := HBF.out j (by omega) _ hbx
      simp only at hFW
      have hIB := InB.start (n1 := n1) (c1 := c1) (n2 := n2) (c2 := c2) (X := X) (Y := Y) BJ.out (fun j h => hc1 j (by omega)) (fun j h => hc2 j (by omega))
      have hm1 : n1 ≤ 20 := by omega
      have hm2 : n2 ≤ 20 := by omega
      have HNL := Lib.hid (And.intro hn1 hn2)
      have HFO := Lib.hid (fun x (hx : x ∈ X) y (hy : y ∈ Y) => bar_follows HOK.out hbx hx hy)
      have HXB := Lib.hid (fun x (hx : x ∈ X) => hBO.ins.parts x hx)
      obtain ⟨t1, t2, t3, t4, t5, t6⟩ := BJ.out.b.c
      simp only at t1 t2 t3 t4 t5 t6
      obtain ⟨wq, hwq⟩ : ∃ wq, wq = wr.alloc (.cells #[.slice (some ⟨p1, o1, none⟩) n1 c1, .slice (some ⟨p2, o2, none⟩) n2 c2] 58) := ⟨_, rfl⟩
      rw [← hwq] at hIB
      have HIB := Lib.hid hIB
      have HQ := Lib.hid hwq
      clear hIB hwq hbx hBO hp1 hc1 hp2 hc2 hFW I1 I2 hn1 hn2
      go_wp2_with fail
      rw [← HQ.out]
      clear HQ t1 t2 t3 t4 t5 t6 q0 q1 BJ hbl
      generalize wr.heap.size = gq at HIB ⊢
      go_loopw [7] (fun i wr => ∃ j1 : Nat, j1 ≤ n1 ∧ i = .int .i64 j1 ∧ Hid (InB w0 ⟨P, np, pc, E, ne, ec, Fu, nf, fc, some ⟨bb, ob, none⟩, nr, rc⟩ T w4.heap.size A n c F m d R k e gq p1 o1 n1 c1 p2 o2 n2 c2 X Y wr)) (fun i _ => n1 - (intOf i).toNat)
      case atStart => exact ⟨0, Nat.zero_le _, rfl, HIB⟩
      case round =>
        obtain ⟨j1, hj1', rfl, BK⟩ := hrel
        have q0 := BK.out.q0
        have q1 := BK.out.q1
        by_cases hj1 : j1 < n1
        · go_wp2_with fail
          go_loopw [8] (fun i wr => ∃ j2 : Nat, j2 ≤ n2 ∧ i = .int .i64 j2 ∧ Hid (InB w0 ⟨P, np, pc, E, ne, ec, Fu, nf, fc, some ⟨bb, ob, none⟩, nr, rc⟩ T w4.heap.size A n c F m d R k e gq p1 o1 n1 c1 p2 o2 n2 c2 X Y wr)) (fun i _ => n2 - (intOf i).toNat)
          case atStart => exact ⟨0, Nat.zero_le _, rfl, BK⟩
          case round =>
            obtain ⟨j2, hj2', rfl, BM⟩ := hrel
            clear q0 q1 BK
            have q0 := BM.out.q0
            have q1 := BM.out.q1
            by_cases hj2 : j2 < n2
            · obtain ⟨x, hx⟩ : ∃ x, x = X.getD j1 0 := ⟨_, rfl⟩
              obtain ⟨y, hy⟩ : ∃ y, y = Y.getD j2 0 := ⟨_, rfl⟩
              have hxm : x ∈ X := by rw [hx]; exact getD_mem (by rw [HNL.out.1]; exact hj1)
              have hym : y ∈ Y := by rw [hy]; exact getD_mem (by rw [HNL.out.2]; exact hj2)
              have hxb := HXB.out x hxm
              have hpb := HPB.out
              have hfo := HFO.out x hxm y hym
              unfold Follows at hfo
              obtain ⟨lx, hlx⟩ : ∃ l, l = lastV (lowPv T) x := ⟨_, rfl⟩
              obtain ⟨iy, hiy⟩ : ∃ l, l = idxV (lowPv T) (y, 0) := ⟨_, rfl⟩
              have CLA := Lib.hid (fun W (h : BxL w0 ⟨P, np, pc, E, ne, ec, Fu, nf, fc, some ⟨bb, ob, none⟩, nr, rc⟩ T w4.heap.size A n c F m d R k e (lowWv T) (lowEv T) (lowPv T) W) => lastL_any W x (by omega) (by omega) h.l)
              have CNO := Lib.hid (fun W (h : BxL w0 ⟨P, np, pc, E, ne, ec, Fu, nf, fc, some ⟨bb, ob, none⟩, nr, rc⟩ T w4.heap.size A n c F m d R k e (lowWv T) (lowEv T) (lowPv T) W) => nodeL_any W y 0 h.l)
              have CBE := Lib.hid (fun W (h : BxL w0 ⟨P, np, pc, E, ne, ec, Fu, nf, fc, some ⟨bb, ob, none⟩, nr, rc⟩ T w4.heap.size A n c F m d R k e (lowWv T) (lowEv T) (lowPv T) W) => before_done W (lastV (lowPv T) x) (idxV (lowPv T) (y, 0)) h.l.g)
              rw [hfo, ← hlx, ← hiy] at CBE
              rw [← hlx] at CLA
              rw [← hiy] at CNO
              have HX := Lib.hid (fun W (h : InB w0 ⟨P, np, pc, E, ne, ec, Fu, nf, fc, some ⟨bb, ob, none⟩, nr, rc⟩ T w4.heap.size A n c F m d R k e gq p1 o1 n1 c1 p2 o2 n2 c2 X Y W) => h.xs j1 hj1)
              have HY := Lib.hid (fun W (h : InB w0 ⟨P, np, pc, E, ne, ec, Fu, nf, fc, some ⟨bb, ob, none⟩, nr, rc⟩ T w4.heap.size A n c F m d R k e gq p1 o1 n1 c1 p2 o2 n2 c2 X Y W) => h.ys j2 hj2)
              rw [← hx] at HX
              rw [← hy] at HY
              clear hx hy hxm hym hxb hpb hfo hlx hiy
              go_wp2_with fail
              clear q0 q1
              refine wp_region_facts' [52, 53, 54, 55, 56, 57, 58, 59, 60, 61, 62, 63, 64, 65, 66, 67, 68, 69, 70] [] [] (by kernel_rfl) (by kernel_rfl) (by kernel_rfl) (by intro d hd; simp at hd ⊢; omega) (InB w0 ⟨P, np, pc, E, ne, ec, Fu, nf, fc, some ⟨bb, ob, none⟩, nr, rc⟩ T w4.heap.size A n c F m d R k e gq p1 o1 n1 c1 p2 o2 n2 c2 X Y) (PhiB7 w4.heap.size gq A n c F m d R k e p1 o1 n1 c1 p2 o2 n2 c2 j1 j2 x y lx iy)
                (fun x y h hb => h.next hb) (phiB7_below w4.heap.size gq A n c F m d R k e p1 o1 n1 c1 p2 o2 n2 c2 j1 j2 x y lx iy) (BM.out.next (Below.refl _ _).drew) (fun p hp => by simp at hp) (fun kq hkq => by simp at hkq) ?hstep ?hend
              case hstep =>
                intro kq o ho hw a w hI hA hd K hK
                obtain ⟨ρ, hρ⟩ : ∃ ρ, a.eval = ρ := ⟨_, rfl⟩
                rw [hρ] at hA hd
                match kq, ho with
                | 0, ho =>
                  have hoo := Option.some.inj ho
                  subst hoo
                  exact fx_val hK hρ _ (by have h := hA.tmp 3 (by decide); simp [execOp, h, go_sem]) rfl
                | 1, ho =>
                  have hoo := Option.some.inj ho
                  subst hoo
                  have f0 : (ρ (.tmp 52)) = .pointer (some ⟨w4.heap.size, 0, none⟩) := hd ⟨0, .data⟩ (by simp) (by rfl)
                  exact fx_val hK hρ _ (by have h0 := hI.l.c0; have h1 := hI.l.c1; simp [execOp, f0, h0, h1, go_sem]) rfl
                | 2, ho =>
                  have hoo := Option.some.inj ho
                  subst hoo
                  exact fx_val hK hρ _ (by have h := hA.tmp 3 (by decide); have h0 := hI.l.c0; have h1 := hI.l.c1; have h2 := hI.l.c2; simp [execOp, h, h0, h1, h2, go_sem]) rfl
                | 3, ho =>
                  have hoo := Option.some.inj ho
                  subst hoo
                  exact fx_val hK hρ _ (by have h := hA.tmp 6 (by decide); simp [execOp, h, go_sem]) rfl
                | 4, ho =>
                  have hoo := Option.some.inj ho
                  subst hoo
                  have f3 : (ρ (.tmp 55)) = .pointer (some ⟨gq, 0, none⟩) := hd ⟨3, .data⟩ (by simp) (by rfl)
                  exact fx_val hK hρ _ (by have h0 := hI.q0; simp [execOp, f3, h0, go_sem]) rfl
                | 5, ho =>
                  have hoo := Option.some.inj ho
                  subst hoo
                  exact fx_val hK hρ (.int .i64 j1) (by have h := hA.tmp 7 (by decide); simp [execOp, h, go_sem]) rfl
                | 6, ho =>
                  have hoo := Option.some.inj ho
                  subst hoo
                  have f4 : (ρ (.tmp 56)) = .slice (some ⟨p1, o1, none⟩) n1 c1 := hd ⟨4, .data⟩ (by simp) (by rfl)
                  have f5 : (ρ (.tmp 57)) = .int .i64 j1 := hd ⟨5, .data⟩ (by simp) (by rfl)
                  exact fx_val hK hρ _ (idx_eq rfl f4 f5 hj1) rfl
                | 7, ho =>
                  have hoo := Option.some.inj ho
                  subst hoo
                  have f6 : (ρ (.tmp 58)) = .pointer (some ⟨p1, o1 + j1, none⟩) := hd ⟨6, .data⟩ (by simp) (by rfl)
                  exact fx_val hK hρ _ (by have h0 := HX.out _ hI; simp [execOp, f6, h0, go_sem]) rfl
                | 8, ho =>
                  have hoo := Option.some.inj ho
                  subst hoo
                  have f2 : (ρ (.tmp 54)) = .agg #[.slice A n c, .slice F m d, .slice R k e] := hd ⟨2, .data⟩ (by simp) (by rfl)
                  have f7 : (ρ (.tmp 59)) = .int .i64 x := hd ⟨7, .data⟩ (by simp) (by rfl)
                  exact fx_call hK hρ 13 _ _ _ rfl (by simp only [List.map_toArray, List.map_cons, List.map_nil, f2, f7]) (eg_of Tryd.func13 (by kernel_rfl) rfl) ((CLA.out _ hI.l).mono fun e w' ⟨he, hb⟩ => ⟨_, he, rfl, hb⟩)
                | 9, ho =>
                  have hoo := Option.some.inj ho
                  subst hoo
                  exact fx_val hK hρ _ (by have h := hA.tmp 3 (by decide); have h0 := hI.l.c0; have h1 := hI.l.c1; have h2 := hI.l.c2; simp [execOp, h, h0, h1, h2, go_sem]) rfl
                | 10, ho =>
                  have hoo := Option.some.inj ho
                  subst hoo
                  exact fx_val hK hρ _ (by have h := hA.tmp 6 (by decide); simp [execOp, h, go_sem]) rfl
                | 11, ho =>
                  have hoo := Option.some.inj ho
                  subst hoo
                  have f10 : (ρ (.tmp 62)) = .pointer (some ⟨gq, 1, none⟩) := hd ⟨10, .data⟩ (by simp) (by rfl)
                  exact fx_val hK hρ _ (by have h0 := hI.q1; simp [execOp, f10, h0, go_sem]) rfl
                | 12, ho =>
                  have hoo := Option.some.inj ho
                  subst hoo
                  exact fx_val hK hρ (.int .i64 j2) (by have h := hA.tmp 8 (by decide); simp [execOp, h, go_sem]) rfl
                | 13, ho =>
                  have hoo := Option.some.inj ho
                  subst hoo
                  have f11 : (ρ (.tmp 63)) = .slice (some ⟨p2, o2, none⟩) n2 c2 := hd ⟨11, .data⟩ (by simp) (by rfl)
                  have f12 : (ρ (.tmp 64)) = .int .i64 j2 := hd ⟨12, .data⟩ (by simp) (by rfl)
                  exact fx_val hK hρ _ (idx_eq rfl f11 f12 hj2) rfl
                | 14, ho =>
                  have hoo := Option.some.inj ho
                  subst hoo
                  have f13 : (ρ (.tmp 65)) = .pointer (some ⟨p2, o2 + j2, none⟩) := hd ⟨13, .data⟩ (by simp) (by rfl)
                  exact fx_val hK hρ _ (by have h0 := HY.out _ hI; simp [execOp, f13, h0, go_sem]) rfl
                | 15, ho =>
                  have hoo := Option.some.inj ho
                  subst hoo
                  have f14 : (ρ (.tmp 66)) = .int .i64 y := hd ⟨14, .data⟩ (by simp) (by rfl)
                  exact fx_val hK hρ (.agg #[.int .i64 y, .int .i64 0]) (by simp [execOp, f14, go_sem]) rfl
                | 16, ho =>
                  have hoo := Option.some.inj ho
                  subst hoo
                  have f9 : (ρ (.tmp 61)) = .agg #[.slice A n c, .slice F m d, .slice R k e] := hd ⟨9, .data⟩ (by simp) (by rfl)
                  have f15 : (ρ (.tmp 67)) = .agg #[.int .i64 y, .int .i64 0] := hd ⟨15, .data⟩ (by simp) (by rfl)
                  exact fx_call hK hρ 11 _ _ _ rfl (by simp only [List.map_toArray, List.map_cons, List.map_nil, f9, f15]) (eg_of Tryd.func11 (by kernel_rfl) rfl) ((CNO.out _ hI.l).mono fun e w' ⟨he, hb⟩ => ⟨_, he, rfl, hb⟩)
                | 17, ho =>
                  have hoo := Option.some.inj ho
                  subst hoo
                  have f1 : (ρ (.tmp 53)) = .agg #[.slice A n c, .slice F m d] := hd ⟨1, .data⟩ (by simp) (by rfl)
                  have f8 : (ρ (.tmp 60)) = .int .i64 lx := hd ⟨8, .data⟩ (by simp) (by rfl)
                  have f16 : (ρ (.tmp 68)) = .int .i64 iy := hd ⟨16, .data⟩ (by simp) (by rfl)
                  exact fx_call hK hρ 21 _ _ _ rfl (by simp only [List.map_toArray, List.map_cons, List.map_nil, f1, f8, f16]) (eg_of Tryd.func21 (by kernel_rfl) rfl) ((CBE.out _ hI.l).mono fun e w' ⟨he, hb⟩ => ⟨_, he, rfl, hb⟩)
                | 18, ho =>
                  have hoo := Option.some.inj ho
                  subst hoo
                  have f17 : (ρ (.tmp 69)) = .bool true := hd ⟨17, .data⟩ (by simp) (by rfl)
                  exact fx_val hK hρ (.bool false) (by simp [execOp, f17, go_sem]) rfl
                | kq + 19, ho => simp at ho
              case hend =>
                intro vals xw hI hF
                have f18 : vals 70 = .bool false := hF 18 (by decide)
                simp only [fillA, fillL, List.contains_cons, List.contains_nil, Nat.reduceBEq, Bool.or_false, Bool.false_or, Bool.or_true, Bool.true_or, cond_true, cond_false, Nat.zero_add, Nat.reduceAdd]
                rw [f18]
                have HJ := Lib.hid hI
                clear hF hI f18
                go_wp2
                go_roundw
                case rel => exact ⟨j2 + 1, by omega, by go_num, HJ⟩
                case measure => simp [intOf]; omega
            · obtain rfl : n2 = j2 := by omega
              go_wp2
              go_roundw
              case rel => exact ⟨j1 + 1, by omega, by go_num, BM⟩
              case measure => simp [intOf]; omega
        · obtain rfl : n1 = j1 := by omega
          go_wp2
          go_roundw
          case rel => exact ⟨j + 1, by omega, by go_num, Lib.hid BK.out.l⟩
          case measure => simp [intOf]; omega
    · obtain rfl : nr = j := by omega
      obtain ⟨t1, t2, t3, t4, t5, t6⟩ := BJ.out.b.c
      simp only at t1 t2 t3 t4 t5 t6
      go_wp2_with fail
      clear t1 t2 t3 t4 t5 t6
      go_loopw [9] (fun i wr => ∃ j : Nat, j ≤ ne ∧ i = .int .i64 j ∧ Hid (BxL w0 ⟨P, np, pc, E, ne, ec, Fu, nf, fc, Rr, nr, rc⟩ T w4.heap.size A n c F m d R k e (lowWv T) (lowEv T) (lowPv T) wr)) (fun i _ => ne - (intOf i).toNat)
      case atStart => exact ⟨0, Nat.zero_le _, rfl, BJ⟩
      case round =>
        obtain ⟨j1, hj1', rfl, BK⟩ := hrel
        clear BJ
        obtain ⟨t1, t2, t3, t4, t5, t6⟩ := BK.out.b.c
        simp only at t1 t2 t3 t4 t5 t6
        by_cases hj1 : j1 < ne
        · obtain ⟨p1, o1, ⟨x, y⟩, rfl, hbl, hxe, hq0, hq1⟩ := BK.out.b.d.t.edges.at_ (k := j1) (by have := HTT.out.he; simp only at this; omega)
          have hfo := edge_follows HOK.out (List.mem_of_getElem? hxe)
          have hxb := HOK.out.1.edges.1 _ (List.mem_of_getElem? hxe)
          have hpb := HPB.out
          simp only at hxb hfo hq0 hq1
          unfold Follows at hfo
          obtain ⟨lx, hlx⟩ : ∃ l, l = lastV (lowPv T) x := ⟨_, rfl⟩
          obtain ⟨iy, hiy⟩ : ∃ l, l = idxV (lowPv T) (y, 0) := ⟨_, rfl⟩
          have CLA := Lib.hid (fun W (h : BxL w0 ⟨P, np, pc, some ⟨p1, o1, none⟩, ne, ec, Fu, nf, fc, Rr, nr, rc⟩ T w4.heap.size A n c F m d R k e (lowWv T) (lowEv T) (lowPv T) W) => lastL_any W x (by omega) (by omega) h.l)
          have CNO := Lib.hid (fun W (h : BxL w0 ⟨P, np, pc, some ⟨p1, o1, none⟩, ne, ec, Fu, nf, fc, Rr, nr, rc⟩ T w4.heap.size A n c F m d R k e (lowWv T) (lowEv T) (lowPv T) W) => nodeL_any W y 0 h.l)
          have CBE := Lib.hid (fun W (h : BxL w0 ⟨P, np, pc, some ⟨p1, o1, none⟩, ne, ec, Fu, nf, fc, Rr, nr, rc⟩ T w4.heap.size A n c F m d R k e (lowWv T) (lowEv T) (lowPv T) W) => before_done W (lastV (lowPv T) x) (idxV (lowPv T) (y, 0)) h.l.g)
          rw [hfo, ← hlx, ← hiy] at CBE
          rw [← hlx] at CLA
          rw [← hiy] at CNO
          have HX := Lib.hid (fun W (h : BxL w0 ⟨P, np, pc, some ⟨p1, o1, none⟩, ne, ec, Fu, nf, fc, Rr, nr, rc⟩ T w4.heap.size A n c F m d R k e (lowWv T) (lowEv T) (lowPv T) W) => show W.cell? ⟨p1, o1 + j1 * 2, none⟩ = some (.int .i64 x) from by
            obtain ⟨p1', o1', ⟨x', y'⟩, hee, _, hxe', r0, r1⟩ := h.b.d.t.edges.at_ (k := j1) (by have := HTT.out.he; simp only at this; omega)
            injection hee with hee
            injection hee with e1 e2
            subst e1 e2
            rw [hxe] at hxe'
            injection hxe' with hxe'
            injection hxe' with e1 e2
            subst e1 e2
            exact r0)
          have HY := Lib.hid (fun W (h : BxL w0 ⟨P, np, pc, some ⟨p1, o1, none⟩, ne, ec, Fu, nf, fc, Rr, nr, rc⟩ T w4.heap.size A n c F m d R k e (lowWv T) (lowEv T) (lowPv T) W) => show W.cell? ⟨p1, o1 + j1 * 2 + 1, none⟩ = some (.int .i64 y) from by
            obtain ⟨p1', o1', ⟨x', y'⟩, hee, _, hxe', r0, r1⟩ := h.b.d.t.edges.at_ (k := j1) (by have := HTT.out.he; simp only at this; omega)
            injection hee with hee
            injection hee with e1 e2
            subst e1 e2
            rw [hxe] at hxe'
            injection hxe' with hxe'
            injection hxe' with e1 e2
            subst e1 e2
            exact r1)
          clear hbl hxe hq0 hq1 hxb hpb hfo hlx hiy
          go_wp2_with fail
          clear t1 t2 t3 t4 t5 t6
          refine wp_region_facts' [78, 79, 80, 81, 82, 83, 84, 85, 86, 87, 88, 89, 90, 91, 92, 93, 94, 95, 96, 97, 98] [] [] (by kernel_rfl) (by kernel_rfl) (by kernel_rfl) (by intro d hd; simp at hd ⊢; omega) (BxL w0 ⟨P, np, pc, some ⟨p1, o1, none⟩, ne, ec, Fu, nf, fc, Rr, nr, rc⟩ T w4.heap.size A n c F m d R k e (lowWv T) (lowEv T) (lowPv T)) (PhiE7 w4.heap.size w0.heap.size A n c F m d R k e p1 o1 ne ec j1 x y lx iy)
            (fun x y h hb => h.next hb) (phiE7_below w4.heap.size w0.heap.size A n c F m d R k e p1 o1 ne ec j1 x y lx iy) (BK.out.next (Below.refl _ _).drew) (fun p hp => by simp at hp) (fun kq hkq => by simp at hkq) ?hstepE ?hendE
          case hstepE =>
            intro kq o ho hw a w hI hA hd K hK
            obtain ⟨ρ, hρ⟩ : ∃ ρ, a.eval = ρ := ⟨_, rfl⟩
            rw [hρ] at hA hd
            match kq, ho with
            | 0, ho =>
              have hoo := Option.some.inj ho
              subst hoo
              exact fx_val hK hρ _ (by have h := hA.tmp 3 (by decide); simp [execOp, h, go_sem]) rfl
            | 1, ho =>
              have hoo := Option.some.inj ho
              subst hoo
              have f0 : (ρ (.tmp 78)) = .pointer (some ⟨w4.heap.size, 0, none⟩) := hd ⟨0, .data⟩ (by simp) (by rfl)
              exact fx_val hK hρ _ (by have h0 := hI.c0; have h1 := hI.c1; simp [execOp, f0, h0, h1, go_sem]) rfl
            | 2, ho =>
              have hoo := Option.some.inj ho
              subst hoo
              exact fx_val hK hρ _ (by have h := hA.tmp 3 (by decide); have h0 := hI.c0; have h1 := hI.c1; have h2 := hI.c2; simp [execOp, h, h0, h1, h2, go_sem]) rfl
            | 3, ho =>
              have hoo := Option.some.inj ho
              subst hoo
              exact fx_val hK hρ _ (by have h := hA.tmp 1 (by decide); simp [execOp, h, go_sem]) rfl
            | 4, ho =>
              have hoo := Option.some.inj ho
              subst hoo
              have f3 : (ρ (.tmp 81)) = .pointer (some ⟨w0.heap.size, 3, none⟩) := hd ⟨3, .data⟩ (by simp) (by rfl)
              exact fx_val hK hρ _ (by have h0 := hI.b.c.2.2.2.1; simp [execOp, f3, h0, go_sem]) rfl
            | 5, ho =>
              have hoo := Option.some.inj ho
              subst hoo
              exact fx_val hK hρ (.int .i64 j1) (by have h := hA.tmp 9 (by decide); simp [execOp, h, go_sem]) rfl
            | 6, ho =>
              have hoo := Option.some.inj ho
              subst hoo
              have f4 : (ρ (.tmp 82)) = .slice (some ⟨p1, o1, none⟩) ne ec := hd ⟨4, .data⟩ (by simp) (by rfl)
              have f5 : (ρ (.tmp 83)) = .int .i64 j1 := hd ⟨5, .data⟩ (by simp) (by rfl)
              exact fx_val hK hρ _ (idx_eqE rfl f4 f5 hj1) rfl
            | 7, ho =>
              have hoo := Option.some.inj ho
              subst hoo
              have f6 : (ρ (.tmp 84)) = .pointer (some ⟨p1, o1 + j1 * 2, none⟩) := hd ⟨6, .data⟩ (by simp) (by rfl)
              exact fx_val hK hρ _ (by simp [execOp, f6, go_sem]) rfl
            | 8, ho =>
              have hoo := Option.some.inj ho
              subst hoo
              have f7 : (ρ (.tmp 85)) = .pointer (some ⟨p1, o1 + j1 * 2, none⟩) := hd ⟨7, .data⟩ (by simp) (by rfl)
              exact fx_val hK hρ _ (by have h0 := HX.out _ hI; simp [execOp, f7, h0, go_sem]) rfl
            | 9, ho =>
              have hoo := Option.some.inj ho
              subst hoo
              have f2 : (ρ (.tmp 80)) = .agg #[.slice A n c, .slice F m d, .slice R k e] := hd ⟨2, .data⟩ (by simp) (by rfl)
              have f8 : (ρ (.tmp 86)) = .int .i64 x := hd ⟨8, .data⟩ (by simp) (by rfl)
              exact fx_call hK hρ 13 _ _ _ rfl (by simp only [List.map_toArray, List.map_cons, List.map_nil, f2, f8]) (eg_of Tryd.func13 (by kernel_rfl) rfl) ((CLA.out _ hI).mono fun e w' ⟨he, hb⟩ => ⟨_, he, rfl, hb⟩)
            | 10, ho =>
              have hoo := Option.some.inj ho
              subst hoo
              exact fx_val hK hρ _ (by have h := hA.tmp 3 (by decide); have h0 := hI.c0; have h1 := hI.c1; have h2 := hI.c2; simp [execOp, h, h0, h1, h2, go_sem]) rfl
            | 11, ho =>
              have hoo := Option.some.inj ho
              subst hoo
              exact fx_val hK hρ _ (by have h := hA.tmp 1 (by decide); simp [execOp, h, go_sem]) rfl
            | 12, ho =>
              have hoo := Option.some.inj ho
              subst hoo
              have f11 : (ρ (.tmp 89)) = .pointer (some ⟨w0.heap.size, 3, none⟩) := hd ⟨11, .data⟩ (by simp) (by rfl)
              exact fx_val hK hρ _ (by have h0 := hI.b.c.2.2.2.1; simp [execOp, f11, h0, go_sem]) rfl
            | 13, ho =>
              have hoo := Option.some.inj ho
              subst hoo
              exact fx_val hK hρ (.int .i64 j1) (by have h := hA.tmp 9 (by decide); simp [execOp, h, go_sem]) rfl
            | 14, ho =>
              have hoo := Option.some.inj ho
              subst hoo
              have f12 : (ρ (.tmp 90)) = .slice (some ⟨p1, o1, none⟩) ne ec := hd ⟨12, .data⟩ (by simp) (by rfl)
              have f13 : (ρ (.tmp 91)) = .int .i64 j1 := hd ⟨13, .data⟩ (by simp) (by rfl)
              exact fx_val hK hρ _ (idx_eqE rfl f12 f13 hj1) rfl
            | 15, ho =>
              have hoo := Option.some.inj ho
              subst hoo
              have f14 : (ρ (.tmp 92)) = .pointer (some ⟨p1, o1 + j1 * 2, none⟩) := hd ⟨14, .data⟩ (by simp) (by rfl)
              exact fx_val hK hρ _ (by simp [execOp, f14, go_sem]) rfl
            | 16, ho =>
              have hoo := Option.some.inj ho
              subst hoo
              have f15 : (ρ (.tmp 93)) = .pointer (some ⟨p1, o1 + j1 * 2 + 1, none⟩) := hd ⟨15, .data⟩ (by simp) (by rfl)
              exact fx_val hK hρ _ (by have h0 := HY.out _ hI; simp [execOp, f15, h0, go_sem]) rfl
            | 17, ho =>
              have hoo := Option.some.inj ho
              subst hoo
              have f16 : (ρ (.tmp 94)) = .int .i64 y := hd ⟨16, .data⟩ (by simp) (by rfl)
              exact fx_val hK hρ (.agg #[.int .i64 y, .int .i64 0]) (by simp [execOp, f16, go_sem]) rfl
            | 18, ho =>
              have hoo := Option.some.inj ho
              subst hoo
              have f10 : (ρ (.tmp 88)) = .agg #[.slice A n c, .slice F m d, .slice R k e] := hd ⟨10, .data⟩ (by simp) (by rfl)
              have f17 : (ρ (.tmp 95)) = .agg #[.int .i64 y, .int .i64 0] := hd ⟨17, .data⟩ (by simp) (by rfl)
              exact fx_call hK hρ 11 _ _ _ rfl (by simp only [List.map_toArray, List.map_cons, List.map_nil, f10, f17]) (eg_of Tryd.func11 (by kernel_rfl) rfl) ((CNO.out _ hI).mono fun e w' ⟨he, hb⟩ => ⟨_, he, rfl, hb⟩)
            | 19, ho =>
              have hoo := Option.some.inj ho
              subst hoo
              have f1 : (ρ (.tmp 79)) = .agg #[.slice A n c, .slice F m d] := hd ⟨1, .data⟩ (by simp) (by rfl)
              have f9 : (ρ (.tmp 87)) = .int .i64 lx := hd ⟨9, .data⟩ (by simp) (by rfl)
              have f18 : (ρ (.tmp 96)) = .int .i64 iy := hd ⟨18, .data⟩ (by simp) (by rfl)
              exact fx_call hK hρ 21 _ _ _ rfl (by simp only [List.map_toArray, List.map_cons, List.map_nil, f1, f9, f18]) (eg_of Tryd.func21 (by kernel_rfl) rfl) ((CBE.out _ hI).mono fun e w' ⟨he, hb⟩ => ⟨_, he, rfl, hb⟩)
            | 20, ho =>
              have hoo := Option.some.inj ho
              subst hoo
              have f19 : (ρ (.tmp 97)) = .bool true := hd ⟨19, .data⟩ (by simp) (by rfl)
              exact fx_val hK hρ (.bool false) (by simp [execOp, f19, go_sem]) rfl
            | kq + 21, ho => simp at ho
          case hendE =>
            intro vals xw hI hF
            have f20 : vals 98 = .bool false := hF 20 (by decide)
            simp only [fillA, fillL, List.contains_cons, List.contains_nil, Nat.reduceBEq, Bool.or_false, Bool.false_or, Bool.or_true, Bool.true_or, cond_true, cond_false, Nat.zero_add, Nat.reduceAdd]
            rw [f20]
            have HJ := Lib.hid hI
            clear hF hI f20
            go_wp2
            go_roundw
            case rel => exact ⟨j1 + 1, by omega, by go_num, HJ⟩
            case measure => simp [intOf]; omega
        · obtain rfl : ne = j1 := by omega
          go_wp2
          go_ret
          exact ⟨rfl, BK.out.b.bel⟩
theorem walk_LowBarrier (w : World) {s : Sh} {T : Task} (h : InD w s T) (hT : DTab w) :
    Calls Tryd.prog 6 #[s.arg T.period T.deadline] w fun e w' => e = .returned (.bool true) ∧ Below w.heap.size w w' := by
  by_cases f : FewD T
  · by_cases hX : lowX T = 0
    · exact barrier_yes w s T hT h f hX
    · exact barrier_no w s T hT h f hX
  · exact barrier_many w s T hT h f
end Go.Proofs.YtagjphcjbllclaaDoor
