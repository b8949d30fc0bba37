/- The walk of LowRound in the seat YtecjpclkiiaidaaDoor (printed by lower/mk_round.py). No statement is proved here. -/
import Derived.Test.YtecjpclkiiaidaaDoorZLowRoundMath
import Derived.Test.YtecjpclkiiaidaaDoorZLowTwice
import Derived.Test.YtecjpclkiiaidaaDoorZM4
import Derived.OneCell
set_option linter.unusedVariables false
namespace Go.Proofs.YtecjpclkiiaidaaDoor
open Go.RowKit

/-! An edge more, whichever -/
def BadE (T : Task) (a b : Int) : Prop := a < 0 ∨ b < 0 ∨ (T.parts.length : Int) ≤ a ∨ (T.parts.length : Int) ≤ b ∨ a = b ∨ (a, b) ∈ T.edges
theorem more_bad {T : Task} (h : MayT T) (hl : T.edges.length < 48) {a b : Int} (hb : BadE T a b) : lowX (moreT T a b) = 53 := by
  have hE : ¬ EdgesOk (moreT T a b).parts.length (moreT T a b).edges := fun k => by
    have hm : (a, b) ∈ (moreT T a b).edges := by unfold moreT; simp
    have h1 := k.1 _ hm
    have h2 := k.2.1 _ hm
    have e1 : (moreT T a b).parts.length = T.parts.length := rfl
    rw [e1] at h1
    simp only at h1 h2
    rcases hb with hb | hb | hb | hb | hb | hb
    · omega
    · omega
    · omega
    · omega
    · exact h2 hb
    · have h3 := k.2.2
      unfold moreT at h3
      simp only at h3
      rw [List.nodup_append] at h3
      exact h3.2.2 _ hb _ (by simp) rfl
  have hN : ¬ MayT (moreT T a b) := fun k => hE k.edges
  have hmany : ¬ ManyT (moreT T a b) := by
    have := h.few
    unfold ManyT moreT at *
    simp only [List.length_append, List.length_singleton] at *
    omega
  unfold lowX
  rw [if_neg hN]
  unfold chkT
  rw [if_neg hmany, if_neg (by have := h.time; unfold moreT; simp only; rw [this]; decide), if_neg (fun k => k h.parts), if_pos hE]
theorem more_good {T : Task} (h : LowOk T) (hl : T.edges.length < 48) {a b : Int} (hb : ¬ BadE T a b) : (lowX (moreT T a b) = 0 ∧ beforeV (lowWv T) (lowEv T) (idxV (lowPv T) (b, 0)) (lastV (lowPv T) a) = false) ∨ (lowX (moreT T a b) = 70 ∧ beforeV (lowWv T) (lowEv T) (idxV (lowPv T) (b, 0)) (lastV (lowPv T) a) = true) := by
  unfold BadE at hb
  simp only [not_or, Int.not_lt, Int.not_le] at hb
  obtain ⟨h1, h2, h3, h4, h5, h6⟩ := hb
  obtain ⟨x, rfl⟩ : ∃ x : Nat, a = x := ⟨a.toNat, by omega⟩
  obtain ⟨y, rfl⟩ : ∃ y : Nat, b = y := ⟨b.toNat, by omega⟩
  have hx : x < T.parts.length := by omega
  have hy : y < T.parts.length := by omega
  have hM := moreT_may h.1 hx hy (by omega) h6 hl
  have hi := round_iff h hx hy (by omega) h6 hl
  obtain ⟨q1, q2, q3⟩ := low_yes h
  rw [q1, q2, q3, idx_first hy, last_last hx]
  unfold lowX beforeV
  rw [if_pos hM]
  by_cases k : Way (lowE T) (firN T.futures y) (lasN T.futures x)
  · right
    rw [if_neg (fun q => (hi.mp q) k), if_pos]
    · exact ⟨rfl, rfl⟩
    · exact ⟨h.2, by omega, by omega, by simpa using k⟩
  · left
    rw [if_pos (hi.mpr k), if_neg]
    · exact ⟨rfl, rfl⟩
    · exact fun q => k (by simpa using q.2.2.2)
theorem moreT_few {T : Task} (h : FewT T) (hl : T.edges.length < 48) (a b : Int) : FewT (moreT T a b) := ⟨h.np, by unfold moreT; simp; omega, h.nf, h.nr, h.bars⟩
theorem OwnB.rx {t : TypeId} {b base : Nat} {row : Option Nat} {w w' : World} {v : Value} {bs : List (List Int × List Int)} (h : OwnB w base v bs) (hr : RXl t b row w w') (h1 : 63 ≠ t) (h2 : 3 ≠ t) : OwnB w' base v bs := by
  obtain ⟨cs', q1, q2, q3⟩ := h
  exact ⟨cs', q1, hr.own q2 h1, fun k c b hc hb' => ⟨hr.own (q3 k c b hc hb').1 h2, hr.own (q3 k c b hc hb').2 h2⟩⟩
def PhiR0 (g : Nat) (A : Option Addr) (n c : Nat) (F : Option Addr) (m d : Nat) (R : Option Addr) (k e : Nat) (x y lx iy : Int) : Nat → Value → World → Prop
  | 0, v, w => v = .int .i64 0
  | 1, v, w => v = .bool false
  | 2, v, w => v = .pointer (some ⟨g, 0, none⟩)
  | 3, v, w => v = .agg #[.slice A n c, .slice F m d]
  | 4, v, w => v = .agg #[.slice A n c, .slice F m d, .slice R k e]
  | 5, v, w => v = .int .i64 y
  | 6, v, w => v = .agg #[.int .i64 y, .int .i64 0]
  | 7, v, w => v = .int .i64 iy
  | 8, v, w => v = .agg #[.slice A n c, .slice F m d, .slice R k e]
  | 9, v, w => v = .int .i64 x
  | 10, v, w => v = .int .i64 lx
  | 11, v, w => v = .bool false
  | 12, v, w => v = .bool true
  | 13, v, w => v = .bool true
  | 14, v, w => v = .int .i64 0
  | 15, v, w => v = .bool true
  | 16, v, w => v = .bool true
  | 17, v, w => True
  | 18, v, w => True
  | 19, v, w => v = .bool true
  | 20, v, w => v = .bool true
  | 21, v, w => v = .bool true
  | _, _, _ => True
theorem phiR0_below (g : Nat) (A : Option Addr) (n c : Nat) (F : Option Addr) (m d : Nat) (R : Option Addr) (k e : Nat) (x y lx iy : Int) : ∀ kq v w w', PhiR0 g A n c F m d R k e x y lx iy kq v w → Below w.heap.size w w' → PhiR0 g A n c F m d R k e x y lx iy kq v w' := by
  intro kq v w w' h hb
  match kq, h with
  | 0, h => exact h
  | 1, h => exact h
  | 2, h => exact h
  | 3, h => exact h
  | 4, h => exact h
  | 5, h => exact h
  | 6, h => exact h
  | 7, h => exact h
  | 8, h => exact h
  | 9, h => exact h
  | 10, h => exact h
  | 11, h => exact h
  | 12, h => exact h
  | 13, h => exact h
  | 14, h => exact h
  | 15, h => exact h
  | 16, h => exact h
  | 17, h => exact h
  | 18, h => exact h
  | 19, h => exact h
  | 20, h => exact h
  | 21, h => exact h
  | kq + 22, h => exact trivial
def PhiR70 (g : Nat) (A : Option Addr) (n c : Nat) (F : Option Addr) (m d : Nat) (R : Option Addr) (k e : Nat) (x y lx iy : Int) : Nat → Value → World → Prop
  | 0, v, w => v = .int .i64 70
  | 1, v, w => v = .bool true
  | 2, v, w => v = .pointer (some ⟨g, 0, none⟩)
  | 3, v, w => v = .agg #[.slice A n c, .slice F m d]
  | 4, v, w => v = .agg #[.slice A n c, .slice F m d, .slice R k e]
  | 5, v, w => v = .int .i64 y
  | 6, v, w => v = .agg #[.int .i64 y, .int .i64 0]
  | 7, v, w => v = .int .i64 iy
  | 8, v, w => v = .agg #[.slice A n c, .slice F m d, .slice R k e]
  | 9, v, w => v = .int .i64 x
  | 10, v, w => v = .int .i64 lx
  | 11, v, w => v = .bool true
  | 12, v, w => v = .bool true
  | 13, v, w => v = .bool true
  | 14, v, w => v = .int .i64 70
  | 15, v, w => v = .bool false
  | 16, v, w => v = .bool false
  | 17, v, w => v = .int .i64 70
  | 18, v, w => v = .bool true
  | 19, v, w => v = .bool true
  | 20, v, w => v = .bool true
  | 21, v, w => v = .bool true
  | _, _, _ => True
theorem phiR70_below (g : Nat) (A : Option Addr) (n c : Nat) (F : Option Addr) (m d : Nat) (R : Option Addr) (k e : Nat) (x y lx iy : Int) : ∀ kq v w w', PhiR70 g A n c F m d R k e x y lx iy kq v w → Below w.heap.size w w' → PhiR70 g A n c F m d R k e x y lx iy kq v w' := by
  intro kq v w w' h hb
  match kq, h with
  | 0, h => exact h
  | 1, h => exact h
  | 2, h => exact h
  | 3, h => exact h
  | 4, h => exact h
  | 5, h => exact h
  | 6, h => exact h
  | 7, h => exact h
  | 8, h => exact h
  | 9, h => exact h
  | 10, h => exact h
  | 11, h => exact h
  | 12, h => exact h
  | 13, h => exact h
  | 14, h => exact h
  | 15, h => exact h
  | 16, h => exact h
  | 17, h => exact h
  | 18, h => exact h
  | 19, h => exact h
  | 20, h => exact h
  | 21, h => exact h
  | kq + 22, h => exact trivial
set_option maxRecDepth 100000 in
set_option maxHeartbeats 4000000 in
theorem round_many (w : World) (s : Sh) (T : Task) (x y : Int) (hT : DTab w) (h : InD w s T) (f : ¬ FewD T) :
    Calls Tryd.prog 4 #[s.arg T.period T.deadline, .int .i64 x, .int .i64 y] w fun e w' => e = .returned (.bool true) ∧ Below w.heap.size w w' := by
  have HTW := Lib.hid (fun W (h : Below w.heap.size w W) => DTab.via hT h)
  have B0 := Lib.hid (Bx1T.start h.t)
  have F1 := Lib.hid f
  clear h hT f
  go_enter Tryd.func4, Tryd.ntmps4
  go_wp2_with fail
  refine (awakeL_any _ (HTW.out _ B0.out.bel)).mono ?_
  rintro e w1 ⟨rfl, b1⟩
  have B1 := Lib.hid (B0.out.next b1)
  clear b1
  obtain ⟨t1, t2, t3, t4, t5, t6⟩ := B1.out.c
  go_wp2_with fail
  refine (few_n B1.out.t F1.out).mono ?_
  rintro e w2 ⟨rfl, b2⟩
  have B2 := Lib.hid (B1.out.next b2)
  clear b2 t1 t2 t3 t4 t5 t6
  go_wp2_with fail
  refine (awakeL_any _ (HTW.out _ B2.out.bel)).mono ?_
  rintro e w3 ⟨rfl, b3⟩
  have B3 := Lib.hid (B2.out.next b3)
  clear b3
  go_wp2_with fail
  go_ret
  exact ⟨rfl, B3.out.bel⟩
set_option maxRecDepth 100000 in
set_option maxHeartbeats 4000000 in
theorem round_full (w : World) (s : Sh) (T : Task) (x y : Int) (hT : DTab w) (h : InD w s T) (f : FewD T) (hl : 48 ≤ s.ne) :
    Calls Tryd.prog 4 #[s.arg T.period T.deadline, .int .i64 x, .int .i64 y] w fun e w' => e = .returned (.bool true) ∧ Below w.heap.size w w' := by
  have HTW := Lib.hid (fun W (h : Below w.heap.size w W) => DTab.via hT h)
  have B0 := Lib.hid (Bx1T.start h.t)
  have F1 := Lib.hid f
  have hl9 : s.ne ≤ 60 := by have := f.ne; have := h.t.he; omega
  have g1 : decide (48 ≤ s.ne) = true := by simpa using hl
  have g2 : decide ((48 : Int) ≤ (s.ne : Int)) = true := by rw [decide_eq_true_iff]; omega
  clear h hT f
  go_enter Tryd.func4, Tryd.ntmps4
  go_wp2_with fail
  refine (awakeL_any _ (HTW.out _ B0.out.bel)).mono ?_
  rintro e w1 ⟨rfl, b1⟩
  have B1 := Lib.hid (B0.out.next b1)
  clear b1
  obtain ⟨t1, t2, t3, t4, t5, t6⟩ := B1.out.c
  go_wp2_with fail
  refine (few_d B1.out.t F1.out).mono ?_
  rintro e w2 ⟨rfl, b2⟩
  have B2 := Lib.hid (B1.out.next b2)
  clear b2 t1 t2 t3 t4 t5 t6
  obtain ⟨t1, t2, t3, t4, t5, t6⟩ := B2.out.c
  go_wp2_with fail
  refine (awakeL_any _ (HTW.out _ B2.out.bel)).mono ?_
  rintro e w3 ⟨rfl, b3⟩
  have B3 := Lib.hid (B2.out.next b3)
  clear b3
  go_wp2_with fail
  go_ret
  exact ⟨rfl, B3.out.bel⟩
set_option maxRecDepth 100000 in
set_option maxHeartbeats 4000000 in
theorem round_no (w : World) (s : Sh) (T : Task) (x y : Int) (hT : DTab w) (h : InD w s T) (f : FewD T) (hl : s.ne < 48) (hX : lowX T ≠ 0) :
    Calls Tryd.prog 4 #[s.arg T.period T.deadline, .int .i64 x, .int .i64 y] w fun e w' => e = .returned (.bool true) ∧ Below w.heap.size w w' := by
  have HTW := Lib.hid (fun W (h : Below w.heap.size w W) => DTab.via hT h)
  have B0 := Lib.hid ((Bx1T.start h.t).few h hT f)
  have F1 := Lib.hid f
  have g1 : decide (48 ≤ s.ne) = false := by simpa using hl
  have g2 : decide ((48 : Int) ≤ (s.ne : Int)) = false := by rw [decide_eq_false_iff_not]; omega
  clear h hT f
  obtain ⟨n, hn⟩ : ∃ n, (lowWv T).length = n := ⟨_, rfl⟩
  obtain ⟨m, hm⟩ : ∃ n, (lowEv T).length = n := ⟨_, rfl⟩
  obtain ⟨k, hk⟩ : ∃ n, (lowPv T).length = n := ⟨_, rfl⟩
  have CL := Lib.hid (fun W s (h : IsD W s T) => lower_sz hn hm hk h)
  obtain ⟨r, hr⟩ : ∃ r, r = lowX T := ⟨_, rfl⟩
  rw [← hr] at CL hX
  have hb : (r != 0) = true := bne_iff_ne.mpr hX
  clear hr hX hn hm hk
  go_enter Tryd.func4, Tryd.ntmps4
  go_wp2_with fail
  refine (awakeL_any _ (HTW.out _ B0.out.bel)).mono ?_
  rintro e w1 ⟨rfl, b1⟩
  have B1 := Lib.hid (B0.out.next b1)
  clear b1
  obtain ⟨t1, t2, t3, t4, t5, t6⟩ := B1.out.c
  go_wp2_with fail
  refine (few_d B1.out.d.t F1.out).mono ?_
  rintro e w2 ⟨rfl, b2⟩
  have B2 := Lib.hid (B1.out.next b2)
  clear b2 t1 t2 t3 t4 t5 t6
  obtain ⟨t1, t2, t3, t4, t5, t6⟩ := B2.out.c
  go_wp2_with fail
  refine (own_d B2.out.d).mono ?_
  rintro e w3 ⟨s', rfl, hs', b3⟩
  have B3 := Lib.hid (B2.out.next b3)
  have HS := Lib.hid hs'
  clear b3 hs' t1 t2 t3 t4 t5 t6
  go_wp2_with fail
  refine (CL.out _ _ HS.out).mono ?_
  rintro en w4 ⟨A, c, F, d, R, e, rfl, hL, b4⟩
  have HB := Lib.hid ((B3.out.next b4).bel)
  clear b4 hL B3 HS CL
  go_wp2_with fail
  go_ret
  exact ⟨rfl, HB.out.alloc HB.out.size _⟩
set_option maxRecDepth 100000 in
set_option maxHeartbeats 16000000 in
theorem round_yes (w0 : World) (s : Sh) (T : Task) (x y : Int) (hx1 : -9223372036854775808 ≤ x) (hx2 : x ≤ 9223372036854775807) (hT : DTab w0) (h : InD w0 s T) (f : FewD T) (hl : s.ne < 48) (hX : lowX T = 0) :
    Calls Tryd.prog 4 #[s.arg T.period T.deadline, .int .i64 x, .int .i64 y] w0 fun e w' => e = .returned (.bool true) ∧ Below w0.heap.size w0 w' := by
  have HTW := Lib.hid (fun W (h : Below w0.heap.size w0 W) => DTab.via hT h)
  have B0 := Lib.hid ((Bx1T.start h.t).few h hT f)
  have F1 := Lib.hid f
  have g1 : decide (48 ≤ s.ne) = false := by simpa using hl
  have g2 : decide ((48 : Int) ≤ (s.ne : Int)) = false := by rw [decide_eq_false_iff_not]; omega
  have hle : T.edges.length < 48 := by have := h.t.he; omega
  have hOK := lowX_zero.mp hX
  have HBAD := Lib.hid (fun hb : BadE T x y => more_bad hOK.1 hle hb)
  have HGOOD := Lib.hid (fun hb : ¬ BadE T x y => more_good hOK hle hb)
  have HFM := Lib.hid (moreT_few f.few hle x y)
  have HTT := Lib.hid h.t
  have hl1 : s.np ≤ 20 := by have := f.np; have := h.t.hp; omega
  clear h hT f hOK
  obtain ⟨P, np, pc, E, ne, ec, Fu, nf, fc, Rr, nr, rc⟩ := s
  simp only at hl hl1 g1 g2
  obtain ⟨n, hn⟩ : ∃ n, (lowWv T).length = n := ⟨_, rfl⟩
  obtain ⟨m, hm⟩ : ∃ n, (lowEv T).length = n := ⟨_, rfl⟩
  obtain ⟨k, hk⟩ : ∃ n, (lowPv T).length = n := ⟨_, rfl⟩
  have CL := Lib.hid (fun W s (h : IsD W s T) => lower_sz hn hm hk h)
  rw [hX] at CL
  obtain ⟨n', hn'⟩ : ∃ n, (lowWv (moreT T x y)).length = n := ⟨_, rfl⟩
  obtain ⟨m', hm'⟩ : ∃ n, (lowEv (moreT T x y)).length = n := ⟨_, rfl⟩
  obtain ⟨k', hk'⟩ : ∃ n, (lowPv (moreT T x y)).length = n := ⟨_, rfl⟩
  have CM := Lib.hid (fun W s (h : IsD W s (moreT T x y)) => lower_sz hn' hm' hk' h)
  have eM : (moreT T x y).period = T.period ∧ (moreT T x y).deadline = T.deadline := ⟨rfl, rfl⟩
  rw [eM.1, eM.2] at CM
  obtain ⟨r, hr⟩ : ∃ r, r = lowX (moreT T x y) := ⟨_, rfl⟩
  rw [← hr] at CM HBAD HGOOD
  obtain ⟨q, hq⟩ : ∃ q, q = T.edges.length := ⟨_, rfl⟩
  have HQ := Lib.hid hq
  rw [← hq] at hle
  clear hX hn hm hk hn' hm' hk' eM hr hq
  go_enter Tryd.func4, Tryd.ntmps4
  go_wp2_with fail
  refine (awakeL_any _ (HTW.out _ B0.out.bel)).mono ?_
  rintro e w1 ⟨rfl, b1⟩
  have B1 := Lib.hid (B0.out.next b1)
  clear b1
  obtain ⟨t1, t2, t3, t4, t5, t6⟩ := B1.out.c
  go_wp2_with fail
  refine (few_d B1.out.d.t F1.out).mono ?_
  rintro e w2 ⟨rfl, b2⟩
  have B2 := Lib.hid (B1.out.next b2)
  clear b2 t1 t2 t3 t4 t5 t6
  obtain ⟨t1, t2, t3, t4, t5, t6⟩ := B2.out.c
  go_wp2_with fail
  refine (own_d B2.out.d).mono ?_
  rintro e w3 ⟨s', rfl, hs', b3⟩
  have B3 := Lib.hid (B2.out.next b3)
  have HS := Lib.hid hs'
  clear b3 hs' t1 t2 t3 t4 t5 t6
  go_wp2_with fail
  refine (CL.out _ _ HS.out).mono ?_
  rintro en w4 ⟨A, c, F, d, R, e, rfl, hL, b4⟩
  obtain ⟨w5, hw5⟩ : ∃ w5, w5 = w4.alloc (.cells #[.slice A n c, .slice F m d, .slice R k e] 28) := ⟨_, rfl⟩
  have hBL := BxL.start (B3.out.next b4) hL
  rw [← hw5] at hBL
  have HW := Lib.hid hw5
  have B5 := Lib.hid hBL
  have hg0 : w0.heap.size < w4.heap.size := World.block_lt_of_cell? _ _ (B3.out.next b4).c.1
  obtain ⟨t1, t2, t3, t4, t5, t6⟩ := (B3.out.next b4).c
  simp only at t1 t2 t3 t4 t5 t6
  clear hw5 hBL b4 hL B0 B1 B2 B3 CL HS F1 HTW
  go_wp2_with fail
  rw [← HW.out]
  clear HW t1 t2 t3 t4 t5 t6 hg0
  refine (down_any _ T w5 B5.out.b.d.few B5.out.b.d.t).mono ?_
  rintro en2 w6 ⟨u1, u2, u3, u4, rfl, o1, o2, o3, o4, b6⟩
  obtain ⟨w7, hw7⟩ : ∃ w7, w7 = w6.alloc (.cells #[.int .i64 T.period, .int .i64 T.deadline, u1, u2, u3, u4] 42) := ⟨_, rfl⟩
  have hb7 : Below w6.heap.size w6 w7 := by rw [hw7]; exact below_alloc _
  have hr7 : w7.heap[w6.heap.size]? = some (.cells #[.int .i64 T.period, .int .i64 T.deadline, u1, u2, u3, u4] 42 (0, 0)) := by rw [hw7]; exact heap_alloc_new w6 _
  have hs67 : w7.heap.size = w6.heap.size + 1 := by rw [hw7]; simp
  have hq2 : ∃ E2 ec2, u2 = .slice E2 q ec2 := by
    obtain ⟨E2, ec2, he, _⟩ := o2.slice
    rw [← HQ.out] at he
    exact ⟨E2, ec2, he⟩
  obtain ⟨E2, ec2, rfl⟩ := hq2
  obtain ⟨P2, pc2, rfl, j1, j2⟩ := o1.slice
  obtain ⟨F2, fc2, rfl, j3, j4⟩ := o3.slice
  obtain ⟨R2, rc2, rfl, j5, j6⟩ := o4.slice
  clear j1 j2 j3 j4 j5 j6
  obtain ⟨np2, hnp2⟩ : ∃ z, z = T.parts.length := ⟨_, rfl⟩
  obtain ⟨nf2, hnf2⟩ : ∃ z, z = T.futures.length := ⟨_, rfl⟩
  obtain ⟨nr2, hnr2⟩ : ∃ z, z = T.bars.length := ⟨_, rfl⟩
  rw [← hnp2] at o1 hr7 hw7 ⊢
  rw [← hnf2] at o3 hr7 hw7 ⊢
  rw [← hnr2] at o4 hr7 hw7 ⊢
  have HOWN := Lib.hid (And.intro (o1.below hb7) (And.intro (OwnE.below o2 hb7) (And.intro (o3.below hb7) (o4.below hb7))))
  have HR7 := Lib.hid hr7
  have HB7 := Lib.hid (b6.trans (hb7.mono b6.size))
  have hs57 : w5.heap.size ≤ w6.heap.size := b6.size
  have HW7 := Lib.hid hw7
  have ho2 := HOWN.out.2.1
  unfold OwnE at ho2
  rw [← HQ.out] at ho2
  have HO2 := Lib.hid ho2
  have HNL := Lib.hid (And.intro hnp2 (And.intro hnf2 hnr2))
  clear hb7 hr7 hw7 o1 o2 o3 o4 b6 ho2 hnp2 hnf2 hnr2
  go_wp2_with (at_builtin; rw [← HW7.out]; refine wpList_pushX rfl _ _ 49 23 2 16 (.agg #[.int .i64 0, .int .i64 0]) Tryd.underlying23 edge_cell_info rfl (by omega) (by omega) rfl rfl w7 w5.heap.size q (.slice E2 q ec2) (flatE T.edges) [.int .i64 x, .int .i64 y] HO2.out rfl (by simp [Value.oneCell']) (by omega) (by omega) rfl (by simp [Act.eval]) ?_; intro F8 d8 w8 hO hR hat; clear hat; (have hrow := hR.heap HR7.out (by decide)); (have k0 := cell_of_row w8 w6.heap.size 0 _ _ _ hrow); (have k1 := cell_of_row w8 w6.heap.size 1 _ _ _ hrow); (have k2 := cell_of_row w8 w6.heap.size 2 _ _ _ hrow); (have k3 := cell_of_row w8 w6.heap.size 3 _ _ _ hrow); (have k4 := cell_of_row w8 w6.heap.size 4 _ _ _ hrow); (have k5 := cell_of_row w8 w6.heap.size 5 _ _ _ hrow); (have z3 := frozen_of_row w8 w6.heap.size 3 _ _ hrow); simp at k0 k1 k2 k3 k4 k5; (have HO := Lib.hid hO); (have HRX := Lib.hid hR); (have HROW := Lib.hid hrow); clear hO hR hrow)
  have hfar : ∀ z, z ≠ w6.heap.size → (w8.setCell ⟨w6.heap.size, 3, none⟩ (.slice F8 (q + 1) d8)).heap[z]? = w8.heap[z]? := fun z hz => heap_setCell_other _ _ _ _ hz
  have hb9 : Below w5.heap.size w5 (w8.setCell ⟨w6.heap.size, 3, none⟩ (.slice F8 (q + 1) d8)) := (HB7.out.trans (HRX.out.below (by omega))).setCell hs57 _
  have hgot : GotD T.period T.deadline (moreT T x y) w5 (.returned (.agg #[.int .i64 T.period, .int .i64 T.deadline, .slice P2 np2 pc2, .slice F8 (q + 1) d8, .slice F2 nf2 fc2, .slice R2 nr2 rc2])) (w8.setCell ⟨w6.heap.size, 3, none⟩ (.slice F8 (q + 1) d8)) := by
    refine ⟨_, _, _, _, rfl, other_own (HRX.out.own HOWN.out.1 (by decide)) HROW.out (by decide) hfar, ?_, other_own (HRX.out.own HOWN.out.2.2.1 (by decide)) HROW.out (by decide) hfar, (HOWN.out.2.2.2.rx HRX.out (by decide) (by decide)).other HROW.out (by decide) (by decide) hfar, hb9⟩
    have ho := other_own HO.out HROW.out (by decide) hfar
    unfold OwnE moreT
    simp only [List.length_append, List.length_singleton, flatE_append]
    rw [← HQ.out]
    exact ho
  obtain ⟨s9, he9, hD9, _⟩ := hgot.isD HFM.out B5.out.b.d.tab
  injection he9 with he9
  have C9 := CM.out _ s9 hD9
  rw [← he9] at C9
  have B9 := Lib.hid (B5.out.next hb9)
  have HC9 := Lib.hid C9
  clear hfar hb9 hgot he9 hD9 C9 CM HO HRX HROW HOWN HB7 HO2 HR7 HW7 HNL B5 k0 k1 k2 k3 k4 k5 z3 HFM
  refine HC9.out.mono ?_
  rintro en3 w10 ⟨A', c', F', d', R', e', rfl, _, b10⟩
  have B10 := B9.out.next b10
  obtain ⟨w12, hw12⟩ : ∃ w12, w12 = w10.alloc (.cells #[.slice A' n' c', .slice F' m' d', .slice R' k' e'] 28) := ⟨_, rfl⟩
  have hb12 : Below w10.heap.size w10 w12 := by rw [hw12]; exact below_alloc _
  have B12 := Lib.hid (B10.next hb12)
  have HW12 := Lib.hid hw12
  obtain ⟨t1, t2, t3, t4, t5, t6⟩ := B10.b.c
  simp only at t1 t2 t3 t4 t5 t6
  have hl10 : w0.heap.size < w10.heap.size := World.block_lt_of_cell? _ _ t1
  have hnp := HTT.out.hp
  simp only at hnp
  clear hb12 hw12 b10 B10 B9 HC9
  by_cases hbad : BadE T x y
  · obtain rfl := HBAD.out hbad
    unfold BadE at hbad
    rw [hnp] at hbad
    have hcases : x < 0 ∨ (¬ x < 0 ∧ y < 0) ∨ (¬ x < 0 ∧ ¬ y < 0 ∧ (np : Int) ≤ x) ∨ (¬ x < 0 ∧ ¬ y < 0 ∧ ¬ (np : Int) ≤ x ∧ (np : Int) ≤ y) ∨ (¬ x < 0 ∧ ¬ y < 0 ∧ ¬ (np : Int) ≤ x ∧ ¬ (np : Int) ≤ y ∧ x = y) ∨ (¬ x < 0 ∧ ¬ y < 0 ∧ ¬ (np : Int) ≤ x ∧ ¬ (np : Int) ≤ y ∧ ¬ x = y ∧ (x, y) ∈ T.edges) := by
      by_cases h1 : x < 0
      · exact .inl h1
      · by_cases h2 : y < 0
        · exact .inr (.inl ⟨h1, h2⟩)
        · by_cases h3 : (np : Int) ≤ x
          · exact .inr (.inr (.inl ⟨h1, h2, h3⟩))
          · by_cases h4 : (np : Int) ≤ y
            · exact .inr (.inr (.inr (.inl ⟨h1, h2, h3, h4⟩)))
            · by_cases h5 : x = y
              · exact .inr (.inr (.inr (.inr (.inl ⟨h1, h2, h3, h4, h5⟩))))
              · refine .inr (.inr (.inr (.inr (.inr ⟨h1, h2, h3, h4, h5, ?_⟩))))
                rcases hbad with h | h | h | h | h | h
                · exact absurd h h1
                · exact absurd h h2
                · exact absurd h h3
                · exact absurd h h4
                · exact absurd h h5
                · exact h
    clear hbad hnp HBAD HGOOD HTT
    rcases hcases with h1 | ⟨h1, h2⟩ | ⟨h1, h2, h3⟩ | ⟨h1, h2, h3, h4⟩ | ⟨h1, h2, h3, h4, h5⟩ | ⟨h1, h2, h3, h4, h5, h6⟩
    · have e1 : decide (x < 0) = true := decide_eq_true h1
      go_wp2
      go_ret
      rw [← HW12.out]
      exact ⟨rfl, B12.out.b.bel⟩
    · have e1 : decide (x < 0) = false := decide_eq_false h1
      have e2 : decide (y < 0) = true := decide_eq_true h2
      go_wp2
      go_ret
      rw [← HW12.out]
      exact ⟨rfl, B12.out.b.bel⟩
    · have e1 : decide (x < 0) = false := decide_eq_false h1
      have e2 : decide (y < 0) = false := decide_eq_false h2
      have e3 : decide ((np : Int) ≤ x) = true := decide_eq_true h3
      go_wp2
      go_ret
      rw [← HW12.out]
      exact ⟨rfl, B12.out.b.bel⟩
    · have e1 : decide (x < 0) = false := decide_eq_false h1
      have e2 : decide (y < 0) = false := decide_eq_false h2
      have e3 : decide ((np : Int) ≤ x) = false := decide_eq_false h3
      have e4 : decide ((np : Int) ≤ y) = true := decide_eq_true h4
      go_wp2
      go_ret
      rw [← HW12.out]
      exact ⟨rfl, B12.out.b.bel⟩
    · have e1 : decide (x < 0) = false := decide_eq_false h1
      have e2 : decide (y < 0) = false := decide_eq_false h2
      have e3 : decide ((np : Int) ≤ x) = false := decide_eq_false h3
      have e4 : decide ((np : Int) ≤ y) = false := decide_eq_false h4
      have e5 : (x == y) = true := by simpa using h5
      clear h5
      go_wp2
      go_ret
      rw [← HW12.out]
      exact ⟨rfl, B12.out.b.bel⟩
    · have e1 : decide (x < 0) = false := decide_eq_false h1
      have e2 : decide (y < 0) = false := decide_eq_false h2
      have e3 : decide ((np : Int) ≤ x) = false := decide_eq_false h3
      have e4 : decide ((np : Int) ≤ y) = false := decide_eq_false h4
      have e5 : (x == y) = false := by simpa using h5
      have CT := twice_any w12 _ T x y B12.out.b.d
      rw [decide_eq_true h6] at CT
      have HCT := Lib.hid CT
      clear h5 h6 CT
      go_wp2_with fail
      rw [← HW12.out]
      refine HCT.out.mono ?_
      rintro en4 w13 ⟨rfl, b13⟩
      have HB := Lib.hid (B12.out.next b13).b.bel
      clear b13
      go_wp2
      go_ret
      exact ⟨rfl, HB.out⟩
  · have CLA := Lib.hid (fun W (h : IsL W A n c F m d R k e (lowWv T) (lowEv T) (lowPv T)) => lastL_any W x hx1 hx2 h)
    have CNO := Lib.hid (fun W (h : IsL W A n c F m d R k e (lowWv T) (lowEv T) (lowPv T)) => nodeL_any W y 0 h)
    have CBE := Lib.hid (fun W (h : IsL W A n c F m d R k e (lowWv T) (lowEv T) (lowPv T)) => before_done W (idxV (lowPv T) (y, 0)) (lastV (lowPv T) x) h.g)
    have hgood := HGOOD.out hbad
    obtain ⟨iy, hiy⟩ : ∃ z, z = idxV (lowPv T) (y, 0) := ⟨_, rfl⟩
    obtain ⟨lx, hlx⟩ : ∃ z, z = lastV (lowPv T) x := ⟨_, rfl⟩
    rw [← hiy] at CNO
    rw [← hlx] at CLA
    rw [← hiy, ← hlx] at CBE hgood
    clear hiy hlx hbad hnp HBAD HGOOD HTT
    rcases hgood with ⟨rfl, hbf⟩ | ⟨rfl, hbf⟩
    · rw [hbf] at CBE
      clear hbf
      go_wp2_with fail
      rw [← HW12.out]
      clear HW12
      refine wp_region_facts' [82, 83, 84, 85, 86, 87, 88, 89, 90, 91, 92, 93, 94, 95, 96, 97, 98, 99, 100, 101, 102, 6] [true, true, true, true, true, true, true, true, true, true, true, true, true, true, true, true, true, false, false] [(13, true), (16, true)] (by kernel_rfl) (by kernel_rfl) (by kernel_rfl) (by intro d hd; simp at hd ⊢; omega) (BxL w0 ⟨P, np, pc, E, ne, ec, Fu, nf, fc, Rr, nr, rc⟩ T w4.heap.size A n c F m d R k e (lowWv T) (lowEv T) (lowPv T)) (PhiR0 w4.heap.size A n c F m d R k e x y lx iy)
        (fun x y h hb => h.next hb) (phiR0_below w4.heap.size A n c F m d R k e x y lx iy) (B12.out.next (Below.refl _ _).drew) (fun p hp v w hv => by
          simp only [List.mem_cons, List.not_mem_nil, or_false] at hp
          rcases hp with rfl | rfl <;> exact hv) (fun kq hkq w => by
          have : kq = 17 ∨ kq = 18 := by
            match kq with
            | 0 | 1 | 2 | 3 | 4 | 5 | 6 | 7 | 8 | 9 | 10 | 11 | 12 | 13 | 14 | 15 | 16 => simp at hkq
            | 17 => exact .inl rfl
            | 18 => exact .inr rfl
            | q + 19 => simp at hkq
          rcases this with rfl | rfl <;> trivial) ?hstep ?hend
      case hstep =>
        intro kq o ho hw a w hI hA hd K hK
        obtain ⟨ρ, hρ⟩ : ∃ ρ, a.eval = ρ := ⟨_, rfl⟩
        rw [hρ] at hA hd
        match kq, ho with
        | 0, ho =>
          have hoo := Option.some.inj ho
          subst hoo
          exact fx_val hK hρ (.int .i64 0) (by have h := hA.tmp 11 (by decide); simp [execOp, h, go_sem]) rfl
        | 1, ho =>
          have hoo := Option.some.inj ho
          subst hoo
          have f0 : (ρ (.tmp 82)) = .int .i64 0 := hd ⟨0, .data⟩ (by simp) (by rfl)
          exact fx_val hK hρ (.bool false) (by simp [execOp, f0, hA.const, go_sem]) rfl
        | 2, ho =>
          have hoo := Option.some.inj ho
          subst hoo
          exact fx_val hK hρ _ (by have h := hA.tmp 7 (by decide); simp [execOp, h, go_sem]) rfl
        | 3, ho =>
          have hoo := Option.some.inj ho
          subst hoo
          have f2 : (ρ (.tmp 84)) = .pointer (some ⟨w4.heap.size, 0, none⟩) := hd ⟨2, .data⟩ (by simp) (by rfl)
          exact fx_val hK hρ _ (by have h0 := hI.c0; have h1 := hI.c1; simp [execOp, f2, h0, h1, go_sem]) rfl
        | 4, ho =>
          have hoo := Option.some.inj ho
          subst hoo
          exact fx_val hK hρ _ (by have h := hA.tmp 7 (by decide); have h0 := hI.c0; have h1 := hI.c1; have h2 := hI.c2; simp [execOp, h, h0, h1, h2, go_sem]) rfl
        | 5, ho =>
          have hoo := Option.some.inj ho
          subst hoo
          exact fx_val hK hρ (.int .i64 y) (by have h := hA.tmp 2 (by decide); simp [execOp, h, go_sem]) rfl
        | 6, ho =>
          have hoo := Option.some.inj ho
          subst hoo
          have f5 : (ρ (.tmp 87)) = .int .i64 y := hd ⟨5, .data⟩ (by simp) (by rfl)
          exact fx_val hK hρ (.agg #[.int .i64 y, .int .i64 0]) (by simp [execOp, f5, go_sem]) rfl
        | 7, ho =>
          have hoo := Option.some.inj ho
          subst hoo
          have f4 : (ρ (.tmp 86)) = .agg #[.slice A n c, .slice F m d, .slice R k e] := hd ⟨4, .data⟩ (by simp) (by rfl)
          have f6 : (ρ (.tmp 88)) = .agg #[.int .i64 y, .int .i64 0] := hd ⟨6, .data⟩ (by simp) (by rfl)
          exact fx_call hK hρ 8 _ _ _ rfl (by simp only [List.map_toArray, List.map_cons, List.map_nil, f4, f6]) (eg_of Tryd.func8 (by kernel_rfl) rfl) ((CNO.out _ hI.l).mono fun e w' ⟨he, hb⟩ => ⟨_, he, rfl, hb⟩)
        | 8, ho =>
          have hoo := Option.some.inj ho
          subst hoo
          exact fx_val hK hρ _ (by have h := hA.tmp 7 (by decide); have h0 := hI.c0; have h1 := hI.c1; have h2 := hI.c2; simp [execOp, h, h0, h1, h2, go_sem]) rfl
        | 9, ho =>
          have hoo := Option.some.inj ho
          subst hoo
          exact fx_val hK hρ (.int .i64 x) (by have h := hA.tmp 1 (by decide); simp [execOp, h, go_sem]) rfl
        | 10, ho =>
          have hoo := Option.some.inj ho
          subst hoo
          have f8 : (ρ (.tmp 90)) = .agg #[.slice A n c, .slice F m d, .slice R k e] := hd ⟨8, .data⟩ (by simp) (by rfl)
          have f9 : (ρ (.tmp 91)) = .int .i64 x := hd ⟨9, .data⟩ (by simp) (by rfl)
          exact fx_call hK hρ 10 _ _ _ rfl (by simp only [List.map_toArray, List.map_cons, List.map_nil, f8, f9]) (eg_of Tryd.func10 (by kernel_rfl) rfl) ((CLA.out _ hI.l).mono fun e w' ⟨he, hb⟩ => ⟨_, he, rfl, hb⟩)
        | 11, ho =>
          have hoo := Option.some.inj ho
          subst hoo
          have f3 : (ρ (.tmp 85)) = .agg #[.slice A n c, .slice F m d] := hd ⟨3, .data⟩ (by simp) (by rfl)
          have f7 : (ρ (.tmp 89)) = .int .i64 iy := hd ⟨7, .data⟩ (by simp) (by rfl)
          have f10 : (ρ (.tmp 92)) = .int .i64 lx := hd ⟨10, .data⟩ (by simp) (by rfl)
          exact fx_call hK hρ 17 _ _ _ rfl (by simp only [List.map_toArray, List.map_cons, List.map_nil, f3, f7, f10]) (eg_of Tryd.func17 (by kernel_rfl) rfl) ((CBE.out _ hI.l).mono fun e w' ⟨he, hb⟩ => ⟨_, he, rfl, hb⟩)
        | 12, ho =>
          have hoo := Option.some.inj ho
          subst hoo
          have f1 : (ρ (.tmp 83)) = .bool false := hd ⟨1, .data⟩ (by simp) (by rfl)
          have f11 : (ρ (.tmp 93)) = .bool false := hd ⟨11, .data⟩ (by simp) (by rfl)
          exact fx_val hK hρ (.bool true) (by simp [execOp, f1, f11, go_sem]) rfl
        | 13, ho =>
          have hoo := Option.some.inj ho
          subst hoo
          have f12 : (ρ (.tmp 94)) = .bool true := hd ⟨12, .data⟩ (by simp) (by rfl)
          exact fx_val hK hρ (.bool true) (by simp [execOp, f12, go_sem]) rfl
        | 14, ho =>
          have hoo := Option.some.inj ho
          subst hoo
          exact fx_val hK hρ (.int .i64 0) (by have h := hA.tmp 11 (by decide); simp [execOp, h, go_sem]) rfl
        | 15, ho =>
          have hoo := Option.some.inj ho
          subst hoo
          have f14 : (ρ (.tmp 96)) = .int .i64 0 := hd ⟨14, .data⟩ (by simp) (by rfl)
          exact fx_val hK hρ (.bool true) (by simp [execOp, f14, hA.const, go_sem]) rfl
        | 16, ho =>
          have hoo := Option.some.inj ho
          subst hoo
          have f15 : (ρ (.tmp 97)) = .bool true := hd ⟨15, .data⟩ (by simp) (by rfl)
          exact fx_val hK hρ (.bool true) (by simp [execOp, f15, go_sem]) rfl
        | 17, ho =>
          exact absurd hw (by decide)
        | 18, ho =>
          exact absurd hw (by decide)
        | 19, ho =>
          have hoo := Option.some.inj ho
          subst hoo
          have f16 : (ρ (.tmp 98)) = .bool true := hd ⟨16, .data⟩ (by simp) (by rfl)
          exact fx_val hK hρ (.bool true) (by simp [execOp, f16, hA.const, go_sem]) rfl
        | 20, ho =>
          have hoo := Option.some.inj ho
          subst hoo
          have f13 : (ρ (.tmp 95)) = .bool true := hd ⟨13, .data⟩ (by simp) (by rfl)
          have f19 : (ρ (.tmp 101)) = .bool true := hd ⟨19, .data⟩ (by simp) (by rfl)
          exact fx_val hK hρ (.bool true) (by simp [execOp, f13, f19, hA.const, go_sem]) rfl
        | 21, ho =>
          have hoo := Option.some.inj ho
          subst hoo
          have f20 : (ρ (.tmp 102)) = .bool true := hd ⟨20, .data⟩ (by simp) (by rfl)
          exact fx_val hK hρ (.bool true) (by simp [execOp, f20, go_sem]) rfl
        | kq + 22, ho => simp at ho
      case hend =>
        intro vals xw hI hF
        have fz : vals 6 = .bool true := hF 21 (by decide)
        simp only [fillA, fillL, List.contains_cons, List.contains_nil, Nat.reduceBEq, Bool.or_false, Bool.or_true, cond_true, cond_false, Nat.zero_add, Nat.reduceAdd]
        rw [fz]
        have HJ := Lib.hid hI
        clear hF hI fz
        go_wp2
        go_ret
        exact ⟨rfl, HJ.out.b.bel⟩
    · rw [hbf] at CBE
      clear hbf
      go_wp2_with fail
      rw [← HW12.out]
      clear HW12
      refine wp_region_facts' [82, 83, 84, 85, 86, 87, 88, 89, 90, 91, 92, 93, 94, 95, 96, 97, 98, 99, 100, 101, 102, 6] [] [(13, true), (16, false)] (by kernel_rfl) (by kernel_rfl) (by kernel_rfl) (by intro d hd; simp at hd ⊢; omega) (BxL w0 ⟨P, np, pc, E, ne, ec, Fu, nf, fc, Rr, nr, rc⟩ T w4.heap.size A n c F m d R k e (lowWv T) (lowEv T) (lowPv T)) (PhiR70 w4.heap.size A n c F m d R k e x y lx iy)
        (fun x y h hb => h.next hb) (phiR70_below w4.heap.size A n c F m d R k e x y lx iy) (B12.out.next (Below.refl _ _).drew) (fun p hp v w hv => by
          simp only [List.mem_cons, List.not_mem_nil, or_false] at hp
          rcases hp with rfl | rfl <;> exact hv) (fun kq hkq => by simp at hkq) ?hstep ?hend
      case hstep =>
        intro kq o ho hw a w hI hA hd K hK
        obtain ⟨ρ, hρ⟩ : ∃ ρ, a.eval = ρ := ⟨_, rfl⟩
        rw [hρ] at hA hd
        match kq, ho with
        | 0, ho =>
          have hoo := Option.some.inj ho
          subst hoo
          exact fx_val hK hρ (.int .i64 70) (by have h := hA.tmp 11 (by decide); simp [execOp, h, go_sem]) rfl
        | 1, ho =>
          have hoo := Option.some.inj ho
          subst hoo
          have f0 : (ρ (.tmp 82)) = .int .i64 70 := hd ⟨0, .data⟩ (by simp) (by rfl)
          exact fx_val hK hρ (.bool true) (by simp [execOp, f0, hA.const, go_sem]) rfl
        | 2, ho =>
          have hoo := Option.some.inj ho
          subst hoo
          exact fx_val hK hρ _ (by have h := hA.tmp 7 (by decide); simp [execOp, h, go_sem]) rfl
        | 3, ho =>
          have hoo := Option.some.inj ho
          subst hoo
          have f2 : (ρ (.tmp 84)) = .pointer (some ⟨w4.heap.size, 0, none⟩) := hd ⟨2, .data⟩ (by simp) (by rfl)
          exact fx_val hK hρ _ (by have h0 := hI.c0; have h1 := hI.c1; simp [execOp, f2, h0, h1, go_sem]) rfl
        | 4, ho =>
          have hoo := Option.some.inj ho
          subst hoo
          exact fx_val hK hρ _ (by have h := hA.tmp 7 (by decide); have h0 := hI.c0; have h1 := hI.c1; have h2 := hI.c2; simp [execOp, h, h0, h1, h2, go_sem]) rfl
        | 5, ho =>
          have hoo := Option.some.inj ho
          subst hoo
          exact fx_val hK hρ (.int .i64 y) (by have h := hA.tmp 2 (by decide); simp [execOp, h, go_sem]) rfl
        | 6, ho =>
          have hoo := Option.some.inj ho
          subst hoo
          have f5 : (ρ (.tmp 87)) = .int .i64 y := hd ⟨5, .data⟩ (by simp) (by rfl)
          exact fx_val hK hρ (.agg #[.int .i64 y, .int .i64 0]) (by simp [execOp, f5, go_sem]) rfl
        | 7, ho =>
          have hoo := Option.some.inj ho
          subst hoo
          have f4 : (ρ (.tmp 86)) = .agg #[.slice A n c, .slice F m d, .slice R k e] := hd ⟨4, .data⟩ (by simp) (by rfl)
          have f6 : (ρ (.tmp 88)) = .agg #[.int .i64 y, .int .i64 0] := hd ⟨6, .data⟩ (by simp) (by rfl)
          exact fx_call hK hρ 8 _ _ _ rfl (by simp only [List.map_toArray, List.map_cons, List.map_nil, f4, f6]) (eg_of Tryd.func8 (by kernel_rfl) rfl) ((CNO.out _ hI.l).mono fun e w' ⟨he, hb⟩ => ⟨_, he, rfl, hb⟩)
        | 8, ho =>
          have hoo := Option.some.inj ho
          subst hoo
          exact fx_val hK hρ _ (by have h := hA.tmp 7 (by decide); have h0 := hI.c0; have h1 := hI.c1; have h2 := hI.c2; simp [execOp, h, h0, h1, h2, go_sem]) rfl
        | 9, ho =>
          have hoo := Option.some.inj ho
          subst hoo
          exact fx_val hK hρ (.int .i64 x) (by have h := hA.tmp 1 (by decide); simp [execOp, h, go_sem]) rfl
        | 10, ho =>
          have hoo := Option.some.inj ho
          subst hoo
          have f8 : (ρ (.tmp 90)) = .agg #[.slice A n c, .slice F m d, .slice R k e] := hd ⟨8, .data⟩ (by simp) (by rfl)
          have f9 : (ρ (.tmp 91)) = .int .i64 x := hd ⟨9, .data⟩ (by simp) (by rfl)
          exact fx_call hK hρ 10 _ _ _ rfl (by simp only [List.map_toArray, List.map_cons, List.map_nil, f8, f9]) (eg_of Tryd.func10 (by kernel_rfl) rfl) ((CLA.out _ hI.l).mono fun e w' ⟨he, hb⟩ => ⟨_, he, rfl, hb⟩)
        | 11, ho =>
          have hoo := Option.some.inj ho
          subst hoo
          have f3 : (ρ (.tmp 85)) = .agg #[.slice A n c, .slice F m d] := hd ⟨3, .data⟩ (by simp) (by rfl)
          have f7 : (ρ (.tmp 89)) = .int .i64 iy := hd ⟨7, .data⟩ (by simp) (by rfl)
          have f10 : (ρ (.tmp 92)) = .int .i64 lx := hd ⟨10, .data⟩ (by simp) (by rfl)
          exact fx_call hK hρ 17 _ _ _ rfl (by simp only [List.map_toArray, List.map_cons, List.map_nil, f3, f7, f10]) (eg_of Tryd.func17 (by kernel_rfl) rfl) ((CBE.out _ hI.l).mono fun e w' ⟨he, hb⟩ => ⟨_, he, rfl, hb⟩)
        | 12, ho =>
          have hoo := Option.some.inj ho
          subst hoo
          have f1 : (ρ (.tmp 83)) = .bool true := hd ⟨1, .data⟩ (by simp) (by rfl)
          have f11 : (ρ (.tmp 93)) = .bool true := hd ⟨11, .data⟩ (by simp) (by rfl)
          exact fx_val hK hρ (.bool true) (by simp [execOp, f1, f11, go_sem]) rfl
        | 13, ho =>
          have hoo := Option.some.inj ho
          subst hoo
          have f12 : (ρ (.tmp 94)) = .bool true := hd ⟨12, .data⟩ (by simp) (by rfl)
          exact fx_val hK hρ (.bool true) (by simp [execOp, f12, go_sem]) rfl
        | 14, ho =>
          have hoo := Option.some.inj ho
          subst hoo
          exact fx_val hK hρ (.int .i64 70) (by have h := hA.tmp 11 (by decide); simp [execOp, h, go_sem]) rfl
        | 15, ho =>
          have hoo := Option.some.inj ho
          subst hoo
          have f14 : (ρ (.tmp 96)) = .int .i64 70 := hd ⟨14, .data⟩ (by simp) (by rfl)
          exact fx_val hK hρ (.bool false) (by simp [execOp, f14, hA.const, go_sem]) rfl
        | 16, ho =>
          have hoo := Option.some.inj ho
          subst hoo
          have f15 : (ρ (.tmp 97)) = .bool false := hd ⟨15, .data⟩ (by simp) (by rfl)
          exact fx_val hK hρ (.bool false) (by simp [execOp, f15, go_sem]) rfl
        | 17, ho =>
          have hoo := Option.some.inj ho
          subst hoo
          exact fx_val hK hρ (.int .i64 70) (by have h := hA.tmp 11 (by decide); simp [execOp, h, go_sem]) rfl
        | 18, ho =>
          have hoo := Option.some.inj ho
          subst hoo
          have f17 : (ρ (.tmp 99)) = .int .i64 70 := hd ⟨17, .data⟩ (by simp) (by rfl)
          exact fx_val hK hρ (.bool true) (by simp [execOp, f17, hA.const, go_sem]) rfl
        | 19, ho =>
          have hoo := Option.some.inj ho
          subst hoo
          have f16 : (ρ (.tmp 98)) = .bool false := hd ⟨16, .data⟩ (by simp) (by rfl)
          have f18 : (ρ (.tmp 100)) = .bool true := hd ⟨18, .data⟩ (by simp) (by rfl)
          exact fx_val hK hρ (.bool true) (by simp [execOp, f16, f18, hA.const, go_sem]) rfl
        | 20, ho =>
          have hoo := Option.some.inj ho
          subst hoo
          have f13 : (ρ (.tmp 95)) = .bool true := hd ⟨13, .data⟩ (by simp) (by rfl)
          have f19 : (ρ (.tmp 101)) = .bool true := hd ⟨19, .data⟩ (by simp) (by rfl)
          exact fx_val hK hρ (.bool true) (by simp [execOp, f13, f19, hA.const, go_sem]) rfl
        | 21, ho =>
          have hoo := Option.some.inj ho
          subst hoo
          have f20 : (ρ (.tmp 102)) = .bool true := hd ⟨20, .data⟩ (by simp) (by rfl)
          exact fx_val hK hρ (.bool true) (by simp [execOp, f20, go_sem]) rfl
        | kq + 22, ho => simp at ho
      case hend =>
        intro vals xw hI hF
        have fz : vals 6 = .bool true := hF 21 (by decide)
        simp only [fillA, fillL, List.contains_cons, List.contains_nil, Nat.reduceBEq, Bool.or_false, Bool.or_true, cond_true, cond_false, Nat.zero_add, Nat.reduceAdd]
        rw [fz]
        have HJ := Lib.hid hI
        clear hF hI fz
        go_wp2
        go_ret
        exact ⟨rfl, HJ.out.b.bel⟩
theorem walk_LowRound (w : World) {s : Sh} {T : Task} (h : InD w s T) (x : Int) (hx : -9223372036854775808 ≤ x ∧ x ≤ 9223372036854775807) (y : Int) (hy : -9223372036854775808 ≤ y ∧ y ≤ 9223372036854775807) (hT : DTab w) :
    Calls Tryd.prog 4 #[s.arg T.period T.deadline, .int .i64 x, .int .i64 y] w fun e w' => e = .returned (.bool true) ∧ Below w.heap.size w w' := by
  by_cases f : FewD T
  · by_cases hl : s.ne < 48
    · by_cases hX : lowX T = 0
      · exact round_yes w s T x y hx.1 hx.2 hT h f hl hX
      · exact round_no w s T x y hT h f hl hX
    · exact round_full w s T x y hT h f (by omega)
  · exact round_many w s T x y hT h f
end Go.Proofs.YtecjpclkiiaidaaDoor
