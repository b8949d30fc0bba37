/- The walk of LowLess in the seat YtecjpclkiiaidaaDoor (printed by lower/mk_less.py). No statement is proved here. -/
import Derived.Test.YtecjpclkiiaidaaDoorZLowLessMath
import Derived.Test.YtecjpclkiiaidaaDoorZM4
import Derived.Test.YtecjpclkiiaidaaDoorZM20
import Derived.Test.YtecjpclkiiaidaaDoorZM21
set_option linter.unusedVariables false
namespace Go.Proofs.YtecjpclkiiaidaaDoor
open Go.RowKit

/-- A task without its futures lies as the task does. -/
theorem IsD.less {w : World} {P : Option Addr} {np pc : Nat} {E : Option Addr} {ne ec : Nat} {Fu : Option Addr} {nf fc : Nat} {R : Option Addr} {nr rc : Nat} {T : Task} (h : IsD w ⟨P, np, pc, E, ne, ec, Fu, nf, fc, R, nr, rc⟩ T) : IsD w ⟨P, np, pc, E, ne, ec, none, 0, 0, R, nr, rc⟩ (lessT T) :=
  ⟨⟨h.t.hp, h.t.he, rfl, h.t.hr, h.t.parts, h.t.edges, (fun hp => absurd hp (by simp [lessT])), h.t.bars, h.t.nP, h.t.nE, fun _ => ⟨rfl, rfl⟩, h.t.nR⟩, ⟨h.few.np, h.few.ne, by simp [lessT], h.few.nr, h.few.bars⟩, h.tab, h.lE, Nat.le_refl _⟩
/-- Both graphs, each in its box. -/
structure InLe (w : World) (s : Sh) (T : Task) (g : Nat) (A : Option Addr) (n c : Nat) (F : Option Addr) (m d : Nat) (R : Option Addr) (k e : Nat) (gm : Nat) (A' : Option Addr) (n' c' : Nat) (F' : Option Addr) (m' d' : Nat) (R' : Option Addr) (k' e' : Nat) (w' : World) : Prop where
  l : BxL w s T g A n c F m d R k e (lowWv T) (lowEv T) (lowPv T) w'
  m0 : w'.cell? ⟨gm, 0, none⟩ = some (.slice A' n' c')
  m1 : w'.cell? ⟨gm, 1, none⟩ = some (.slice F' m' d')
  ml : IsL w' A' n' c' F' m' d' R' k' e' (lowWv (lessT T)) (lowEv (lessT T)) (lowPv (lessT T))
theorem InLe.next {w : World} {s : Sh} {T : Task} {g : Nat} {A : Option Addr} {n c : Nat} {F : Option Addr} {m d : Nat} {R : Option Addr} {k e gm : Nat} {A' : Option Addr} {n' c' : Nat} {F' : Option Addr} {m' d' : Nat} {R' : Option Addr} {k' e' : Nat} {y z : World} (h : InLe w s T g A n c F m d R k e gm A' n' c' F' m' d' R' k' e' y) (hb : Below y.heap.size y z) : InLe w s T g A n c F m d R k e gm A' n' c' F' m' d' R' k' e' z :=
  ⟨h.l.next hb, (hb.cell (World.block_lt_of_cell? _ _ h.m0)).trans h.m0, (hb.cell (World.block_lt_of_cell? _ _ h.m1)).trans h.m1, h.ml.below hb⟩
def PhiL7 (g g1 gm : Nat) (A : Option Addr) (n c : Nat) (F : Option Addr) (m d : Nat) (A' : Option Addr) (n' c' : Nat) (F' : Option Addr) (m' d' : Nat) (Fu : Option Addr) (nf fc : Nat) (lm ll tt : Int) : Nat → Value → World → Prop
  | 0, v, w => v = .int .i64 0
  | 1, v, w => v = .bool true
  | 2, v, w => v = .bool true
  | 3, v, w => v = .pointer (some ⟨gm, 0, none⟩)
  | 4, v, w => v = .agg #[.slice A' n' c', .slice F' m' d']
  | 5, v, w => v = .int .i64 lm
  | 6, v, w => v = .pointer (some ⟨g, 0, none⟩)
  | 7, v, w => v = .agg #[.slice A n c, .slice F m d]
  | 8, v, w => v = .int .i64 ll
  | 9, v, w => v = .bool true
  | 10, v, w => v = .bool true
  | 11, v, w => v = .bool true
  | 12, v, w => v = .pointer (some ⟨gm, 0, none⟩)
  | 13, v, w => v = .agg #[.slice A' n' c', .slice F' m' d']
  | 14, v, w => v = .int .i64 tt
  | 15, v, w => v = .pointer (some ⟨g, 0, none⟩)
  | 16, v, w => v = .agg #[.slice A n c, .slice F m d]
  | 17, v, w => v = .int .i64 tt
  | 18, v, w => v = .bool true
  | 19, v, w => v = .bool true
  | 20, v, w => v = .bool true
  | 21, v, w => v = .pointer (some ⟨g, 0, none⟩)
  | 22, v, w => v = .pointer (some ⟨g, 0, none⟩)
  | 23, v, w => v = .slice A n c
  | 24, v, w => v = .int .i64 (n : Int)
  | 25, v, w => v = .pointer (some ⟨gm, 0, none⟩)
  | 26, v, w => v = .pointer (some ⟨gm, 0, none⟩)
  | 27, v, w => v = .slice A' n' c'
  | 28, v, w => v = .int .i64 (n' : Int)
  | 29, v, w => v = .pointer (some ⟨g1, 4, none⟩)
  | 30, v, w => v = .slice Fu nf fc
  | 31, v, w => v = .int .i64 (nf : Int)
  | 32, v, w => v = .int .i64 ((n' : Int) + (nf : Int))
  | 33, v, w => v = .bool true
  | 34, v, w => v = .bool true
  | 35, v, w => v = .bool true
  | _, _, _ => True
theorem phiL7_below (g g1 gm : Nat) (A : Option Addr) (n c : Nat) (F : Option Addr) (m d : Nat) (A' : Option Addr) (n' c' : Nat) (F' : Option Addr) (m' d' : Nat) (Fu : Option Addr) (nf fc : Nat) (lm ll tt : Int) : ∀ kq v w w', PhiL7 g g1 gm A n c F m d A' n' c' F' m' d' Fu nf fc lm ll tt kq v w → Below w.heap.size w w' → PhiL7 g g1 gm A n c F m d A' n' c' F' m' d' Fu nf fc lm ll tt kq v w' := by
  intro kq v w w' h hb
  match kq, h with
  | 0, h => exact h
  | 1, h => exact h
  | 2, h => exact h
  | 3, h => exact h
  | 4, h => exact h
  | 5, h => exact h
  | 6, h => exact h
  | 7, h => exact h
  | 8, h => exact h
  | 9, h => exact h
  | 10, h => exact h
  | 11, h => exact h
  | 12, h => exact h
  | 13, h => exact h
  | 14, h => exact h
  | 15, h => exact h
  | 16, h => exact h
  | 17, h => exact h
  | 18, h => exact h
  | 19, h => exact h
  | 20, h => exact h
  | 21, h => exact h
  | 22, h => exact h
  | 23, h => exact h
  | 24, h => exact h
  | 25, h => exact h
  | 26, h => exact h
  | 27, h => exact h
  | 28, h => exact h
  | 29, h => exact h
  | 30, h => exact h
  | 31, h => exact h
  | 32, h => exact h
  | 33, h => exact h
  | 34, h => exact h
  | 35, h => exact h
  | kq + 36, h => exact trivial
set_option maxRecDepth 100000 in
set_option maxHeartbeats 4000000 in
theorem less_many (w : World) (s : Sh) (T : Task) (hT : DTab w) (h : InD w s T) (f : ¬ FewD T) :
    Calls Tryd.prog 5 #[s.arg T.period T.deadline] w fun e w' => e = .returned (.bool true) ∧ Below w.heap.size w w' := by
  have HTW := Lib.hid (fun W (h : Below w.heap.size w W) => DTab.via hT h)
  have B0 := Lib.hid (Bx1T.start h.t)
  have F1 := Lib.hid f
  clear h hT f
  go_enter Tryd.func5, Tryd.ntmps5
  go_wp2_with fail
  refine (awakeL_any _ (HTW.out _ B0.out.bel)).mono ?_
  rintro e w1 ⟨rfl, b1⟩
  have B1 := Lib.hid (B0.out.next b1)
  clear b1
  obtain ⟨t1, t2, t3, t4, t5, t6⟩ := B1.out.c
  go_wp2_with fail
  refine (few_n B1.out.t F1.out).mono ?_
  rintro e w2 ⟨rfl, b2⟩
  have B2 := Lib.hid (B1.out.next b2)
  clear b2 t1 t2 t3 t4 t5 t6
  go_wp2_with fail
  refine (awakeL_any _ (HTW.out _ B2.out.bel)).mono ?_
  rintro e w3 ⟨rfl, b3⟩
  have B3 := Lib.hid (B2.out.next b3)
  clear b3
  go_wp2_with fail
  go_ret
  exact ⟨rfl, B3.out.bel⟩
set_option maxRecDepth 100000 in
set_option maxHeartbeats 16000000 in
theorem less_few (w0 : World) (s : Sh) (T : Task) (hT : DTab w0) (h : InD w0 s T) (f : FewD T) :
    Calls Tryd.prog 5 #[s.arg T.period T.deadline] w0 fun e w' => e = .returned (.bool true) ∧ Below w0.heap.size w0 w' := by
  have HTW := Lib.hid (fun W (h : Below w0.heap.size w0 W) => DTab.via hT h)
  have B0 := Lib.hid ((Bx1T.start h.t).few h hT f)
  have F1 := Lib.hid f
  have HTT := Lib.hid h.t
  have hl3 : s.nf ≤ 20 := by have := f.nf; have := h.t.hf; omega
  clear h hT f
  obtain ⟨P, np, pc, E, ne, ec, Fu, nf, fc, Rr, nr, rc⟩ := s
  simp only at hl3
  obtain ⟨n, hn⟩ : ∃ n, (lowWv T).length = n := ⟨_, rfl⟩
  obtain ⟨m, hm⟩ : ∃ n, (lowEv T).length = n := ⟨_, rfl⟩
  obtain ⟨k, hk⟩ : ∃ n, (lowPv T).length = n := ⟨_, rfl⟩
  have CL := Lib.hid (fun W s (h : IsD W s T) => lower_sz hn hm hk h)
  obtain ⟨n', hn'⟩ : ∃ n, (lowWv (lessT T)).length = n := ⟨_, rfl⟩
  obtain ⟨m', hm'⟩ : ∃ n, (lowEv (lessT T)).length = n := ⟨_, rfl⟩
  obtain ⟨k', hk'⟩ : ∃ n, (lowPv (lessT T)).length = n := ⟨_, rfl⟩
  have CM := Lib.hid (fun W s (h : IsD W s (lessT T)) => lower_sz hn' hm' hk' h)
  have eM : (lessT T).period = T.period ∧ (lessT T).deadline = T.deadline := ⟨rfl, rfl⟩
  rw [eM.1, eM.2] at CM
  obtain ⟨x, hx⟩ : ∃ x, x = lowX T := ⟨_, rfl⟩
  obtain ⟨y, hy⟩ : ∃ y, y = lowX (lessT T) := ⟨_, rfl⟩
  rw [← hx] at CL
  rw [← hy] at CM
  have HX := Lib.hid hx
  have HY := Lib.hid hy
  have HLN := Lib.hid (And.intro hn hn')
  clear hx hy hn hn' hm hm' hk hk' eM
  go_enter Tryd.func5, Tryd.ntmps5
  go_wp2_with fail
  refine (awakeL_any _ (HTW.out _ B0.out.bel)).mono ?_
  rintro e w1 ⟨rfl, b1⟩
  have B1 := Lib.hid (B0.out.next b1)
  clear b1
  obtain ⟨t1, t2, t3, t4, t5, t6⟩ := B1.out.c
  go_wp2_with fail
  refine (few_d B1.out.d.t F1.out).mono ?_
  rintro e w2 ⟨rfl, b2⟩
  have B2 := Lib.hid (B1.out.next b2)
  clear b2 t1 t2 t3 t4 t5 t6
  obtain ⟨t1, t2, t3, t4, t5, t6⟩ := B2.out.c
  go_wp2_with fail
  refine (own_d B2.out.d).mono ?_
  rintro e w3 ⟨s', rfl, hs', b3⟩
  have B3 := Lib.hid (B2.out.next b3)
  have HS := Lib.hid hs'
  clear b3 hs' t1 t2 t3 t4 t5 t6
  go_wp2_with fail
  refine (CL.out _ _ HS.out).mono ?_
  rintro en w4 ⟨A, c, F, d, R, e, rfl, hL, b4⟩
  obtain ⟨w5, hw5⟩ : ∃ w5, w5 = w4.alloc (.cells #[.slice A n c, .slice F m d, .slice R k e] 28) := ⟨_, rfl⟩
  have hBL := BxL.start (B3.out.next b4) hL
  rw [← hw5] at hBL
  have HW := Lib.hid hw5
  have B5 := Lib.hid hBL
  obtain ⟨g, hg⟩ : ∃ g, g = w4.heap.size := ⟨_, rfl⟩
  have hg0 : w0.heap.size < w4.heap.size := World.block_lt_of_cell? _ _ (B3.out.next b4).c.1
  obtain ⟨t1, t2, t3, t4, t5, t6⟩ := (B3.out.next b4).c
  simp only at t1 t2 t3 t4 t5 t6
  clear hw5 hBL b4 hL B0 B1 B2 B3 CL HS F1 HTW
  go_wp2_with fail
  rw [← HW.out]
  clear HW t1 t2 t3 t4 t5 t6 hg0
  rw [← hg] at B5 ⊢
  clear hg
  refine (own_d B5.out.b.d).mono ?_
  rintro en2 w6 ⟨s2, rfl, hs2, b6⟩
  have B6 := Lib.hid (B5.out.next b6)
  obtain ⟨P2, np2, pc2, E2, ne2, ec2, F2, nf2, fc2, R2, nr2, rc2⟩ := s2
  obtain ⟨w7, hw7⟩ : ∃ w7, w7 = w6.alloc (.cells #[.int .i64 T.period, .int .i64 T.deadline, .slice P2 np2 pc2, .slice E2 ne2 ec2, .slice none 0 0, .slice R2 nr2 rc2] 42) := ⟨_, rfl⟩
  have hb7 : Below w6.heap.size w6 w7 := by rw [hw7]; exact below_alloc _
  have HS7 := Lib.hid (hs2.less.below hb7)
  have B7 := Lib.hid (B6.out.next hb7)
  have HW7 := Lib.hid hw7
  clear b6 hs2 hw7 hb7 B5 B6
  simp only [Sh.arg]
  go_wp2_with fail
  rw [← HW7.out]
  clear HW7
  refine (CM.out _ _ HS7.out).mono ?_
  rintro en3 w8 ⟨A', c', F', d', R', e', rfl, hL', b8⟩
  have B8 := B7.out.next b8
  obtain ⟨w9, hw9⟩ : ∃ w9, w9 = w8.alloc (.cells #[.slice A' n' c', .slice F' m' d', .slice R' k' e'] 28) := ⟨_, rfl⟩
  have hI9 : InLe w0 ⟨P, np, pc, E, ne, ec, Fu, nf, fc, Rr, nr, rc⟩ T g A n c F m d R k e w8.heap.size A' n' c' F' m' d' R' k' e' w9 := by
    have hb : Below w8.heap.size w8 w9 := by rw [hw9]; exact below_alloc _
    refine ⟨B8.next hb, ?_, ?_, hL'.below hb⟩ <;> (rw [hw9, World.cell?_alloc_at _ _ _ _ rfl]; rfl)
  have I9 := Lib.hid hI9
  have HW9 := Lib.hid hw9
  clear hw9 hI9 b8 hL' B8 B7 HS7 CM
  by_cases hX : x = 0
  · subst hX
    have hOK : LowOk T := lowX_zero.mp HX.out.symm
    have hOK' := less_ok hOK
    obtain rfl : y = 0 := by rw [HY.out]; exact lowX_zero.mpr hOK'
    obtain ⟨q1, q2, q3⟩ := low_yes hOK
    obtain ⟨r1, r2, r3⟩ := low_yes hOK'
    have hle := less_long hOK
    have htt := less_total hOK
    have hlen := less_len hOK
    rw [← q1, ← q2, ← r1, ← r2] at hle htt
    rw [← q1, ← r1, HLN.out.1, HLN.out.2] at hlen
    have hnf := HTT.out.hf
    simp only at hnf
    rw [hnf] at hlen
    have hn400 : n ≤ 400 := I9.out.l.l.g.ln
    have hn401 : n' ≤ 400 := I9.out.ml.g.ln
    have hne : ((n : Int) == (n' : Int) + (nf : Int)) = true := by simp; omega
    have HNE := Lib.hid hne
    have CLL := Lib.hid (fun W (h : IsG W A n c F m d (lowWv T) (lowEv T)) => long_done W h)
    have CLM := Lib.hid (fun W (h : IsG W A' n' c' F' m' d' (lowWv (lessT T)) (lowEv (lessT T))) => long_done W h)
    have CTL := Lib.hid (fun W (h : IsG W A n c F m d (lowWv T) (lowEv T)) => total_done W h)
    have CTM := Lib.hid (fun W (h : IsG W A' n' c' F' m' d' (lowWv (lessT T)) (lowEv (lessT T))) => total_done W h)
    rw [htt] at CTM
    obtain ⟨ll, hll⟩ : ∃ l, l = longV (lowWv T) (lowEv T) := ⟨_, rfl⟩
    obtain ⟨lm, hlm⟩ : ∃ l, l = longV (lowWv (lessT T)) (lowEv (lessT T)) := ⟨_, rfl⟩
    obtain ⟨tt, htt2⟩ : ∃ l, l = totalV (lowWv T) (lowEv T) := ⟨_, rfl⟩
    rw [← hll] at CLL hle
    rw [← hlm] at CLM hle
    rw [← htt2] at CTM CTL
    have HLE := Lib.hid hle
    clear hOK hOK' q1 q2 q3 r1 r2 r3 hle htt hlen hnf hne hll hlm htt2 HX HY HLN HTT
    go_wp2_with fail
    rw [← HW9.out]
    clear HW9
    refine wp_region_facts' [32, 33, 34, 35, 36, 37, 38, 39, 40, 41, 42, 43, 44, 45, 46, 47, 48, 49, 50, 51, 52, 53, 54, 55, 56, 57, 58, 59, 60, 61, 62, 63, 64, 65, 66, 2] [] [(2, true), (11, true), (20, true)] (by kernel_rfl) (by kernel_rfl) (by kernel_rfl) (by intro d hd; simp at hd ⊢; omega) (InLe w0 ⟨P, np, pc, E, ne, ec, Fu, nf, fc, Rr, nr, rc⟩ T g A n c F m d R k e w8.heap.size A' n' c' F' m' d' R' k' e') (PhiL7 g w0.heap.size w8.heap.size A n c F m d A' n' c' F' m' d' Fu nf fc lm ll tt)
      (fun x y h hb => h.next hb) (phiL7_below g w0.heap.size w8.heap.size A n c F m d A' n' c' F' m' d' Fu nf fc lm ll tt) (I9.out.next (Below.refl _ _).drew) (fun p hp v w hv => by
        simp only [List.mem_cons, List.not_mem_nil, or_false] at hp
        rcases hp with rfl | rfl | rfl <;> exact hv) (fun kq hkq => by simp at hkq) ?hstep ?hend
    case hstep =>
      intro kq o ho hw a w hI hA hd K hK
      obtain ⟨ρ, hρ⟩ : ∃ ρ, a.eval = ρ := ⟨_, rfl⟩
      rw [hρ] at hA hd
      match kq, ho with
      | 0, ho =>
        have hoo := Option.some.inj ho
        subst hoo
        exact fx_val hK hρ (.int .i64 0) (by have h := hA.tmp 7 (by decide); simp [execOp, h, go_sem]) rfl
      | 1, ho =>
        have hoo := Option.some.inj ho
        subst hoo
        have f0 : (ρ (.tmp 32)) = .int .i64 0 := hd ⟨0, .data⟩ (by simp) (by rfl)
        exact fx_val hK hρ (.bool true) (by simp [execOp, f0, hA.const, go_sem]) rfl
      | 2, ho =>
        have hoo := Option.some.inj ho
        subst hoo
        have f1 : (ρ (.tmp 33)) = .bool true := hd ⟨1, .data⟩ (by simp) (by rfl)
        exact fx_val hK hρ (.bool true) (by simp [execOp, f1, go_sem]) rfl
      | 3, ho =>
        have hoo := Option.some.inj ho
        subst hoo
        exact fx_val hK hρ _ (by have h := hA.tmp 6 (by decide); simp [execOp, h, go_sem]) rfl
      | 4, ho =>
        have hoo := Option.some.inj ho
        subst hoo
        have f3 : (ρ (.tmp 35)) = .pointer (some ⟨w8.heap.size, 0, none⟩) := hd ⟨3, .data⟩ (by simp) (by rfl)
        exact fx_val hK hρ _ (by have h0 := hI.m0; have h1 := hI.m1; simp [execOp, f3, h0, h1, go_sem]) rfl
      | 5, ho =>
        have hoo := Option.some.inj ho
        subst hoo
        have f4 : (ρ (.tmp 36)) = .agg #[.slice A' n' c', .slice F' m' d'] := hd ⟨4, .data⟩ (by simp) (by rfl)
        exact fx_call hK hρ 18 _ _ _ rfl (by simp only [List.map_toArray, List.map_cons, List.map_nil, f4]) (eg_of Tryd.func18 (by kernel_rfl) rfl) ((CLM.out _ hI.ml.g).mono fun e w' ⟨he, hb⟩ => ⟨_, he, rfl, hb⟩)
      | 6, ho =>
        have hoo := Option.some.inj ho
        subst hoo
        exact fx_val hK hρ _ (by have h := hA.tmp 3 (by decide); simp [execOp, h, go_sem]) rfl
      | 7, ho =>
        have hoo := Option.some.inj ho
        subst hoo
        have f6 : (ρ (.tmp 38)) = .pointer (some ⟨g, 0, none⟩) := hd ⟨6, .data⟩ (by simp) (by rfl)
        exact fx_val hK hρ _ (by have h0 := hI.l.c0; have h1 := hI.l.c1; simp [execOp, f6, h0, h1, go_sem]) rfl
      | 8, ho =>
        have hoo := Option.some.inj ho
        subst hoo
        have f7 : (ρ (.tmp 39)) = .agg #[.slice A n c, .slice F m d] := hd ⟨7, .data⟩ (by simp) (by rfl)
        exact fx_call hK hρ 18 _ _ _ rfl (by simp only [List.map_toArray, List.map_cons, List.map_nil, f7]) (eg_of Tryd.func18 (by kernel_rfl) rfl) ((CLL.out _ hI.l.l.g).mono fun e w' ⟨he, hb⟩ => ⟨_, he, rfl, hb⟩)
      | 9, ho =>
        have hoo := Option.some.inj ho
        subst hoo
        have f5 : (ρ (.tmp 37)) = .int .i64 lm := hd ⟨5, .data⟩ (by simp) (by rfl)
        have f8 : (ρ (.tmp 40)) = .int .i64 ll := hd ⟨8, .data⟩ (by simp) (by rfl)
        exact fx_val hK hρ (.bool true) (leq_eq rfl f5 f8 HLE.out) rfl
      | 10, ho =>
        have hoo := Option.some.inj ho
        subst hoo
        have f2 : (ρ (.tmp 34)) = .bool true := hd ⟨2, .data⟩ (by simp) (by rfl)
        have f9 : (ρ (.tmp 41)) = .bool true := hd ⟨9, .data⟩ (by simp) (by rfl)
        exact fx_val hK hρ (.bool true) (by simp [execOp, f2, f9, go_sem]) rfl
      | 11, ho =>
        have hoo := Option.some.inj ho
        subst hoo
        have f10 : (ρ (.tmp 42)) = .bool true := hd ⟨10, .data⟩ (by simp) (by rfl)
        exact fx_val hK hρ (.bool true) (by simp [execOp, f10, go_sem]) rfl
      | 12, ho =>
        have hoo := Option.some.inj ho
        subst hoo
        exact fx_val hK hρ _ (by have h := hA.tmp 6 (by decide); simp [execOp, h, go_sem]) rfl
      | 13, ho =>
        have hoo := Option.some.inj ho
        subst hoo
        have f12 : (ρ (.tmp 44)) = .pointer (some ⟨w8.heap.size, 0, none⟩) := hd ⟨12, .data⟩ (by simp) (by rfl)
        exact fx_val hK hρ _ (by have h0 := hI.m0; have h1 := hI.m1; simp [execOp, f12, h0, h1, go_sem]) rfl
      | 14, ho =>
        have hoo := Option.some.inj ho
        subst hoo
        have f13 : (ρ (.tmp 45)) = .agg #[.slice A' n' c', .slice F' m' d'] := hd ⟨13, .data⟩ (by simp) (by rfl)
        exact fx_call hK hρ 19 _ _ _ rfl (by simp only [List.map_toArray, List.map_cons, List.map_nil, f13]) (eg_of Tryd.func19 (by kernel_rfl) rfl) ((CTM.out _ hI.ml.g).mono fun e w' ⟨he, hb⟩ => ⟨_, he, rfl, hb⟩)
      | 15, ho =>
        have hoo := Option.some.inj ho
        subst hoo
        exact fx_val hK hρ _ (by have h := hA.tmp 3 (by decide); simp [execOp, h, go_sem]) rfl
      | 16, ho =>
        have hoo := Option.some.inj ho
        subst hoo
        have f15 : (ρ (.tmp 47)) = .pointer (some ⟨g, 0, none⟩) := hd ⟨15, .data⟩ (by simp) (by rfl)
        exact fx_val hK hρ _ (by have h0 := hI.l.c0; have h1 := hI.l.c1; simp [execOp, f15, h0, h1, go_sem]) rfl
      | 17, ho =>
        have hoo := Option.some.inj ho
        subst hoo
        have f16 : (ρ (.tmp 48)) = .agg #[.slice A n c, .slice F m d] := hd ⟨16, .data⟩ (by simp) (by rfl)
        exact fx_call hK hρ 19 _ _ _ rfl (by simp only [List.map_toArray, List.map_cons, List.map_nil, f16]) (eg_of Tryd.func19 (by kernel_rfl) rfl) ((CTL.out _ hI.l.l.g).mono fun e w' ⟨he, hb⟩ => ⟨_, he, rfl, hb⟩)
      | 18, ho =>
        have hoo := Option.some.inj ho
        subst hoo
        have f14 : (ρ (.tmp 46)) = .int .i64 tt := hd ⟨14, .data⟩ (by simp) (by rfl)
        have f17 : (ρ (.tmp 49)) = .int .i64 tt := hd ⟨17, .data⟩ (by simp) (by rfl)
        exact fx_val hK hρ (.bool true) (by simp [execOp, f14, f17, go_sem]) rfl
      | 19, ho =>
        have hoo := Option.some.inj ho
        subst hoo
        have f11 : (ρ (.tmp 43)) = .bool true := hd ⟨11, .data⟩ (by simp) (by rfl)
        have f18 : (ρ (.tmp 50)) = .bool true := hd ⟨18, .data⟩ (by simp) (by rfl)
        exact fx_val hK hρ (.bool true) (by simp [execOp, f11, f18, go_sem]) rfl
      | 20, ho =>
        have hoo := Option.some.inj ho
        subst hoo
        have f19 : (ρ (.tmp 51)) = .bool true := hd ⟨19, .data⟩ (by simp) (by rfl)
        exact fx_val hK hρ (.bool true) (by simp [execOp, f19, go_sem]) rfl
      | 21, ho =>
        have hoo := Option.some.inj ho
        subst hoo
        exact fx_val hK hρ _ (by have h := hA.tmp 3 (by decide); simp [execOp, h, go_sem]) rfl
      | 22, ho =>
        have hoo := Option.some.inj ho
        subst hoo
        have f21 : (ρ (.tmp 53)) = .pointer (some ⟨g, 0, none⟩) := hd ⟨21, .data⟩ (by simp) (by rfl)
        exact fx_val hK hρ _ (by simp [execOp, f21, go_sem]) rfl
      | 23, ho =>
        have hoo := Option.some.inj ho
        subst hoo
        have f22 : (ρ (.tmp 54)) = .pointer (some ⟨g, 0, none⟩) := hd ⟨22, .data⟩ (by simp) (by rfl)
        exact fx_val hK hρ _ (by have h0 := hI.l.c0; simp [execOp, f22, h0, go_sem]) rfl
      | 24, ho =>
        have hoo := Option.some.inj ho
        subst hoo
        have f23 : (ρ (.tmp 55)) = .slice A n c := hd ⟨23, .data⟩ (by simp) (by rfl)
        exact fx_val hK hρ (.int .i64 (n : Int)) (by simp [execOp, resolve, invoke, builtin, f23, go_sem, Result.andThen]) rfl
      | 25, ho =>
        have hoo := Option.some.inj ho
        subst hoo
        exact fx_val hK hρ _ (by have h := hA.tmp 6 (by decide); simp [execOp, h, go_sem]) rfl
      | 26, ho =>
        have hoo := Option.some.inj ho
        subst hoo
        have f25 : (ρ (.tmp 57)) = .pointer (some ⟨w8.heap.size, 0, none⟩) := hd ⟨25, .data⟩ (by simp) (by rfl)
        exact fx_val hK hρ _ (by simp [execOp, f25, go_sem]) rfl
      | 27, ho =>
        have hoo := Option.some.inj ho
        subst hoo
        have f26 : (ρ (.tmp 58)) = .pointer (some ⟨w8.heap.size, 0, none⟩) := hd ⟨26, .data⟩ (by simp) (by rfl)
        exact fx_val hK hρ _ (by have h0 := hI.m0; simp [execOp, f26, h0, go_sem]) rfl
      | 28, ho =>
        have hoo := Option.some.inj ho
        subst hoo
        have f27 : (ρ (.tmp 59)) = .slice A' n' c' := hd ⟨27, .data⟩ (by simp) (by rfl)
        exact fx_val hK hρ (.int .i64 (n' : Int)) (by simp [execOp, resolve, invoke, builtin, f27, go_sem, Result.andThen]) rfl
      | 29, ho =>
        have hoo := Option.some.inj ho
        subst hoo
        exact fx_val hK hρ _ (by have h := hA.tmp 1 (by decide); simp [execOp, h, go_sem]) rfl
      | 30, ho =>
        have hoo := Option.some.inj ho
        subst hoo
        have f29 : (ρ (.tmp 61)) = .pointer (some ⟨w0.heap.size, 4, none⟩) := hd ⟨29, .data⟩ (by simp) (by rfl)
        exact fx_val hK hρ _ (by have h0 := hI.l.b.c.2.2.2.2.1; simp [execOp, f29, h0, go_sem]) rfl
      | 31, ho =>
        have hoo := Option.some.inj ho
        subst hoo
        have f30 : (ρ (.tmp 62)) = .slice Fu nf fc := hd ⟨30, .data⟩ (by simp) (by rfl)
        exact fx_val hK hρ (.int .i64 (nf : Int)) (by simp [execOp, resolve, invoke, builtin, f30, go_sem, Result.andThen]) rfl
      | 32, ho =>
        have hoo := Option.some.inj ho
        subst hoo
        have f28 : (ρ (.tmp 60)) = .int .i64 (n' : Int) := hd ⟨28, .data⟩ (by simp) (by rfl)
        have f31 : (ρ (.tmp 63)) = .int .i64 (nf : Int) := hd ⟨31, .data⟩ (by simp) (by rfl)
        exact fx_val hK hρ _ (add_eq rfl f28 f31 (by omega) (by omega)) rfl
      | 33, ho =>
        have hoo := Option.some.inj ho
        subst hoo
        have f24 : (ρ (.tmp 56)) = .int .i64 (n : Int) := hd ⟨24, .data⟩ (by simp) (by rfl)
        have f32 : (ρ (.tmp 64)) = .int .i64 ((n' : Int) + (nf : Int)) := hd ⟨32, .data⟩ (by simp) (by rfl)
        exact fx_val hK hρ (.bool true) (by simp [execOp, f24, f32, HNE.out, go_sem]) rfl
      | 34, ho =>
        have hoo := Option.some.inj ho
        subst hoo
        have f20 : (ρ (.tmp 52)) = .bool true := hd ⟨20, .data⟩ (by simp) (by rfl)
        have f33 : (ρ (.tmp 65)) = .bool true := hd ⟨33, .data⟩ (by simp) (by rfl)
        exact fx_val hK hρ (.bool true) (by simp [execOp, f20, f33, go_sem]) rfl
      | 35, ho =>
        have hoo := Option.some.inj ho
        subst hoo
        have f34 : (ρ (.tmp 66)) = .bool true := hd ⟨34, .data⟩ (by simp) (by rfl)
        exact fx_val hK hρ (.bool true) (by simp [execOp, f34, go_sem]) rfl
      | kq + 36, ho => simp at ho
    case hend =>
      intro vals xw hI hF
      have fz : vals 2 = .bool true := hF 35 (by decide)
      simp only [fillA, fillL, List.contains_cons, List.contains_nil, Nat.reduceBEq, Bool.or_false, Bool.false_or, Bool.or_true, Bool.true_or, cond_true, cond_false, Nat.zero_add, Nat.reduceAdd]
      rw [fz]
      have HJ := Lib.hid hI
      clear hF hI fz
      go_wp2
      go_ret
      exact ⟨rfl, HJ.out.l.b.bel⟩
  · have hb : (x != 0) = true := bne_iff_ne.mpr hX
    clear hX
    go_wp2
    go_ret
    rw [← HW9.out]
    exact ⟨rfl, I9.out.l.b.bel⟩
theorem walk_LowLess (w : World) {s : Sh} {T : Task} (h : InD w s T) (hT : DTab w) :
    Calls Tryd.prog 5 #[s.arg T.period T.deadline] w fun e w' => e = .returned (.bool true) ∧ Below w.heap.size w w' := by
  by_cases f : FewD T
  · exact less_few w s T hT h f
  · exact less_many w s T hT h f
end Go.Proofs.YtecjpclkiiaidaaDoor
