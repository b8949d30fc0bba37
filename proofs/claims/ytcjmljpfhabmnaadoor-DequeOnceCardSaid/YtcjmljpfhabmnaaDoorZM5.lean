/- The contracts of math/bits.OnesCount64 and of num.Two in the seat YtcjmljpfhabmnaaDoor, where Tz64 and NumCheck are there (a layer that calls num.Two alone).
   slices.Equal over integers in the seat YtcjmljpfhabmnaaDoor: its contract.
   deque.isLength, Check, place, Same in the seat YtcjmljpfhabmnaaDoor: their contracts.
   trefoilref12.thief and owner in the seat YtcjmljpfhabmnaaDoor: their contracts.
   deque.isOver and its closure, and run's closure, in the seat YtcjmljpfhabmnaaDoor: their contracts.
   No statement is proved here. -/
import Derived.Test.YtcjmljpfhabmnaaDoorZM4
import Derived.Test.YtcjmljpfhabmnaaDoorZM1
import Derived.Deep.Cut
set_option linter.unusedSimpArgs false
namespace Go.Proofs.YtcjmljpfhabmnaaDoor
open Go.RowKit

set_option maxHeartbeats 400000 in
theorem ones64_core (x a1 a2 c1 c2 d r : Nat) (w : World) (h1 : a1 ≤ 1099511627775) (h2 : a2 ≤ 1099511627775) (h3 : c1 ≤ 2199023255550) (h4 : c2 ≤ 2199023255550) (h5 : d ≤ 34901295112)
    (k1 : bits BinOp.and IntKind.u64 ((x : Int) / 2) 6148914691236517205 = (a1 : Int)) (k2 : bits BinOp.and IntKind.u64 (x : Int) 6148914691236517205 = (a2 : Int))
    (k3 : bits BinOp.and IntKind.u64 (((a1 : Int) + a2) / 4) 3689348814741910323 = (c1 : Int)) (k4 : bits BinOp.and IntKind.u64 ((a1 : Int) + a2) 3689348814741910323 = (c2 : Int))
    (k5 : bits BinOp.and IntKind.u64 (((c1 : Int) + c2) / 16 + (c1 + c2)) 1085102592571150095 = (d : Int))
    (k6 : bits BinOp.and IntKind.i64 ((((d : Int) + d / 256) + ((d : Int) + d / 256) / 65536) + (((d : Int) + d / 256) + ((d : Int) + d / 256) / 65536) / 4294967296) 127 = (r : Int)) :
    Calls Tryd.prog 33 #[.int .u64 x] w fun e w' => e = .returned (.int .i64 r) ∧ w = w' := by
  go_enter Tryd.func33, Tryd.ntmps33
  go_wp2
  go_ret
  exact ⟨rfl, rfl⟩
theorem rep85 : rep 85 8 = 6148914691236517205 := by decide +kernel
theorem rep51 : rep 51 8 = 3689348814741910323 := by decide +kernel
theorem rep15 : rep 15 8 = 1085102592571150095 := by decide +kernel
theorem and_le_l (a b : Nat) : a &&& b ≤ a := Nat.and_le_left
theorem cast_div (a b : Nat) : ((a : Int) / (b : Int)) = ((a / b : Nat) : Int) := (Int.natCast_ediv a b).symm
theorem ones64_any (x : Nat) (w : World) (hx : x ≤ 1099511627775) :
    Calls Tryd.prog 33 #[.int .u64 x] w fun e w' => e = .returned (.int .i64 (cntN x)) ∧ w = w' := by
  have l1 := and_le_l (x / 2) (rep 85 8)
  have l2 := and_le_l x (rep 85 8)
  have hs1 : S1 8 x ≤ 2199023255550 := by unfold S1; omega
  have l3 := and_le_l (S1 8 x / 4) (rep 51 8)
  have l4 := and_le_l (S1 8 x) (rep 51 8)
  have hs2 : S2 8 (S1 8 x) ≤ 4398046511100 := by unfold S2; omega
  have ht := T_le x (by omega)
  have e1 : ((S1 8 x : Nat) : Int) = ((x / 2 &&& rep 85 8 : Nat) : Int) + ((x &&& rep 85 8 : Nat) : Int) := by unfold S1; omega
  have e2 : ((S2 8 (S1 8 x) : Nat) : Int) = ((S1 8 x / 4 &&& rep 51 8 : Nat) : Int) + ((S1 8 x &&& rep 51 8 : Nat) : Int) := by unfold S2; omega
  refine ones64_core x (x / 2 &&& rep 85 8) (x &&& rep 85 8) (S1 8 x / 4 &&& rep 51 8) (S1 8 x &&& rep 51 8) (T 8 x) (cntN x) w (by omega) (by omega) (by omega) (by omega) ht ?_ ?_ ?_ ?_ ?_ ?_
  · rw [show (x : Int) / 2 = ((x / 2 : Nat) : Int) by omega]
    rw [rep85]
    exact bits_and_u64_nat (x / 2) 6148914691236517205 (by omega) (by omega)
  · rw [rep85]
    exact bits_and_u64_nat x 6148914691236517205 (by omega) (by omega)
  · rw [← e1, show ((S1 8 x : Nat) : Int) / 4 = ((S1 8 x / 4 : Nat) : Int) by omega, rep51]
    exact bits_and_u64_nat (S1 8 x / 4) 3689348814741910323 (by omega) (by omega)
  · rw [← e1, rep51]
    exact bits_and_u64_nat (S1 8 x) 3689348814741910323 (by omega) (by omega)
  · rw [← e2, show ((S2 8 (S1 8 x) : Nat) : Int) / 16 + ((S2 8 (S1 8 x) : Nat) : Int) = ((S2 8 (S1 8 x) / 16 + S2 8 (S1 8 x) : Nat) : Int) by omega]
    rw [show T 8 x = (S2 8 (S1 8 x) / 16 + S2 8 (S1 8 x)) &&& 1085102592571150095 by rw [← rep15]; rfl]
    exact bits_and_u64_nat (S2 8 (S1 8 x) / 16 + S2 8 (S1 8 x)) 1085102592571150095 (by omega) (by omega)
  · obtain ⟨d, hd⟩ : ∃ d, d = T 8 x := ⟨_, rfl⟩
    have hc : cntN x = tailN d &&& 127 := by rw [hd, and_127]; rfl
    rw [hc, ← hd]
    rw [← hd] at ht
    have hb : tailN d ≤ 9223372036854775807 := by unfold tailN; omega
    have he : (((d : Int) + d / 256) + ((d : Int) + d / 256) / 65536) + (((d : Int) + d / 256) + ((d : Int) + d / 256) / 65536) / 4294967296 = ((tailN d : Nat) : Int) := by unfold tailN; omega
    rw [he]
    exact bits_and_i64_nat (tailN d) 127 (by omega) (by omega)
theorem ones_any (x : Nat) (w : World) (hx : x ≤ 1099511627775) :
    Calls Tryd.prog 29 #[.int .u64 x] w fun e w' => e = .returned (.int .i64 (cntN x)) ∧ w = w' := by
  have C := Lib.hid (ones64_any x w hx)
  go_enter Tryd.func29, Tryd.ntmps29
  go_wp2_with (go_at_call 33; refine C.out.mono ?_; rintro e w' ⟨rfl, rfl⟩)
  go_ret
  exact ⟨rfl, rfl⟩

theorem tz_any (x : Nat) (w : World) (hx : x < 18446744073709551616) (hx0 : x ≠ 0) (hT : Tab64 w) :
    Calls Tryd.prog 30 #[.int .u64 x] w fun e w' => e = .returned (.int .i64 (Lib.ctz 64 x)) ∧ w = w' := by
  have C := Lib.hid (tz64_any x w hx hx0 hT)
  clear hx hx0 hT
  obtain ⟨c, hc⟩ : ∃ c, c = Lib.ctz 64 x := ⟨_, rfl⟩
  rw [← hc] at C ⊢
  clear hc
  go_enter Tryd.func30, Tryd.ntmps30
  go_wp2_with (go_at_call 35; refine C.out.mono ?_; rintro e w' ⟨rfl, rfl⟩)
  go_ret
  exact ⟨rfl, rfl⟩

/-- num.Two at a power of two. -/
theorem two_core (x k : Nat) (w : World) (hx : x ≤ 1099511627775) (C1 : Hid (Calls Tryd.prog 29 #[.int .u64 x] w fun e w' => e = .returned (.int .i64 1) ∧ w = w'))
    (C2 : Hid (Calls Tryd.prog 30 #[.int .u64 x] w fun e w' => e = .returned (.int .i64 k) ∧ w = w')) :
    Calls Tryd.prog 24 #[.int .i64 x] w fun e w' => e = .returned (.tuple #[.int .i64 k, .bool true]) ∧ w = w' := by
  have C0 := Lib.hid (check_any (x : Int) w)
  rw [chk_ok (by omega) (by omega)] at C0
  go_enter Tryd.func24, Tryd.ntmps24
  go_wp2_with (first
    | (go_at_call 20; refine C0.out.mono ?_; rintro e w' ⟨rfl, rfl⟩)
    | (go_at_call 29; refine C1.out.mono ?_; rintro e w' ⟨rfl, rfl⟩)
    | (go_at_call 30; refine C2.out.mono ?_; rintro e w' ⟨rfl, rfl⟩))
  go_ret2
  exact ⟨rfl, rfl⟩
theorem two_yes (k : Nat) (hk : k < 40) (w : World) (hT : Tab64 w) :
    Calls Tryd.prog 24 #[.int .i64 ((2 ^ k : Nat) : Int)] w fun e w' => e = .returned (.tuple #[.int .i64 k, .bool true]) ∧ w = w' := by
  obtain ⟨h1, h2, h3, h4⟩ := two_cnt k hk
  obtain ⟨x, hx⟩ : ∃ x, x = 2 ^ k := ⟨_, rfl⟩
  rw [← hx] at h1 h2 h3 h4 ⊢
  have C1 := ones_any x w (by omega)
  rw [h1] at C1
  have C2 := tz_any x w (by omega) (by omega) hT
  rw [h4] at C2
  exact two_core x k w (by omega) (Lib.hid C1) (Lib.hid C2)
theorem two_not (x c : Nat) (w : World) (hx : x ≤ 1099511627775) (hc : ((c : Int) != 1) = true) (C1 : Hid (Calls Tryd.prog 29 #[.int .u64 x] w fun e w' => e = .returned (.int .i64 c) ∧ w = w')) :
    Calls Tryd.prog 24 #[.int .i64 x] w fun e w' => e = .returned (.tuple #[.int .i64 0, .bool false]) ∧ w = w' := by
  have C0 := Lib.hid (check_any (x : Int) w)
  rw [chk_ok (by omega) (by omega)] at C0
  go_enter Tryd.func24, Tryd.ntmps24
  go_wp2_with (first
    | (go_at_call 20; refine C0.out.mono ?_; rintro e w' ⟨rfl, rfl⟩)
    | (go_at_call 29; refine C1.out.mono ?_; rintro e w' ⟨rfl, rfl⟩))
  go_ret2
  exact ⟨rfl, rfl⟩
theorem two_wrong (n : Int) (w : World) (h : chk n ≠ 0) :
    Calls Tryd.prog 24 #[.int .i64 n] w fun e w' => e = .returned (.tuple #[.int .i64 0, .bool false]) ∧ w = w' := by
  have C0 := Lib.hid (check_any n w)
  obtain ⟨c, hc⟩ : ∃ c, c = chk n := ⟨_, rfl⟩
  rw [← hc] at C0 h
  have hb : (c != 0) = true := by simpa using h
  clear hc h
  go_enter Tryd.func24, Tryd.ntmps24
  go_wp2_with (go_at_call 20; refine C0.out.mono ?_; rintro e w' ⟨rfl, rfl⟩)
  go_ret2
  exact ⟨rfl, rfl⟩
theorem two_no (n : Int) (w : World) (h : ∀ k : Nat, k < 40 → n ≠ ((2 ^ k : Nat) : Int)) :
    Calls Tryd.prog 24 #[.int .i64 n] w fun e w' => e = .returned (.tuple #[.int .i64 0, .bool false]) ∧ w = w' := by
  by_cases hc : chk n = 0
  · obtain ⟨n0, n1⟩ := chk_zero hc
    obtain ⟨x, rfl⟩ : ∃ x : Nat, n = (x : Int) := ⟨n.toNat, by omega⟩
    refine two_not x (cntN x) w (by omega) ?_ (Lib.hid (ones_any x w (by omega)))
    have : cntN x ≠ 1 := fun h1 => by
      obtain ⟨k, hk, e⟩ := cnt_two x (by omega) h1
      exact h k hk (by rw [e])
    simp; omega
  · exact two_wrong n w hc
end Go.Proofs.YtcjmljpfhabmnaaDoor
set_option linter.unusedVariables false
namespace Go.Proofs.YtcjmljpfhabmnaaDoor
open Go.RowKit

set_option maxHeartbeats 800000 in
theorem eq_ints (B : Nat) (A1 A2 : Option Addr) (c1 c2 : Nat) (xs ys : List Int) (w : World) (hx : xs.length ≤ 1000) (hy : ys.length ≤ 1000) (h1 : Ints w B A1 xs) (h2 : Ints w B A2 ys) :
    Calls Tryd.prog 23 #[.slice A1 xs.length c1, .slice A2 ys.length c2] w fun e w' => e = .returned (.bool (decide (xs = ys))) ∧ ∃ N, w' = w.drewN N := by
  obtain ⟨n, hn⟩ : ∃ n, n = xs.length := ⟨_, rfl⟩
  obtain ⟨m, hm⟩ : ∃ m, m = ys.length := ⟨_, rfl⟩
  rw [← hn, ← hm]
  rw [← hn] at hx
  rw [← hm] at hy
  have HN := Lib.hid hn
  have HM := Lib.hid hm
  have H1 := Lib.hid h1
  have H2 := Lib.hid h2
  clear hn hm h1 h2
  by_cases hnm : n = m
  · subst hnm
    go_enter Tryd.func23, Tryd.ntmps23
    go_wp2
    go_loopw [13] (fun i wr => ∃ j N : Nat, j ≤ n ∧ i = .int .i64 j ∧ Hid (xs.take j = ys.take j) ∧ wr = w.drewN N) (fun i _ => n - (intOf i).toNat)
    case atStart => exact ⟨0, 0, Nat.zero_le _, rfl, Lib.hid rfl, rfl⟩
    case round =>
      obtain ⟨j, N, hj, rfl, HT, rfl⟩ := hrel
      by_cases hlt : j < n
      · obtain ⟨b1, o1, x, rfl, _, hx1, hc1⟩ := H1.out.at_ (k := j) (by rw [← HN.out]; exact hlt)
        obtain ⟨b2, o2, y, rfl, _, hy1, hc2⟩ := H2.out.at_ (k := j) (by rw [← HM.out]; exact hlt)
        have HX := Lib.hid hx1
        have HY := Lib.hid hy1
        clear hx1 hy1
        by_cases hxy : x = y
        · subst hxy
          go_wp2
          go_quiet (fail)
          go_wp2
          go_roundw
          case rel => exact ⟨j + 1, _, by omega, by go_num, Lib.hid (take_next HT.out HX.out HY.out), rfl⟩
          case measure => simp [intOf]; omega
        · have hb : (x != y) = true := by simpa using hxy
          have HXY := Lib.hid hxy
          clear hxy
          go_wp2
          go_quiet (fail)
          go_wp2
          go_ret
          exact ⟨by rw [decide_eq_false (take_part HX.out HY.out HXY.out)]; rfl, _, drews w N _⟩
      · obtain rfl : j = n := by omega
        go_wp2
        go_ret
        exact ⟨by rw [decide_eq_true (take_ext (by rw [← HN.out, ← HM.out]) (by rw [← HN.out]; exact HT.out))]; rfl, _, rfl⟩
  · have hb : ((n : Int) != (m : Int)) = true := by simp; omega
    go_enter Tryd.func23, Tryd.ntmps23
    go_wp2
    go_ret
    exact ⟨by rw [decide_eq_false (fun e : xs = ys => hnm (by rw [HN.out, HM.out, e]))]; rfl, 0, rfl⟩
end Go.Proofs.YtcjmljpfhabmnaaDoor
set_option linter.unusedVariables false
namespace Go.Proofs.YtcjmljpfhabmnaaDoor
open Go Go.RowKit

theorem dtwo_d (n : Int) : ∃ (k : Int) (b : Bool), (b = true ∧ n ≤ 64 ↔ SizeOk n) ∧ ∀ w : World, Tab64 w → Calls Tryd.prog 24 #[.int .i64 n] w fun e w' => e = .returned (.tuple #[.int .i64 k, .bool b]) ∧ w = w' := by
  by_cases h : ∃ k : Nat, k < 40 ∧ n = ((2 ^ k : Nat) : Int)
  · obtain ⟨k, hk, rfl⟩ := h
    refine ⟨k, true, ⟨fun ⟨_, q⟩ => ?_, fun q => ⟨rfl, q.bounds.2⟩⟩, fun w hT => two_yes k hk w hT⟩
    have h7 : k < 7 := by
      rcases Nat.lt_or_ge k 7 with h | h
      · exact h
      · have := Nat.pow_le_pow_right (show 0 < 2 by decide) h
        omega
    exact SizeOk.of_pow h7
  · refine ⟨0, false, ⟨fun q => absurd q.1 (by decide), fun q => ?_⟩, fun w _ => two_no n w fun k hk e => h ⟨k, hk, e⟩⟩
    obtain ⟨k, hk, e⟩ := q.pow
    exact absurd ⟨k, by omega, e⟩ h
set_option maxHeartbeats 1000000 in
theorem dlen_any (n : Int) (w : World) (hT : DTab w) : Calls Tryd.prog 19 #[.int .i64 n] w fun e w' => e = .returned (.bool (decide (SizeOk n))) ∧ w = w' := by
  obtain ⟨k, b, hb, C⟩ := dtwo_d n
  have HC := Lib.hid (fun w' (e : w = w') => C w' (e ▸ hT))
  clear C hT
  obtain ⟨r, hr⟩ : ∃ r, r = decide (SizeOk n) := ⟨_, rfl⟩
  rw [← hr]
  cases b with
  | false =>
    have e : r = false := by rw [hr]; exact decide_eq_false fun q => absurd (hb.mpr q).1 (by decide)
    subst e
    clear hb hr
    go_enter Tryd.func19, Tryd.ntmps19
    go_wp2_with (go_at_call 24; refine (HC.out _ rfl).mono ?_; rintro e w' ⟨rfl, rfl⟩)
    go_ret
    exact ⟨rfl, rfl⟩
  | true =>
    by_cases h : n ≤ 64
    · have e : r = true := by rw [hr]; exact decide_eq_true (hb.mp ⟨rfl, h⟩)
      subst e
      have h2 : decide (n ≤ 64) = true := decide_eq_true h
      clear hb hr
      go_enter Tryd.func19, Tryd.ntmps19
      go_wp2_with (go_at_call 24; refine (HC.out _ rfl).mono ?_; rintro e w' ⟨rfl, rfl⟩)
      go_ret
      exact ⟨rfl, rfl⟩
    · have e : r = false := by rw [hr]; exact decide_eq_false fun q => h (hb.mpr q).2
      subst e
      have h2 : decide (n ≤ 64) = false := decide_eq_false h
      clear hb hr
      go_enter Tryd.func19, Tryd.ntmps19
      go_wp2_with (go_at_call 24; refine (HC.out _ rfl).mono ?_; rintro e w' ⟨rfl, rfl⟩)
      go_ret
      exact ⟨rfl, rfl⟩
set_option maxHeartbeats 4000000 in
theorem dcheck_any (A : Option Addr) (n c : Nat) (T B : Int) (w : World) (hn : n ≤ 1000) (hT : DTab w) :
    Calls Tryd.prog 10 #[.agg #[.slice A n c, .int .i64 T, .int .i64 B]] w fun e w' => e = .returned (.int .i64 (chkQE n T B)) ∧ Below w.heap.size w w' := by
  have CL := Lib.hid (dlen_any (n : Int) (w.alloc (.cells #[.slice A n c, .int .i64 T, .int .i64 B] 27)) (hT.via (below_alloc _)))
  have CC := Lib.hid (fun W => check_any T W)
  have HB := Lib.hid (below_alloc (w := w) (.cells #[.slice A n c, .int .i64 T, .int .i64 B] 27))
  obtain ⟨r, hr⟩ : ∃ r, r = chkQE n T B := ⟨_, rfl⟩
  rw [← hr]
  have HY : Hid (ChkQ n T B → r = 0) := Lib.hid fun q => by rw [hr]; unfold chkQE; rw [if_pos q]
  have HNO : Hid (¬ ChkQ n T B → r = 120) := Lib.hid fun q => by rw [hr]; unfold chkQE; rw [if_neg q]
  clear hr hT
  by_cases h1 : ¬ SizeOk n
  · obtain rfl : r = 120 := HNO.out fun q => h1 q.1
    rw [decide_eq_false h1] at CL
    clear h1 HY HNO
    go_enter Tryd.func10, Tryd.ntmps10
    go_wp2_with (first
      | (go_at_call 19; refine CL.out.mono ?_; rintro e w' ⟨rfl, rfl⟩)
      | (go_at_call 20; refine (CC.out _).mono ?_; rintro e w' ⟨rfl, rfl⟩))
    go_ret
    exact ⟨rfl, HB.out⟩
  replace h1 := Classical.not_not.mp h1
  rw [decide_eq_true h1] at CL
  by_cases h2 : ¬ (0 ≤ T ∧ T ≤ 1099511627775)
  · obtain rfl : r = 120 := HNO.out fun q => h2 ⟨q.2.1, q.2.2.1⟩
    obtain ⟨z, hz⟩ : ∃ z, z = chk T := ⟨_, rfl⟩
    have hz0 : z ≠ 0 := fun e => h2 (chk_zero (hz ▸ e))
    rw [← hz] at CC
    have hzb : (z != 0) = true := bne_iff_ne.mpr hz0
    clear h1 h2 HY HNO hz hz0
    go_enter Tryd.func10, Tryd.ntmps10
    go_wp2_with (first
      | (go_at_call 19; refine CL.out.mono ?_; rintro e w' ⟨rfl, rfl⟩)
      | (go_at_call 20; refine (CC.out _).mono ?_; rintro e w' ⟨rfl, rfl⟩))
    go_ret
    exact ⟨rfl, HB.out⟩
  replace h2 := Classical.not_not.mp h2
  obtain ⟨h2, h3⟩ := h2
  rw [chk_ok h2 h3] at CC
  by_cases h4 : B < T - 1
  · obtain rfl : r = 120 := HNO.out fun q => by have := q.2.2.2.1; omega
    have e4 : decide (B < T - 1) = true := decide_eq_true h4
    clear h1 h4 HY HNO
    go_enter Tryd.func10, Tryd.ntmps10
    go_wp2_with (first
      | (go_at_call 19; refine CL.out.mono ?_; rintro e w' ⟨rfl, rfl⟩)
      | (go_at_call 20; refine (CC.out _).mono ?_; rintro e w' ⟨rfl, rfl⟩))
    go_ret
    exact ⟨rfl, HB.out⟩
  have e4 : decide (B < T - 1) = false := decide_eq_false h4
  by_cases h5 : T + n < B
  · obtain rfl : r = 120 := HNO.out fun q => by have := q.2.2.2.2; omega
    have e5 : decide (T + n < B) = true := decide_eq_true h5
    clear h1 h4 h5 HY HNO
    go_enter Tryd.func10, Tryd.ntmps10
    go_wp2_with (first
      | (go_at_call 19; refine CL.out.mono ?_; rintro e w' ⟨rfl, rfl⟩)
      | (go_at_call 20; refine (CC.out _).mono ?_; rintro e w' ⟨rfl, rfl⟩))
    go_ret
    exact ⟨rfl, HB.out⟩
  · obtain rfl : r = 0 := HY.out ⟨h1, h2, h3, by omega, by omega⟩
    have e5 : decide (T + n < B) = false := decide_eq_false h5
    clear h1 h4 h5 HY HNO
    go_enter Tryd.func10, Tryd.ntmps10
    go_wp2_with (first
      | (go_at_call 19; refine CL.out.mono ?_; rintro e w' ⟨rfl, rfl⟩)
      | (go_at_call 20; refine (CC.out _).mono ?_; rintro e w' ⟨rfl, rfl⟩))
    go_ret
    exact ⟨rfl, HB.out⟩
set_option maxHeartbeats 2000000 in
theorem dplace_any (A : Option Addr) (n c : Nat) (T B k : Int) (w : World) (hn : 0 < n) (hln : n ≤ 1000) (hk1 : k ≤ 9223372036854775807) :
    Calls Tryd.prog 18 #[.agg #[.slice A n c, .int .i64 T, .int .i64 B], .int .i64 k] w fun e w' => e = .returned (.int .i64 (plN n k)) ∧ Below w.heap.size w w' := by
  have HB := Lib.hid (below_alloc (w := w) (.cells #[.slice A n c, .int .i64 T, .int .i64 B] 27))
  obtain ⟨p, hp⟩ : ∃ p, p = plN n k := ⟨_, rfl⟩
  have hpn : p < n := by rw [hp]; exact Nat.mod_lt _ hn
  rw [← hp]
  by_cases h0 : k < 0
  · obtain rfl : p = 0 := by rw [hp]; unfold plN; rw [if_pos h0]; simp
    have hmx : max k 0 = 0 := by omega
    have hmx2 : decide (k < 0) = true := decide_eq_true h0
    clear hp
    go_enter Tryd.func18, Tryd.ntmps18
    go_wp2
    go_ret
    exact ⟨rfl, HB.out⟩
  · obtain ⟨q, rfl⟩ : ∃ q : Nat, k = q := ⟨k.toNat, by omega⟩
    have hp2 : p = q % n := by rw [hp]; unfold plN; rw [if_neg h0]; simp
    have hmod : Int.tmod (q : Int) (n : Int) = (p : Int) := by rw [hp2]; rfl
    clear hp hp2
    go_enter Tryd.func18, Tryd.ntmps18
    go_wp2
    go_ret
    exact ⟨rfl, HB.out⟩
section
variable {A : Option Addr} {n c : Nat} {R : List Int} {A' : Option Addr} {n' c' : Nat} {R' : List Int}
set_option maxRecDepth 100000 in
set_option maxHeartbeats 4000000 in
theorem dsame_d (T B T' B' : Int) (w : World) (h : IsQ w A n c R) (h' : IsQ w A' n' c' R') :
    Calls Tryd.prog 16 #[.agg #[.slice A n c, .int .i64 T, .int .i64 B], .agg #[.slice A' n' c', .int .i64 T', .int .i64 B']] w fun e w' => e = .returned (.bool (decide (SameQ R T B R' T' B'))) ∧ Below w.heap.size w w' := by
  obtain ⟨w0, hw0⟩ : ∃ w0, w0 = (w.alloc (.cells #[.slice A n c, .int .i64 T, .int .i64 B] 27)).alloc (.cells #[.slice A' n' c', .int .i64 T', .int .i64 B'] 27) := ⟨_, rfl⟩
  have hb0 : Below w.heap.size w w0 := by rw [hw0]; exact below2 _ _ 0
  have C1 := eq_ints w0.heap.size A A' c c' R R' w0 (by rw [h.hn]; exact h.ln) (by rw [h'.hn]; exact h'.ln) ((h.below hb0).ints) ((h'.below hb0).ints)
  rw [h.hn, h'.hn] at C1
  rw [hw0] at C1
  have HB := Lib.hid (fun N => below2 (w := w) (.cells #[.slice A n c, .int .i64 T, .int .i64 B] 27) (.cells #[.slice A' n' c', .int .i64 T', .int .i64 B'] 27) N)
  have HC1 := Lib.hid C1
  obtain ⟨r, hr⟩ : ∃ r, r = decide (SameQ R T B R' T' B') := ⟨_, rfl⟩
  rw [← hr]
  clear h h' hw0 C1 hb0
  by_cases h1 : ¬ R = R'
  · rw [decide_eq_false h1] at HC1
    obtain rfl : r = false := by rw [hr]; exact decide_eq_false fun q => h1 q.1
    clear h1 hr
    go_enter Tryd.func16, Tryd.ntmps16
    go_wp2_with fail
    refine HC1.out.mono ?_
    rintro e w' ⟨rfl, N, rfl⟩
    go_wp2
    go_ret
    exact ⟨rfl, HB.out N⟩
  replace h1 := Classical.not_not.mp h1
  rw [decide_eq_true h1] at HC1
  by_cases h2 : ¬ T = T'
  · obtain rfl : r = false := by rw [hr]; exact decide_eq_false fun q => h2 q.2.1
    have e2 : (T == T') = false := beq_eq_false_iff_ne.mpr h2
    clear h1 hr h2
    go_enter Tryd.func16, Tryd.ntmps16
    go_wp2_with fail
    refine HC1.out.mono ?_
    rintro e w' ⟨rfl, N, rfl⟩
    go_wp2
    go_ret
    exact ⟨rfl, HB.out N⟩
  replace h2 := Classical.not_not.mp h2
  have e2 : (T == T') = true := by rw [beq_iff_eq]; exact h2
  by_cases h3 : ¬ B = B'
  · obtain rfl : r = false := by rw [hr]; exact decide_eq_false fun q => h3 q.2.2
    have e3 : (B == B') = false := beq_eq_false_iff_ne.mpr h3
    clear h1 hr h2 h3
    go_enter Tryd.func16, Tryd.ntmps16
    go_wp2_with fail
    refine HC1.out.mono ?_
    rintro e w' ⟨rfl, N, rfl⟩
    go_wp2
    go_ret
    exact ⟨rfl, HB.out N⟩
  · replace h3 := Classical.not_not.mp h3
    obtain rfl : r = true := by rw [hr]; exact decide_eq_true ⟨h1, h2, h3⟩
    have e3 : (B == B') = true := by rw [beq_iff_eq]; exact h3
    clear h1 hr h2 h3
    go_enter Tryd.func16, Tryd.ntmps16
    go_wp2_with fail
    refine HC1.out.mono ?_
    rintro e w' ⟨rfl, N, rfl⟩
    go_wp2
    go_ret
    exact ⟨rfl, HB.out N⟩
end
end Go.Proofs.YtcjmljpfhabmnaaDoor
set_option linter.unusedVariables false
namespace Go.Proofs.YtcjmljpfhabmnaaDoor
open Go Go.RowKit

theorem below4 {w : World} (o1 o2 o3 o4 : Obj) (N : Nat) : Below w.heap.size w (((((w.alloc o1).alloc o2).alloc o3).alloc o4).drewN N) :=
  below_drewN ((((below_alloc o1).trans ((below_alloc (w := w.alloc o1) o2).mono (by simp))).trans ((below_alloc (w := (w.alloc o1).alloc o2) o3).mono (by simp; omega))).trans ((below_alloc (w := ((w.alloc o1).alloc o2).alloc o3) o4).mono (by simp; omega))) N
section
variable {A : Option Addr} {n c : Nat} {R : List Int}
/-- What a move hands out. -/
def GotMove (A : Option Addr) (n c : Nat) (m : Int × Int × Tkr) (w : World) (e : Ending) (w' : World) : Prop :=
  e = .returned (.tuple #[.agg #[.slice A n c, .int .i64 m.1, .int .i64 m.2.1], vT m.2.2]) ∧ Below w.heap.size w w'
/-- The rows of a function over a deque and a taker. -/
def rowsM (A : Option Addr) (n c : Nat) (T B : Int) (t : Tkr) : List (TypeId × List Value) :=
  [(27, [.slice A n c, .int .i64 T, .int .i64 B]), (42, cT t), (27, [.slice none 0 0, .int .i64 0, .int .i64 0]), (42, cT (newTk false))]
end
end Go.Proofs.YtcjmljpfhabmnaaDoor
set_option linter.unusedVariables false
namespace Go.Proofs.YtcjmljpfhabmnaaDoor
open Go Go.RowKit

theorem dwrong_any (n : Int) (w : World) : Calls Tryd.prog 31 #[.int .i64 n] w fun e w' => e = .returned (.bool (decide (n < -1 ∨ 1099511627775 < n))) ∧ w = w' := by
  by_cases h1 : n < -1
  · have e1 : decide (n < -1) = true := decide_eq_true h1
    rw [decide_eq_true (show n < -1 ∨ 1099511627775 < n from .inl h1)]
    clear h1
    go_enter Tryd.func31, Tryd.ntmps31
    go_wp2
    go_ret
    exact ⟨rfl, rfl⟩
  have e1 : decide (n < -1) = false := decide_eq_false h1
  by_cases h2 : 1099511627775 < n
  · have e2 : decide (1099511627775 < n) = true := decide_eq_true h2
    rw [decide_eq_true (show n < -1 ∨ 1099511627775 < n from .inr h2)]
    clear h1 h2
    go_enter Tryd.func31, Tryd.ntmps31
    go_wp2
    go_ret
    exact ⟨rfl, rfl⟩
  · have e2 : decide (1099511627775 < n) = false := decide_eq_false h2
    rw [decide_eq_false (show ¬ (n < -1 ∨ 1099511627775 < n) from fun q => q.elim h1 h2)]
    clear h1 h2
    go_enter Tryd.func31, Tryd.ntmps31
    go_wp2
    go_ret
    exact ⟨rfl, rfl⟩
set_option maxRecDepth 100000 in
set_option maxHeartbeats 8000000 in
theorem dover_any (t : Tkr) (w : World) : Calls Tryd.prog 26 #[vT t] w fun e w' => e = .returned (.bool (decide (OverT t))) ∧ Below w.heap.size w w' := by
  obtain ⟨st, a, tp, bt, gt, en⟩ := t
  have HB := Lib.hid (below_alloc (w := w) (.cells #[.bool st, .int .i64 a, .int .i64 tp, .int .i64 bt, .int .i64 gt, .int .i64 en] 42))
  have CW := Lib.hid (fun n W => dwrong_any n W)
  obtain ⟨r, hr⟩ : ∃ r, r = decide (OverT ⟨st, a, tp, bt, gt, en⟩) := ⟨_, rfl⟩
  rw [← hr]
  have HY : Hid (OverT ⟨st, a, tp, bt, gt, en⟩ → r = true) := Lib.hid fun q => by rw [hr]; exact decide_eq_true q
  have HN : Hid (¬ OverT ⟨st, a, tp, bt, gt, en⟩ → r = false) := Lib.hid fun q => by rw [hr]; exact decide_eq_false q
  unfold vT
  clear hr
  obtain ⟨L, hL⟩ : ∃ L : Int, L = if st = true then 3 else 4 := ⟨_, rfl⟩
  have HO : Hid (OverT ⟨st, a, tp, bt, gt, en⟩ ↔ en ≠ 0 ∨ a < 0 ∨ L < a ∨ (a ≠ 0 ∧ WildT ⟨st, a, tp, bt, gt, en⟩)) := Lib.hid (by rw [hL]; exact Iff.rfl)
  have HLL := Lib.hid hL
  clear hL
  by_cases q1 : ¬ en = 0
  · obtain rfl : r = true := HY.out (HO.out.mpr (.inl q1))
    have r1 : (en != 0) = true := bne_iff_ne.mpr q1
    clear q1 HY HN HO
    cases st
    all_goals
      go_enter Tryd.func26, Tryd.ntmps26
      go_wp2
      go_ret
      exact ⟨rfl, HB.out⟩
  have r1 : (en != 0) = false := by simp [Classical.not_not.mp q1]
  have HQ1 := Lib.hid q1
  clear q1
  by_cases q2 : a < 0
  · obtain rfl : r = true := HY.out (HO.out.mpr (.inr (.inl q2)))
    have r2 : decide (a < 0) = true := decide_eq_true q2
    clear q2 HY HN HO
    cases st
    all_goals
      go_enter Tryd.func26, Tryd.ntmps26
      go_wp2
      go_ret
      exact ⟨rfl, HB.out⟩
  have r2 : decide (a < 0) = false := decide_eq_false q2
  by_cases q3 : L < a
  · obtain rfl : r = true := HY.out (HO.out.mpr (.inr (.inr (.inl q3))))
    clear HY HN HO
    cases st
    · obtain rfl : L = 4 := HLL.out
      have r3 : decide (4 < a) = true := decide_eq_true q3
      clear q2 q3
      go_enter Tryd.func26, Tryd.ntmps26
      go_wp2
      go_ret
      exact ⟨rfl, HB.out⟩
    · obtain rfl : L = 3 := HLL.out
      have r3 : decide (3 < a) = true := decide_eq_true q3
      clear q2 q3
      go_enter Tryd.func26, Tryd.ntmps26
      go_wp2
      go_ret
      exact ⟨rfl, HB.out⟩
  have key : ∀ (z : Bool) (g : (a != 0) = z) (u v : Bool), (decide (tp < -1 ∨ 1099511627775 < tp)) = u → (decide (bt < -1 ∨ 1099511627775 < bt)) = v → r = (z && (u || v)) := fun z g u v hu hv => by
    cases z
    · have ha : a = 0 := by simpa using g
      exact HN.out fun q => by
        rcases HO.out.mp q with q | q | q | q
        · exact HQ1.out q
        · exact q2 q
        · exact q3 q
        · exact q.1 ha
    · have ha : a ≠ 0 := bne_iff_ne.mp g
      by_cases hw : WildT ⟨st, a, tp, bt, gt, en⟩
      · rw [HY.out (HO.out.mpr (.inr (.inr (.inr ⟨ha, hw⟩)))), ← hu, ← hv]
        rcases hw with q | q | q | q
        · rw [decide_eq_true (show tp < -1 ∨ 1099511627775 < tp from .inl q)]; rfl
        · rw [decide_eq_true (show tp < -1 ∨ 1099511627775 < tp from .inr q)]; rfl
        · rw [decide_eq_true (show bt < -1 ∨ 1099511627775 < bt from .inl q)]; simp
        · rw [decide_eq_true (show bt < -1 ∨ 1099511627775 < bt from .inr q)]; simp
      · rw [HN.out fun q => by
          rcases HO.out.mp q with q | q | q | q
          · exact HQ1.out q
          · exact q2 q
          · exact q3 q
          · exact hw q.2, ← hu, ← hv]
        rw [decide_eq_false (fun q : tp < -1 ∨ 1099511627775 < tp => hw (q.elim .inl fun q => .inr (.inl q))), decide_eq_false (fun q : bt < -1 ∨ 1099511627775 < bt => hw (q.elim (fun q => .inr (.inr (.inl q))) fun q => .inr (.inr (.inr q))))]
        rfl
  have r34 : Hid (decide (L < a) = false) := Lib.hid (decide_eq_false q3)
  obtain ⟨z, hz⟩ : ∃ z, (a != 0) = z := ⟨_, rfl⟩
  obtain ⟨u, hu⟩ : ∃ u, decide (tp < -1 ∨ 1099511627775 < tp) = u := ⟨_, rfl⟩
  obtain ⟨v, hv⟩ : ∃ v, decide (bt < -1 ∨ 1099511627775 < bt) = v := ⟨_, rfl⟩
  have hrr := key z hz u v hu hv
  have CU : Hid (∀ W : World, Calls Tryd.prog 31 #[.int .i64 tp] W fun e w' => e = .returned (.bool u) ∧ W = w') := Lib.hid (fun W => by rw [← hu]; exact CW.out tp W)
  have CV : Hid (∀ W : World, Calls Tryd.prog 31 #[.int .i64 bt] W fun e w' => e = .returned (.bool v) ∧ W = w') := Lib.hid (fun W => by rw [← hv]; exact CW.out bt W)
  clear key hu hv q2 q3 HY HN HO CW
  cases st
  · obtain rfl : L = 4 := HLL.out
    have r3 : decide (4 < a) = false := r34.out
    clear r34 HLL
    cases z <;> cases u <;> cases v <;> (
      subst hrr
      go_enter Tryd.func26, Tryd.ntmps26
      go_wp2_with (first
        | (refine (CU.out _).mono ?_; rintro e w' ⟨rfl, rfl⟩)
        | (refine (CV.out _).mono ?_; rintro e w' ⟨rfl, rfl⟩))
      go_ret
      exact ⟨rfl, HB.out⟩)
  · obtain rfl : L = 3 := HLL.out
    have r3 : decide (3 < a) = false := r34.out
    clear r34 HLL
    cases z <;> cases u <;> cases v <;> (
      subst hrr
      go_enter Tryd.func26, Tryd.ntmps26
      go_wp2_with (first
        | (refine (CU.out _).mono ?_; rintro e w' ⟨rfl, rfl⟩)
        | (refine (CV.out _).mono ?_; rintro e w' ⟨rfl, rfl⟩))
      go_ret
      exact ⟨rfl, HB.out⟩)
end Go.Proofs.YtcjmljpfhabmnaaDoor
