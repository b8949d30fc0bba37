/- The contracts of math/bits.OnesCount64 and of num.Two in the seat YtohgdeddepfanaaDoor, where Tz64 and NumCheck are there (a layer that calls num.Two alone). No statement is proved here. -/
import Derived.Test.YtohgdeddepfanaaDoorNumCheck
import Derived.Test.YtohgdeddepfanaaDoorTz64
import Derived.Test.YtohgdeddepfanaaDoorNumBits
namespace Go.Proofs.YtohgdeddepfanaaDoor
open Go.RowKit

set_option maxHeartbeats 400000 in
theorem ones64_core (x a1 a2 c1 c2 d r : Nat) (w : World) (h1 : a1 ≤ 1099511627775) (h2 : a2 ≤ 1099511627775) (h3 : c1 ≤ 2199023255550) (h4 : c2 ≤ 2199023255550) (h5 : d ≤ 34901295112)
    (k1 : bits BinOp.and IntKind.u64 ((x : Int) / 2) 6148914691236517205 = (a1 : Int)) (k2 : bits BinOp.and IntKind.u64 (x : Int) 6148914691236517205 = (a2 : Int))
    (k3 : bits BinOp.and IntKind.u64 (((a1 : Int) + a2) / 4) 3689348814741910323 = (c1 : Int)) (k4 : bits BinOp.and IntKind.u64 ((a1 : Int) + a2) 3689348814741910323 = (c2 : Int))
    (k5 : bits BinOp.and IntKind.u64 (((c1 : Int) + c2) / 16 + (c1 + c2)) 1085102592571150095 = (d : Int))
    (k6 : bits BinOp.and IntKind.i64 ((((d : Int) + d / 256) + ((d : Int) + d / 256) / 65536) + (((d : Int) + d / 256) + ((d : Int) + d / 256) / 65536) / 4294967296) 127 = (r : Int)) :
    Calls Tryd.prog 45 #[.int .u64 x] w fun e w' => e = .returned (.int .i64 r) ∧ w = w' := by
  go_enter Tryd.func45, Tryd.ntmps45
  go_wp2
  go_ret
  exact ⟨rfl, rfl⟩
theorem rep85 : rep 85 8 = 6148914691236517205 := by decide +kernel
theorem rep51 : rep 51 8 = 3689348814741910323 := by decide +kernel
theorem rep15 : rep 15 8 = 1085102592571150095 := by decide +kernel
theorem and_le_l (a b : Nat) : a &&& b ≤ a := Nat.and_le_left
theorem cast_div (a b : Nat) : ((a : Int) / (b : Int)) = ((a / b : Nat) : Int) := (Int.natCast_ediv a b).symm
theorem ones64_any (x : Nat) (w : World) (hx : x ≤ 1099511627775) :
    Calls Tryd.prog 45 #[.int .u64 x] w fun e w' => e = .returned (.int .i64 (cntN x)) ∧ w = w' := by
  have l1 := and_le_l (x / 2) (rep 85 8)
  have l2 := and_le_l x (rep 85 8)
  have hs1 : S1 8 x ≤ 2199023255550 := by unfold S1; omega
  have l3 := and_le_l (S1 8 x / 4) (rep 51 8)
  have l4 := and_le_l (S1 8 x) (rep 51 8)
  have hs2 : S2 8 (S1 8 x) ≤ 4398046511100 := by unfold S2; omega
  have ht := T_le x (by omega)
  have e1 : ((S1 8 x : Nat) : Int) = ((x / 2 &&& rep 85 8 : Nat) : Int) + ((x &&& rep 85 8 : Nat) : Int) := by unfold S1; omega
  have e2 : ((S2 8 (S1 8 x) : Nat) : Int) = ((S1 8 x / 4 &&& rep 51 8 : Nat) : Int) + ((S1 8 x &&& rep 51 8 : Nat) : Int) := by unfold S2; omega
  refine ones64_core x (x / 2 &&& rep 85 8) (x &&& rep 85 8) (S1 8 x / 4 &&& rep 51 8) (S1 8 x &&& rep 51 8) (T 8 x) (cntN x) w (by omega) (by omega) (by omega) (by omega) ht ?_ ?_ ?_ ?_ ?_ ?_
  · rw [show (x : Int) / 2 = ((x / 2 : Nat) : Int) by omega]
    rw [rep85]
    exact bits_and_u64_nat (x / 2) 6148914691236517205 (by omega) (by omega)
  · rw [rep85]
    exact bits_and_u64_nat x 6148914691236517205 (by omega) (by omega)
  · rw [← e1, show ((S1 8 x : Nat) : Int) / 4 = ((S1 8 x / 4 : Nat) : Int) by omega, rep51]
    exact bits_and_u64_nat (S1 8 x / 4) 3689348814741910323 (by omega) (by omega)
  · rw [← e1, rep51]
    exact bits_and_u64_nat (S1 8 x) 3689348814741910323 (by omega) (by omega)
  · rw [← e2, show ((S2 8 (S1 8 x) : Nat) : Int) / 16 + ((S2 8 (S1 8 x) : Nat) : Int) = ((S2 8 (S1 8 x) / 16 + S2 8 (S1 8 x) : Nat) : Int) by omega]
    rw [show T 8 x = (S2 8 (S1 8 x) / 16 + S2 8 (S1 8 x)) &&& 1085102592571150095 by rw [← rep15]; rfl]
    exact bits_and_u64_nat (S2 8 (S1 8 x) / 16 + S2 8 (S1 8 x)) 1085102592571150095 (by omega) (by omega)
  · obtain ⟨d, hd⟩ : ∃ d, d = T 8 x := ⟨_, rfl⟩
    have hc : cntN x = tailN d &&& 127 := by rw [hd, and_127]; rfl
    rw [hc, ← hd]
    rw [← hd] at ht
    have hb : tailN d ≤ 9223372036854775807 := by unfold tailN; omega
    have he : (((d : Int) + d / 256) + ((d : Int) + d / 256) / 65536) + (((d : Int) + d / 256) + ((d : Int) + d / 256) / 65536) / 4294967296 = ((tailN d : Nat) : Int) := by unfold tailN; omega
    rw [he]
    exact bits_and_i64_nat (tailN d) 127 (by omega) (by omega)
theorem ones_any (x : Nat) (w : World) (hx : x ≤ 1099511627775) :
    Calls Tryd.prog 42 #[.int .u64 x] w fun e w' => e = .returned (.int .i64 (cntN x)) ∧ w = w' := by
  have C := Lib.hid (ones64_any x w hx)
  go_enter Tryd.func42, Tryd.ntmps42
  go_wp2_with (go_at_call 45; refine C.out.mono ?_; rintro e w' ⟨rfl, rfl⟩)
  go_ret
  exact ⟨rfl, rfl⟩

theorem tz_any (x : Nat) (w : World) (hx : x < 18446744073709551616) (hx0 : x ≠ 0) (hT : Tab64 w) :
    Calls Tryd.prog 43 #[.int .u64 x] w fun e w' => e = .returned (.int .i64 (Lib.ctz 64 x)) ∧ w = w' := by
  have C := Lib.hid (tz64_any x w hx hx0 hT)
  clear hx hx0 hT
  obtain ⟨c, hc⟩ : ∃ c, c = Lib.ctz 64 x := ⟨_, rfl⟩
  rw [← hc] at C ⊢
  clear hc
  go_enter Tryd.func43, Tryd.ntmps43
  go_wp2_with (go_at_call 47; refine C.out.mono ?_; rintro e w' ⟨rfl, rfl⟩)
  go_ret
  exact ⟨rfl, rfl⟩

/-- num.Two at a power of two. -/
theorem two_core (x k : Nat) (w : World) (hx : x ≤ 1099511627775) (C1 : Hid (Calls Tryd.prog 42 #[.int .u64 x] w fun e w' => e = .returned (.int .i64 1) ∧ w = w'))
    (C2 : Hid (Calls Tryd.prog 43 #[.int .u64 x] w fun e w' => e = .returned (.int .i64 k) ∧ w = w')) :
    Calls Tryd.prog 40 #[.int .i64 x] w fun e w' => e = .returned (.tuple #[.int .i64 k, .bool true]) ∧ w = w' := by
  have C0 := Lib.hid (check_any (x : Int) w)
  rw [chk_ok (by omega) (by omega)] at C0
  go_enter Tryd.func40, Tryd.ntmps40
  go_wp2_with (first
    | (go_at_call 41; refine C0.out.mono ?_; rintro e w' ⟨rfl, rfl⟩)
    | (go_at_call 42; refine C1.out.mono ?_; rintro e w' ⟨rfl, rfl⟩)
    | (go_at_call 43; refine C2.out.mono ?_; rintro e w' ⟨rfl, rfl⟩))
  go_ret2
  exact ⟨rfl, rfl⟩
theorem two_yes (k : Nat) (hk : k < 40) (w : World) (hT : Tab64 w) :
    Calls Tryd.prog 40 #[.int .i64 ((2 ^ k : Nat) : Int)] w fun e w' => e = .returned (.tuple #[.int .i64 k, .bool true]) ∧ w = w' := by
  obtain ⟨h1, h2, h3, h4⟩ := two_cnt k hk
  obtain ⟨x, hx⟩ : ∃ x, x = 2 ^ k := ⟨_, rfl⟩
  rw [← hx] at h1 h2 h3 h4 ⊢
  have C1 := ones_any x w (by omega)
  rw [h1] at C1
  have C2 := tz_any x w (by omega) (by omega) hT
  rw [h4] at C2
  exact two_core x k w (by omega) (Lib.hid C1) (Lib.hid C2)
theorem two_not (x c : Nat) (w : World) (hx : x ≤ 1099511627775) (hc : ((c : Int) != 1) = true) (C1 : Hid (Calls Tryd.prog 42 #[.int .u64 x] w fun e w' => e = .returned (.int .i64 c) ∧ w = w')) :
    Calls Tryd.prog 40 #[.int .i64 x] w fun e w' => e = .returned (.tuple #[.int .i64 0, .bool false]) ∧ w = w' := by
  have C0 := Lib.hid (check_any (x : Int) w)
  rw [chk_ok (by omega) (by omega)] at C0
  go_enter Tryd.func40, Tryd.ntmps40
  go_wp2_with (first
    | (go_at_call 41; refine C0.out.mono ?_; rintro e w' ⟨rfl, rfl⟩)
    | (go_at_call 42; refine C1.out.mono ?_; rintro e w' ⟨rfl, rfl⟩))
  go_ret2
  exact ⟨rfl, rfl⟩
theorem two_wrong (n : Int) (w : World) (h : chk n ≠ 0) :
    Calls Tryd.prog 40 #[.int .i64 n] w fun e w' => e = .returned (.tuple #[.int .i64 0, .bool false]) ∧ w = w' := by
  have C0 := Lib.hid (check_any n w)
  obtain ⟨c, hc⟩ : ∃ c, c = chk n := ⟨_, rfl⟩
  rw [← hc] at C0 h
  have hb : (c != 0) = true := by simpa using h
  clear hc h
  go_enter Tryd.func40, Tryd.ntmps40
  go_wp2_with (go_at_call 41; refine C0.out.mono ?_; rintro e w' ⟨rfl, rfl⟩)
  go_ret2
  exact ⟨rfl, rfl⟩
theorem two_no (n : Int) (w : World) (h : ∀ k : Nat, k < 40 → n ≠ ((2 ^ k : Nat) : Int)) :
    Calls Tryd.prog 40 #[.int .i64 n] w fun e w' => e = .returned (.tuple #[.int .i64 0, .bool false]) ∧ w = w' := by
  by_cases hc : chk n = 0
  · obtain ⟨n0, n1⟩ := chk_zero hc
    obtain ⟨x, rfl⟩ : ∃ x : Nat, n = (x : Int) := ⟨n.toNat, by omega⟩
    refine two_not x (cntN x) w (by omega) ?_ (Lib.hid (ones_any x w (by omega)))
    have : cntN x ≠ 1 := fun h1 => by
      obtain ⟨k, hk, e⟩ := cnt_two x (by omega) h1
      exact h k hk (by rw [e])
    simp; omega
  · exact two_wrong n w hc
end Go.Proofs.YtohgdeddepfanaaDoor
