/- The walk of NumTells in the seat YtcphelemphchbaaDoor: at any numbers it answers true. No statement is proved here. -/
import Derived.Test.YtcphelemphchbaaDoorNumAwake
import Derived.Test.YtcphelemphchbaaDoorRefMul
namespace Go.Proofs.YtcphelemphchbaaDoor
open Go.RowKit

theorem int_info : (Tryd.prog.info? 3).map (fun i => (i.zero, i.size, i.bytes)) = some (some (.int .i64 0), 1, 8) := by kernel_rfl
theorem two_pair (a : Int) : ∃ (k : Int) (ok : Bool), (∀ W : World, Tab64 W → Calls Tryd.prog 17 #[.int .i64 a] W fun e w' => e = .returned (.tuple #[.int .i64 k, .bool ok]) ∧ W = w') ∧
    (∀ W : World, Calls Tryd.prog 18 #[.int .i64 a] W fun e w' => e = .returned (.tuple #[.int .i64 k, .bool ok]) ∧ W = w') := by
  by_cases h : ∃ k : Nat, k < 40 ∧ a = ((2 ^ k : Nat) : Int)
  · obtain ⟨k, hk, rfl⟩ := h
    exact ⟨k, true, fun W hT => two_yes k hk W hT, fun W => rtwo_yes k hk W⟩
  · have h' : ∀ k : Nat, k < 40 → a ≠ ((2 ^ k : Nat) : Int) := fun k hk e => h ⟨k, hk, e⟩
    exact ⟨0, false, fun W _ => two_no a W h', fun W => rtwo_no a W h'⟩

set_option maxHeartbeats 1000000 in
theorem tells_short (A : Option Addr) (cap : Nat) (zs : List Int) (a b : Int) (w : World) (hl : zs.length ≤ 60) (hI : Ints w w.heap.size A zs) (hT : Tab64 w) (hA : A = none → cap = 0) :
    Calls Tryd.prog 3 #[.slice A zs.length cap, .int .i64 a, .int .i64 b] w fun e w' => e = .returned (.bool true) ∧ Below w.heap.size w w' := by
  obtain ⟨i0, hi0, hz0, hz1, hz2⟩ := info_parts int_info
  obtain ⟨len, hlen⟩ : ∃ len, len = zs.length := ⟨_, rfl⟩
  obtain ⟨k, ok, T1, T2⟩ := two_pair a
  have T1' := Lib.hid T1
  have T2' := Lib.hid T2
  clear T1 T2
  have CA := Lib.hid (fun A cap W h => hlen ▸ add_any A cap zs W (by omega) h)
  have CR := Lib.hid (fun B A cap W h => hlen ▸ radd_any B A cap zs W (by omega) h)
  rw [← hlen] at hl ⊢
  have HL := Lib.hid hlen
  have HI := Lib.hid hI
  have HT := Lib.hid hT
  have HA := Lib.hid hA
  clear hlen hI hT hA
  go_enter Tryd.func3, Tryd.ntmps3
  go_wp2_with fail
  refine (awake_any _ HT.out).mono ?_
  rintro e w1 ⟨rfl, b1⟩
  have HI1 := Lib.hid (HI.out.below b1)
  have HB1 := Lib.hid b1
  clear b1
  go_wp2_with (at_builtin; refine wpList_copied rfl _ _ _ rfl 3 i0 _ Tryd.underlying22 hi0 hz0 hz1 hz2 rfl w1 _ A cap len zs HL.out (by omega) HI1.out HB1.out.size HA.out rfl rfl ?_; intro A2 c2 w2 HI2 HB2; (have HI2' := Lib.hid HI2); (have HB2' := Lib.hid HB2); clear HI2 HB2)
  refine (CA.out A2 c2 w2 HI2'.out).mono ?_
  rintro e w3 ⟨rfl, b3⟩
  have HB3 := Lib.hid (HB1.out.trans ((HB2'.out.trans (b3.mono HB2'.out.size)).mono HB1.out.size))
  clear b3
  have HI3 := Lib.hid (HI.out.below HB3.out)
  go_wp2_with fail
  refine (CR.out _ A cap w3 HI3.out).mono ?_
  rintro e w' ⟨rfl, rfl⟩
  go_wp2_with fail
  refine (mul_any a b w3).mono ?_
  rintro e w4 ⟨rfl, b4⟩
  have HB4 := Lib.hid (HB3.out.trans (b4.mono HB3.out.size))
  clear b4
  go_wp2_with fail
  refine (rmul_any a b w4).mono ?_
  rintro e w5 ⟨rfl, b5⟩
  have HB5 := Lib.hid (HB4.out.trans (b5.mono HB4.out.size))
  clear b5
  go_wp2_with fail
  refine (down_any a b w5).mono ?_
  rintro e w6 ⟨rfl, b6⟩
  have HB6 := Lib.hid (HB5.out.trans (b6.mono HB5.out.size))
  clear b6
  go_wp2_with fail
  refine (rdown_any a b w6).mono ?_
  rintro e w7 ⟨rfl, b7⟩
  have HB7 := Lib.hid (HB6.out.trans (b7.mono HB6.out.size))
  clear b7
  have HT7 := Lib.hid (HT.out.below HB7.out HT.out.lt)
  go_wp2_with fail
  refine (T1'.out w7 HT7.out).mono ?_
  rintro e w' ⟨rfl, rfl⟩
  go_wp2_with fail
  refine (T2'.out w7).mono ?_
  rintro e w' ⟨rfl, rfl⟩
  go_wp2_with (first
    | (go_at_call 19; refine (check_any _ _).mono ?_; rintro e w' ⟨rfl, rfl⟩)
    | (go_at_call 20; refine (rcheck_any _ _).mono ?_; rintro e w' ⟨rfl, rfl⟩))
  go_ret
  exact ⟨by simp, HB7.out⟩
theorem tells_long (A : Option Addr) (cap len : Nat) (a b : Int) (w : World) (hl : 60 < len) (hm : len ≤ 9223372036854775807) (hT : Tab64 w) :
    Calls Tryd.prog 3 #[.slice A len cap, .int .i64 a, .int .i64 b] w fun e w' => e = .returned (.bool true) ∧ Below w.heap.size w w' := by
  have HT := Lib.hid hT
  clear hT
  go_enter Tryd.func3, Tryd.ntmps3
  go_wp2_with fail
  refine (awake_any _ HT.out).mono ?_
  rintro e w1 ⟨rfl, b1⟩
  have HB1 := Lib.hid b1
  clear b1
  have HT1 := Lib.hid (HT.out.below HB1.out HT.out.lt)
  go_wp2_with fail
  refine (awake_any _ HT1.out).mono ?_
  rintro e w2 ⟨rfl, b2⟩
  have HB2 := Lib.hid (HB1.out.trans (b2.mono HB1.out.size))
  clear b2
  go_wp2_with fail
  go_ret
  exact ⟨rfl, HB2.out⟩
theorem walk_NumTells (w : World) (A : Option Addr) (cap len : Nat) (zs : List Int) (hlen : zs.length = len) (hm : len ≤ 9223372036854775807) (hI : Ints w w.heap.size A zs) (hA : A = none → cap = 0) (_ : len ≤ cap)
    (a : Int) (_ : (Lit.int .i64 a).wf = true) (b : Int) (_ : (Lit.int .i64 b).wf = true) (hT : Tab64 w) :
    Calls Tryd.prog 3 #[.slice A len cap, .int .i64 a, .int .i64 b] w fun e w' => e = .returned (.bool true) ∧ Below w.heap.size w w' := by
  by_cases h : len ≤ 60
  · subst hlen
    exact tells_short A cap zs a b w h hI hT hA
  · exact tells_long A cap len a b w (by omega) hm hT
end Go.Proofs.YtcphelemphchbaaDoor
