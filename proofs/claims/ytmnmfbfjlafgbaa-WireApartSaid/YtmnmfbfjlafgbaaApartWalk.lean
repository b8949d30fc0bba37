/- The walk of WireApart in the seat Ytmnmfbfjlafgbaa: at any input it answers true. No statement is proved here. -/
import Derived.Test.YtmnmfbfjlafgbaaUnrowsWalk
import Derived.Test.YtmnmfbfjlafgbaaBackWalk
set_option linter.unusedVariables false
namespace Go.Proofs.Ytmnmfbfjlafgbaa
open Go.RowKit

theorem ints_else (B : Nat) (A1 A2 : Option Addr) (c1 c2 : Nat) (xs ys : List Int) (w : World) (hx : xs.length ≤ 1000) (hy : ys.length ≤ 1000) (h1 : Ints w B A1 xs) (h2 : Ints w B A2 ys) (hne : xs ≠ ys) :
    Calls Try.prog 16 #[.slice A1 xs.length c1, .slice A2 ys.length c2] w fun e w' => e = .returned (.bool false) ∧ Below w.heap.size w w' :=
  (ints_any B A1 A2 c1 c2 xs ys w hx hy h1 h2).mono fun e w' ⟨he, N, hw⟩ => ⟨by rw [he, decide_eq_false hne], by subst hw; exact below_drewN (Below.refl _ _) N⟩

set_option maxHeartbeats 1000000 in
theorem apart_long (w : World) (A A' : Option Addr) (cap cap' len len' : Nat) (k : Int) (hm : len ≤ 9223372036854775807) (hm' : len' ≤ 9223372036854775807) (hl : ¬ (len ≤ 60 ∧ len' ≤ 60)) :
    Calls Try.prog 8 #[.slice A len cap, .slice A' len' cap', .int .i64 k] w fun e w' => e = .returned (.bool true) ∧ Below w.heap.size w w' := by
  have h : 60 < len ∨ (len ≤ 60 ∧ 60 < len') := by omega
  clear hl
  rcases h with h | ⟨h, h1⟩
  all_goals
    go_enter Try.func8, Try.ntmps8
    go_wp2_with fail
    refine (awake_any _).mono ?_
    rintro e w1 ⟨rfl, b1⟩
    have HB1 := Lib.hid b1
    clear b1
    go_wp2_with fail
    refine (awake_any _).mono ?_
    rintro e w2 ⟨rfl, b2⟩
    have HB2 := Lib.hid (HB1.out.trans (b2.mono HB1.out.size))
    clear b2
    go_wp2_with fail
    go_ret
    exact ⟨rfl, HB2.out⟩

/-- How the two rows turn out. -/
def Rows2 (e f : Int) (S T : ByteArray) (zs ys : List Int) : Prop := (e != 0) = true ∨ (e = 0 ∧ (f != 0) = true) ∨ (e = 0 ∧ f = 0 ∧ (S = T ↔ zs = ys))
set_option maxHeartbeats 2000000 in
theorem apart_core (w : World) (A A' : Option Addr) (cap cap' len len' : Nat) (zs ys : List Int) (k e f : Int) (S T : ByteArray) (hlen : len = zs.length) (hlen' : len' = ys.length) (hl : len ≤ 60) (hl' : len' ≤ 60)
    (hI : Ints w w.heap.size A zs) (hI' : Ints w w.heap.size A' ys) (hA : A = none → cap = 0) (hA' : A' = none → cap' = 0)
    (hR : ∀ A cap (W : World), Ints W W.heap.size A zs → Calls Try.prog 14 #[.slice A len cap, .int .i64 k] W fun E w' => E = .returned (.tuple #[.string S, .int .i64 e]) ∧ Below W.heap.size W w')
    (hR' : ∀ A cap (W : World), Ints W W.heap.size A ys → Calls Try.prog 14 #[.slice A len' cap, .int .i64 k] W fun E w' => E = .returned (.tuple #[.string T, .int .i64 f]) ∧ Below W.heap.size W w')
    (hF : Rows2 e f S T zs ys) :
    Calls Try.prog 8 #[.slice A len cap, .slice A' len' cap', .int .i64 k] w fun e w' => e = .returned (.bool true) ∧ Below w.heap.size w w' := by
  obtain ⟨i0, hi0, hz0, hz1, hz2⟩ := info_parts int_cell_info
  have CR := Lib.hid hR
  have CR' := Lib.hid hR'
  have HL := Lib.hid hlen
  have HL' := Lib.hid hlen'
  have HI := Lib.hid hI
  have HI' := Lib.hid hI'
  have HA := Lib.hid hA
  have HA' := Lib.hid hA'
  have HF := Lib.hid hF
  clear hlen hlen' hI hI' hA hA' hR hR' hF
  go_enter Try.func8, Try.ntmps8
  go_wp2_with fail
  refine (awake_any _).mono ?_
  rintro E w1 ⟨rfl, b1⟩
  have HI1 := Lib.hid (HI.out.below b1)
  have HB1 := Lib.hid b1
  clear b1
  go_wp2_with (at_builtin; refine wpList_copied rfl _ _ _ rfl 3 i0 _ Try.underlying31 hi0 hz0 hz1 hz2 rfl w1 _ A cap len zs HL.out (by omega) HI1.out HB1.out.size HA.out rfl rfl ?_; intro A2 c2 w2 HI2 HB2; (have HI2' := Lib.hid HI2); (have HB2' := Lib.hid HB2); clear HI2 HB2)
  refine (CR.out A2 c2 w2 HI2'.out).mono ?_
  rintro E w3 ⟨rfl, b3⟩
  have HB3 := Lib.hid (HB1.out.trans ((HB2'.out.trans (b3.mono HB2'.out.size)).mono HB1.out.size))
  have HI3 := Lib.hid (HI'.out.below HB3.out)
  clear b3 HI1 HI2' HB2'
  go_wp2_with (at_builtin; refine wpList_copied rfl _ _ _ rfl 3 i0 _ Try.underlying31 hi0 hz0 hz1 hz2 rfl w3 _ A' cap' len' ys HL'.out (by omega) HI3.out HB3.out.size HA'.out rfl rfl ?_; intro A4 c4 w4 HI4 HB4; (have HI4' := Lib.hid HI4); (have HB4' := Lib.hid HB4); clear HI4 HB4)
  refine (CR'.out A4 c4 w4 HI4'.out).mono ?_
  rintro E w5 ⟨rfl, b5⟩
  have HB5 := Lib.hid (HB3.out.trans ((HB4'.out.trans (b5.mono HB4'.out.size)).mono HB3.out.size))
  clear b5 HI4' HB4'
  rcases HF.out with hb | ⟨rfl, hb⟩ | ⟨rfl, rfl, hi⟩
  · go_wp2_with fail
    go_ret
    exact ⟨rfl, HB5.out⟩
  · go_wp2_with fail
    go_ret
    exact ⟨rfl, HB5.out⟩
  · by_cases hzy : zs = ys
    · obtain rfl := hi.mpr hzy
      subst hzy
      obtain rfl : len = len' := HL.out.trans HL'.out.symm
      have HS := Lib.hid (by have h := ints_same w5.heap.size A A' cap cap' zs w5 (by rw [← HL.out]; omega) ((HI.out.below HB5.out).more HB5.out.size) ((HI'.out.below HB5.out).more HB5.out.size); rw [← HL.out] at h; exact h)
      clear hi
      go_wp2_with fail
      refine HS.out.mono ?_
      rintro E w6 ⟨rfl, b6⟩
      have HB6 := Lib.hid (HB5.out.trans (b6.mono HB5.out.size))
      clear b6
      go_wp2_with fail
      go_ret
      exact ⟨rfl, HB6.out⟩
    · have hb1 := str_ne (fun e : S = T => hzy (hi.mp e))
      have HS := Lib.hid (by have h := ints_else w5.heap.size A A' cap cap' zs ys w5 (by rw [← HL.out]; omega) (by rw [← HL'.out]; omega) ((HI.out.below HB5.out).more HB5.out.size) ((HI'.out.below HB5.out).more HB5.out.size) hzy; rw [← HL.out, ← HL'.out] at h; exact h)
      clear hi hzy
      go_wp2_with fail
      refine HS.out.mono ?_
      rintro E w6 ⟨rfl, b6⟩
      have HB6 := Lib.hid (HB5.out.trans (b6.mono HB5.out.size))
      clear b6
      go_wp2_with fail
      go_ret
      exact ⟨rfl, HB6.out⟩
theorem walk_WireApart (w : World) (A : Option Addr) (cap len : Nat) (zs : List Int) (hlen : zs.length = len) (hm : len ≤ 9223372036854775807) (hI : Ints w w.heap.size A zs) (hA : A = none → cap = 0) (_ : len ≤ cap)
    (hz : ∀ z ∈ zs, -9223372036854775808 ≤ z ∧ z ≤ 9223372036854775807)
    (A' : Option Addr) (cap' len' : Nat) (ys : List Int) (hlen' : ys.length = len') (hm' : len' ≤ 9223372036854775807) (hI' : Ints w w.heap.size A' ys) (hA' : A' = none → cap' = 0) (_ : len' ≤ cap')
    (hy : ∀ z ∈ ys, -9223372036854775808 ≤ z ∧ z ≤ 9223372036854775807) (k : Int) (hk : (Lit.int .i64 k).wf = true) :
    Calls Try.prog 8 #[.slice A len cap, .slice A' len' cap', .int .i64 k] w fun e w' => e = .returned (.bool true) ∧ Below w.heap.size w w' := by
  by_cases hl : len ≤ 60 ∧ len' ≤ 60
  · subst hlen hlen'
    refine apart_core w A A' cap cap' _ _ zs ys k (rowE zs k) (rowE ys k) ⟨(rowL zs k).toArray⟩ ⟨(rowL ys k).toArray⟩ rfl rfl hl.1 hl.2 hI hI' hA hA' (fun A cap W h => row_any A cap zs k W (by omega) h fun z h => (hz z h).2) (fun A cap W h => row_any A cap ys k W (by omega) h fun z h => (hy z h).2) ?_
    by_cases h1 : rowE zs k = 0
    · by_cases h2 : rowE ys k = 0
      · refine .inr (.inr ⟨h1, h2, fun e => ?_, fun e => by rw [e]⟩)
        have e' : (rowL zs k).toArray = (rowL ys k).toArray := congrArg ByteArray.data e
        rw [rowL_fine h1, rowL_fine h2] at e'
        exact row_inj zs ys h1 h2 (by simpa using e')
      · exact .inr (.inl ⟨h1, by simpa using h2⟩)
    · exact .inl (by simpa using h1)
  · exact apart_long w A A' cap cap' len len' k hm hm' hl
end Go.Proofs.Ytmnmfbfjlafgbaa
