/- What layer 12's law plays (plain): a step and a push never fail; the takers as cells of an array, in the seat YtcjmljpfhabmnaaDoor.
   The contract of trefoilref01.Two in the seat YtcjmljpfhabmnaaDoor.
   trefoilref12.Size, Check, At in the seat YtcjmljpfhabmnaaDoor: their contracts.
   The contract of trefoilref02.Ints in the seat YtcjmljpfhabmnaaDoor.
   trefoilref12.Same and Items in the seat YtcjmljpfhabmnaaDoor: their contracts.
   The plain arithmetic of the layer num in the seat YtcjmljpfhabmnaaDoor: what each call comes to, as functions of integers. No statement is proved here; it imports nothing of the program.
   The contract of num.Check, in the seat YtcjmljpfhabmnaaDoor (out of NumFirst).
   Counting bits, in the seat YtcjmljpfhabmnaaDoor: the count of math/bits.OnesCount64 by its own text is 1 just at powers of two (below 2^40). Plain arithmetic; no statement is proved here.
   No statement is proved here. -/
import Derived.Test.YtcjmljpfhabmnaaDoorZM3
import Derived.Test.YtcjmljpfhabmnaaDoorChecked
import Derived.Test.YtcjmljpfhabmnaaDoorZM1
import Derived.KernelRfl
import Derived.WalkKit
import Derived.WalkSmall
import Derived.Handy
import Derived.Lib.Hide
import Derived.BigQuiet
import Derived.Deep.QuietTactic
import Derived.StillTailTactics
import Derived.Deep.RegionWith
import Derived.Laws.Bits64b
import Derived.Lib.TrailingZeros
set_option linter.unusedSimpArgs false
set_option linter.unusedVariables false
namespace Go.Proofs.YtcjmljpfhabmnaaDoor
open Go Go.RowKit

section
variable {n : Nat} {R : List Int} {T B : Int} {tk : Nat → Tkr} {got : List Int} {P : Nat}
theorem PlayInv.stepOk (h : PlayInv n R T B tk got P) (hs : SizeOk n) (hP : P ≤ 1000) {k : Nat} (hk : k < 4) : stepQ R T B (tk k) = (0, moveD R T B (tk k)) := by
  have f1 := h.fine
  have f2 := (h.move hk).fine
  obtain ⟨q1, q2, q3, q4, q5, q6⟩ := h.taker hk
  have hl := h.len
  have c1 : ChkQ R.length T B := by rw [hl]; exact ⟨hs, f1.1.1, by omega, f1.2.1, f1.2.2.1⟩
  have c2 : ChkQ R.length (moveD R T B (tk k)).1 (moveD R T B (tk k)).2.1 := by rw [hl]; exact ⟨hs, f2.1.1, by omega, f2.2.1, f2.2.2.1⟩
  have ho : ¬ OverT (tk k) := by
    unfold OverT WildT
    rw [q1]
    rintro (h1 | h1 | h1 | ⟨h1, h2⟩)
    · exact h1 q2
    · omega
    · by_cases hk0 : k = 0
      · rw [if_neg (by simp [hk0])] at h1; omega
      · rw [if_pos (by simp [hk0])] at h1
        have := q5 hk0
        omega
    · have := q6 h1
      omega
  unfold stepQ
  rw [if_neg (show ¬ ¬ ChkQ R.length T B from fun q => q c1), if_neg ho, if_neg (show ¬ ¬ ChkQ R.length (moveD R T B (tk k)).1 (moveD R T B (tk k)).2.1 from fun q => q c2)]
theorem PlayInv.pushOk (h : PlayInv n R T B tk got P) (hs : SizeOk n) (hP : P ≤ 1000) (hi : (tk 0).at_ = 0) : pushE R.length T B = if B - T < n then 0 else 121 := by
  have f1 := h.fine
  have hl := h.len
  have hlo := h.lo
  unfold virD at hlo
  rw [if_pos hi] at hlo
  have c1 : ChkQ R.length T B := by rw [hl]; exact ⟨hs, f1.1.1, by omega, f1.2.1, f1.2.2.1⟩
  unfold pushE
  rw [if_neg (show ¬ ¬ ChkQ R.length T B from fun q => q c1), hl]
  by_cases hb : B - T < n
  · rw [if_pos hb, if_neg (by omega)]
  · rw [if_neg hb, if_pos (by omega)]
/-- How many were got. -/
theorem nextG_len (t : Tkr) : (nextG got t).length ≤ got.length + 1 := by
  unfold nextG
  split
  · simp
  · omega
end
/-- The takers as cells. -/
def arrC (tk : Nat → Tkr) : List Value := cT (tk 0) ++ (cT (tk 1) ++ (cT (tk 2) ++ cT (tk 3)))
theorem arrC_start : arrC startT = [.bool false, .int .i64 0, .int .i64 0, .int .i64 0, .int .i64 0, .int .i64 0, .bool true, .int .i64 0, .int .i64 0, .int .i64 0, .int .i64 0, .int .i64 0, .bool true, .int .i64 0, .int .i64 0, .int .i64 0, .int .i64 0, .int .i64 0, .bool true, .int .i64 0, .int .i64 0, .int .i64 0, .int .i64 0, .int .i64 0] := rfl
theorem arrC_at (tk : Nat → Tkr) {k i : Nat} {v : Value} (hk : k < 4) (hi : (cT (tk k))[i]? = some v) : (arrC tk)[6 * k + i]? = some v := by
  have h6 : i < 6 := (List.getElem?_eq_some_iff.mp hi).1
  have l : ∀ t : Tkr, (cT t).length = 6 := fun t => rfl
  unfold arrC
  obtain rfl | rfl | rfl | rfl : k = 0 ∨ k = 1 ∨ k = 2 ∨ k = 3 := by omega
  · rw [List.getElem?_append_left (by rw [l]; omega), show 6 * 0 + i = i by omega]; exact hi
  · rw [List.getElem?_append_right (by rw [l]; omega), l, List.getElem?_append_left (by rw [l]; omega), show 6 * 1 + i - 6 = i by omega]; exact hi
  · rw [List.getElem?_append_right (by rw [l]; omega), l, List.getElem?_append_right (by rw [l]; omega), l, List.getElem?_append_left (by rw [l]; omega), show 6 * 2 + i - 6 - 6 = i by omega]; exact hi
  · rw [List.getElem?_append_right (by rw [l]; omega), l, List.getElem?_append_right (by rw [l]; omega), l, List.getElem?_append_right (by rw [l]; omega), l, show 6 * 3 + i - 6 - 6 - 6 = i by omega]; exact hi
theorem arrC_set (tk : Nat → Tkr) {k : Nat} (t : Tkr) (hk : k < 4) :
    ((((((arrC tk).set (6 * k) (.bool t.steal)).set (6 * k + 1) (.int .i64 t.at_)).set (6 * k + 2) (.int .i64 t.top)).set (6 * k + 3) (.int .i64 t.bot)).set (6 * k + 4) (.int .i64 t.got)).set (6 * k + 5) (.int .i64 t.end_) = arrC (setT tk k t) := by
  obtain rfl | rfl | rfl | rfl : k = 0 ∨ k = 1 ∨ k = 2 ∨ k = 3 := by omega
  all_goals rfl
/-- Who plays: what an act is. -/
def kOf (K : Int) : Int := min (max K 0) 4 - 1
theorem kOf_cases (K : Int) : (K ≤ 0 ∧ kOf K = -1) ∨ (K = 1 ∧ kOf K = 0) ∨ (K = 2 ∧ kOf K = 1) ∨ (K = 3 ∧ kOf K = 2) ∨ (4 ≤ K ∧ kOf K = 3) := by
  unfold kOf
  omega
end Go.Proofs.YtcjmljpfhabmnaaDoor
set_option linter.unusedVariables false
namespace Go.Proofs.YtcjmljpfhabmnaaDoor
open Go.RowKit

/-- The power of two, asked one by one. -/
theorem rtwo_yes (k : Nat) (hk : k < 40) (w : World) :
    Calls Tryd.prog 17 #[.int .i64 ((2 ^ k : Nat) : Int)] w fun e w' => e = .returned (.tuple #[.int .i64 k, .bool true]) ∧ w = w' := by
  obtain ⟨x, hx⟩ : ∃ x, x = 2 ^ k := ⟨_, rfl⟩
  rw [← hx]
  have HX := Lib.hid hx
  clear hx
  go_enter Tryd.func17, Tryd.ntmps17
  go_wp2
  go_loop [4, 5] (fun p i => ∃ j P : Nat, j ≤ k ∧ P ≤ 549755813888 ∧ Hid (P = 2 ^ j) ∧ i = .int .i64 j ∧ p = .int .i64 P) (fun _ i => k - (intOf i).toNat)
  case atStart => exact ⟨0, 1, by omega, by omega, Lib.hid rfl, rfl, rfl⟩
  case round =>
    obtain ⟨j, P, hj, hP, hpow, rfl, rfl⟩ := hrel
    by_cases hjk : j = k
    · have hb : ((P : Int) == (x : Int)) = true := by rw [beq_iff_eq, hpow.out, HX.out, hjk]
      subst hjk
      go_wp2
      go_ret2
      exact ⟨rfl, rfl⟩
    · have hlt : 2 ^ j < 2 ^ k := Nat.pow_lt_pow_right (by omega) (by omega)
      have hle : 2 ^ (j + 1) ≤ 2 ^ 39 := Nat.pow_le_pow_right (by omega) (by omega)
      rw [Nat.pow_succ] at hle
      rw [← hpow.out, ← HX.out] at hlt
      rw [← hpow.out] at hle
      have hb : ((P : Int) == (x : Int)) = false := by rw [beq_eq_false_iff_ne]; omega
      have hle' : P * 2 ≤ 549755813888 := hle
      clear hle hlt
      go_wp2
      go_round
      case rel => exact ⟨j + 1, 2 * P, by omega, by omega, Lib.hid (by rw [Nat.pow_succ, ← hpow.out, Nat.mul_comm]), by go_num, by go_num⟩
      case measure => simp [intOf]; omega
theorem rtwo_no (n : Int) (w : World) (h : ∀ k : Nat, k < 40 → n ≠ ((2 ^ k : Nat) : Int)) :
    Calls Tryd.prog 17 #[.int .i64 n] w fun e w' => e = .returned (.tuple #[.int .i64 0, .bool false]) ∧ w = w' := by
  have H := Lib.hid h
  clear h
  go_enter Tryd.func17, Tryd.ntmps17
  go_wp2
  go_loop [4, 5] (fun p i => ∃ j P : Nat, j ≤ 40 ∧ P ≤ 1099511627776 ∧ Hid (P = 2 ^ j) ∧ i = .int .i64 j ∧ p = .int .i64 P) (fun _ i => 40 - (intOf i).toNat)
  case atStart => exact ⟨0, 1, by omega, by omega, Lib.hid rfl, rfl, rfl⟩
  case round =>
    obtain ⟨j, P, hj, hP, hpow, rfl, rfl⟩ := hrel
    by_cases hjk : j < 40
    · have hne := H.out j hjk
      rw [← hpow.out] at hne
      have hle : 2 ^ (j + 1) ≤ 2 ^ 40 := Nat.pow_le_pow_right (by omega) (by omega)
      rw [Nat.pow_succ, ← hpow.out] at hle
      have hb : ((P : Int) == n) = false := by rw [beq_eq_false_iff_ne]; omega
      have hle' : P * 2 ≤ 1099511627776 := hle
      clear hle hne
      go_wp2
      go_round
      case rel => exact ⟨j + 1, 2 * P, by omega, by omega, Lib.hid (by rw [Nat.pow_succ, ← hpow.out, Nat.mul_comm]), by go_num, by go_num⟩
      case measure => simp [intOf]; omega
    · go_wp2
      go_ret2
      exact ⟨rfl, rfl⟩
end Go.Proofs.YtcjmljpfhabmnaaDoor
set_option linter.unusedVariables false
namespace Go.Proofs.YtcjmljpfhabmnaaDoor
open Go Go.RowKit

theorem rtwo_d (n : Int) : ∃ (k : Int) (b : Bool), (b = true ∧ n ≤ 64 ↔ SizeOk n) ∧ ∀ w : World, Calls Tryd.prog 17 #[.int .i64 n] w fun e w' => e = .returned (.tuple #[.int .i64 k, .bool b]) ∧ w = w' := by
  by_cases h : ∃ k : Nat, k < 40 ∧ n = ((2 ^ k : Nat) : Int)
  · obtain ⟨k, hk, rfl⟩ := h
    refine ⟨k, true, ⟨fun ⟨_, q⟩ => ?_, fun q => ⟨rfl, q.bounds.2⟩⟩, fun w => rtwo_yes k hk w⟩
    have h7 : k < 7 := by
      rcases Nat.lt_or_ge k 7 with h | h
      · exact h
      · have := Nat.pow_le_pow_right (show 0 < 2 by decide) h
        omega
    exact SizeOk.of_pow h7
  · refine ⟨0, false, ⟨fun q => absurd q.1 (by decide), fun q => ?_⟩, fun w => rtwo_no n w fun k hk e => h ⟨k, hk, e⟩⟩
    obtain ⟨k, hk, e⟩ := q.pow
    exact absurd ⟨k, by omega, e⟩ h
set_option maxHeartbeats 1000000 in
theorem rsize_any (n : Int) (w : World) : Calls Tryd.prog 6 #[.int .i64 n] w fun e w' => e = .returned (.bool (decide (SizeOk n))) ∧ w = w' := by
  obtain ⟨k, b, hb, C⟩ := rtwo_d n
  have HC := Lib.hid C
  clear C
  obtain ⟨r, hr⟩ : ∃ r, r = decide (SizeOk n) := ⟨_, rfl⟩
  rw [← hr]
  cases b with
  | false =>
    have e : r = false := by rw [hr]; exact decide_eq_false fun q => absurd (hb.mpr q).1 (by decide)
    subst e
    clear hb hr
    go_enter Tryd.func6, Tryd.ntmps6
    go_wp2_with (go_at_call 17; refine (HC.out _).mono ?_; rintro e w' ⟨rfl, rfl⟩)
    go_ret
    exact ⟨rfl, rfl⟩
  | true =>
    by_cases h : n ≤ 64
    · have e : r = true := by rw [hr]; exact decide_eq_true (hb.mp ⟨rfl, h⟩)
      subst e
      have h2 : decide (n ≤ 64) = true := decide_eq_true h
      clear hb hr
      go_enter Tryd.func6, Tryd.ntmps6
      go_wp2_with (go_at_call 17; refine (HC.out _).mono ?_; rintro e w' ⟨rfl, rfl⟩)
      go_ret
      exact ⟨rfl, rfl⟩
    · have e : r = false := by rw [hr]; exact decide_eq_false fun q => h (hb.mpr q).2
      subst e
      have h2 : decide (n ≤ 64) = false := decide_eq_false h
      clear hb hr
      go_enter Tryd.func6, Tryd.ntmps6
      go_wp2_with (go_at_call 17; refine (HC.out _).mono ?_; rintro e w' ⟨rfl, rfl⟩)
      go_ret
      exact ⟨rfl, rfl⟩
/-- The place of a number, as a number. -/
def plN (n : Nat) (k : Int) : Nat := (if k < 0 then 0 else k).toNat % n
theorem placeD_eq (R : List Int) (k : Int) : placeD R k = R.getD (plN R.length k) 0 := rfl
end Go.Proofs.YtcjmljpfhabmnaaDoor
set_option linter.unusedVariables false
namespace Go.Proofs.YtcjmljpfhabmnaaDoor
open Go.RowKit

theorem take_snoc' {α : Type} {l : List α} {j : Nat} {a : α} (h : l[j]? = some a) : l.take (j + 1) = l.take j ++ [a] := by
  rw [List.take_add_one, h]
  rfl
theorem take_ext {α : Type} {xs ys : List α} (h : xs.length = ys.length) (e : xs.take xs.length = ys.take xs.length) : xs = ys := by
  rw [List.take_length, h, List.take_length] at e
  exact e
theorem take_next {α : Type} {xs ys : List α} {j : Nat} {a : α} (e : xs.take j = ys.take j) (h1 : xs[j]? = some a) (h2 : ys[j]? = some a) : xs.take (j + 1) = ys.take (j + 1) := by
  rw [take_snoc' h1, take_snoc' h2, e]
theorem take_part {α : Type} {xs ys : List α} {j : Nat} {a b : α} (h1 : xs[j]? = some a) (h2 : ys[j]? = some b) (hne : a ≠ b) : xs ≠ ys := by
  rintro rfl
  rw [h1] at h2
  exact hne (Option.some.inj h2)

theorem drews (w : World) (N n : Nat) : (w.drewN N).drewN n = w.drewN (N + n) := by simp
set_option maxHeartbeats 800000 in
theorem ints_any (B : Nat) (A1 A2 : Option Addr) (c1 c2 : Nat) (xs ys : List Int) (w : World) (hx : xs.length ≤ 1000) (hy : ys.length ≤ 1000) (h1 : Ints w B A1 xs) (h2 : Ints w B A2 ys) :
    Calls Tryd.prog 15 #[.slice A1 xs.length c1, .slice A2 ys.length c2] w fun e w' => e = .returned (.bool (decide (xs = ys))) ∧ ∃ N, w' = w.drewN N := by
  obtain ⟨n, hn⟩ : ∃ n, n = xs.length := ⟨_, rfl⟩
  obtain ⟨m, hm⟩ : ∃ m, m = ys.length := ⟨_, rfl⟩
  rw [← hn, ← hm]
  rw [← hn] at hx
  rw [← hm] at hy
  have HN := Lib.hid hn
  have HM := Lib.hid hm
  have H1 := Lib.hid h1
  have H2 := Lib.hid h2
  clear hn hm h1 h2
  by_cases hnm : n = m
  · subst hnm
    go_enter Tryd.func15, Tryd.ntmps15
    go_wp2
    go_loopw [5] (fun i wr => ∃ j N : Nat, j ≤ n ∧ i = .int .i64 j ∧ Hid (xs.take j = ys.take j) ∧ wr = w.drewN N) (fun i _ => n - (intOf i).toNat)
    case atStart => exact ⟨0, 0, Nat.zero_le _, rfl, Lib.hid rfl, rfl⟩
    case round =>
      obtain ⟨j, N, hj, rfl, HT, rfl⟩ := hrel
      by_cases hlt : j < n
      · obtain ⟨b1, o1, x, rfl, _, hx1, hc1⟩ := H1.out.at_ (k := j) (by rw [← HN.out]; exact hlt)
        obtain ⟨b2, o2, y, rfl, _, hy1, hc2⟩ := H2.out.at_ (k := j) (by rw [← HM.out]; exact hlt)
        have HX := Lib.hid hx1
        have HY := Lib.hid hy1
        clear hx1 hy1
        by_cases hxy : x = y
        · subst hxy
          go_wp2
          go_quiet (fail)
          go_wp2
          go_roundw
          case rel => exact ⟨j + 1, _, by omega, by go_num, Lib.hid (take_next HT.out HX.out HY.out), rfl⟩
          case measure => simp [intOf]; omega
        · have hb : (x != y) = true := by simpa using hxy
          have HXY := Lib.hid hxy
          clear hxy
          go_wp2
          go_quiet (fail)
          go_wp2
          go_ret
          exact ⟨by rw [decide_eq_false (take_part HX.out HY.out HXY.out)]; rfl, _, drews w N _⟩
      · obtain rfl : j = n := by omega
        go_wp2
        go_ret
        exact ⟨by rw [decide_eq_true (take_ext (by rw [← HN.out, ← HM.out]) (by rw [← HN.out]; exact HT.out))]; rfl, _, rfl⟩
  · have hb : ((n : Int) != (m : Int)) = true := by simp; omega
    go_enter Tryd.func15, Tryd.ntmps15
    go_wp2
    go_ret
    exact ⟨by rw [decide_eq_false (fun e : xs = ys => hnm (by rw [HN.out, HM.out, e]))]; rfl, 0, rfl⟩
end Go.Proofs.YtcjmljpfhabmnaaDoor
set_option linter.unusedVariables false
namespace Go.Proofs.YtcjmljpfhabmnaaDoor
open Go Go.RowKit

section
variable {A : Option Addr} {n c : Nat} {R : List Int} {A' : Option Addr} {n' c' : Nat} {R' : List Int}
def SameQ (R : List Int) (T B : Int) (R' : List Int) (T' B' : Int) : Prop := R = R' ∧ T = T' ∧ B = B'
instance (R : List Int) (T B : Int) (R' : List Int) (T' B' : Int) : Decidable (SameQ R T B R' T' B') := by unfold SameQ; infer_instance
theorem below2 {w : World} (o1 o2 : Obj) (N : Nat) : Below w.heap.size w (((w.alloc o1).alloc o2).drewN N) := below_drewN ((below_alloc o1).trans ((below_alloc (w := w.alloc o1) o2).mono (by simp))) N
end
end Go.Proofs.YtcjmljpfhabmnaaDoor
namespace Go.Proofs.YtcjmljpfhabmnaaDoor

/-- The error of one number: 10 below 0, 11 above 2^40 - 1, else 0. -/
def chk (n : Int) : Int := if n < 0 then 10 else if 1099511627775 < n then 11 else 0
/-- The first error of some. -/
def ff : List Int → Int
  | [] => 0
  | n :: l => if chk n = 0 then ff l else chk n
def total : List Int → Int
  | [] => 0
  | n :: l => n + total l

theorem chk_low {n : Int} (h : n < 0) : chk n = 10 := by unfold chk; rw [if_pos h]
theorem chk_high {n : Int} (h : 1099511627775 < n) : chk n = 11 := by unfold chk; rw [if_neg (by omega), if_pos h]
theorem chk_ok {n : Int} (h0 : 0 ≤ n) (h1 : n ≤ 1099511627775) : chk n = 0 := by unfold chk; rw [if_neg (by omega), if_neg (by omega)]
theorem chk_zero {n : Int} (h : chk n = 0) : 0 ≤ n ∧ n ≤ 1099511627775 := by
  by_cases h1 : n < 0
  · rw [chk_low h1] at h; omega
  · by_cases h2 : 1099511627775 < n
    · rw [chk_high h2] at h; omega
    · omega
theorem chk_vals (n : Int) : chk n = 0 ∨ chk n = 10 ∨ chk n = 11 := by
  by_cases h1 : n < 0
  · rw [chk_low h1]; omega
  · by_cases h2 : 1099511627775 < n
    · rw [chk_high h2]; omega
    · rw [chk_ok (by omega) (by omega)]; omega
theorem ff_vals (l : List Int) : ff l = 0 ∨ ff l = 10 ∨ ff l = 11 := by
  induction l with
  | nil => exact .inl rfl
  | cons n l ih =>
    unfold ff
    by_cases h : chk n = 0
    · rw [if_pos h]; exact ih
    · rw [if_neg h]; exact chk_vals n
theorem ff_append (l r : List Int) : ff (l ++ r) = if ff l = 0 then ff r else ff l := by
  induction l with
  | nil => simp [ff]
  | cons n l ih =>
    by_cases h : chk n = 0
    · have e1 : ff (n :: l) = ff l := if_pos h
      have e2 : ff (n :: l ++ r) = ff (l ++ r) := if_pos h
      rw [e1, e2, ih]
    · have e1 : ff (n :: l) = chk n := if_neg h
      have e2 : ff (n :: l ++ r) = chk n := if_neg h
      rw [e1, e2, if_neg h]
theorem take_snoc {zs : List Int} {k : Nat} {z : Int} (h : zs[k]? = some z) : zs.take (k + 1) = zs.take k ++ [z] := by
  rw [List.take_add_one, h]; rfl
theorem ff_step {zs : List Int} {k : Nat} {z : Int} (h : zs[k]? = some z) (h0 : ff (zs.take k) = 0) : ff (zs.take (k + 1)) = chk z := by
  rw [take_snoc h, ff_append, if_pos h0]
  show (if chk z = 0 then ff [] else chk z) = chk z
  by_cases hc : chk z = 0
  · rw [if_pos hc, hc]; rfl
  · rw [if_neg hc]
theorem ff_early {zs : List Int} {k : Nat} {z : Int} (h : zs[k]? = some z) (h0 : ff (zs.take k) = 0) (hc : chk z ≠ 0) : ff zs = chk z := by
  have h1 := ff_step h h0
  have h2 := ff_append (zs.take (k + 1)) (zs.drop (k + 1))
  rw [List.take_append_drop, h1, if_neg hc] at h2
  exact h2
theorem ff_prefix {zs : List Int} (k : Nat) (h : ff zs = 0) : ff (zs.take k) = 0 := by
  have h2 := ff_append (zs.take k) (zs.drop k)
  rw [List.take_append_drop, h] at h2
  by_cases h0 : ff (zs.take k) = 0
  · exact h0
  · rw [if_neg h0] at h2; omega
theorem ff_mem {zs : List Int} (h : ff zs = 0) {k : Nat} {z : Int} (hz : zs[k]? = some z) : 0 ≤ z ∧ z ≤ 1099511627775 := by
  have h1 := ff_step hz (ff_prefix k h)
  rw [ff_prefix (k + 1) h] at h1
  exact chk_zero h1.symm
theorem ff_pair (a b : Int) : ff [a, b] = if chk a = 0 then chk b else chk a := by
  show (if chk a = 0 then (if chk b = 0 then 0 else chk b) else chk a) = _
  by_cases h : chk b = 0
  · rw [if_pos h, h]
  · rw [if_neg h]
theorem ff_pair_zero {a b : Int} (h : ff [a, b] = 0) : (0 ≤ a ∧ a ≤ 1099511627775) ∧ 0 ≤ b ∧ b ≤ 1099511627775 := by
  exact ⟨ff_mem h (k := 0) rfl, ff_mem h (k := 1) rfl⟩
theorem ff_pair_ok {a b : Int} (a0 : 0 ≤ a) (a1 : a ≤ 1099511627775) (b0 : 0 ≤ b) (b1 : b ≤ 1099511627775) : ff [a, b] = 0 := by
  rw [ff_pair, chk_ok a0 a1, if_pos rfl, chk_ok b0 b1]

theorem total_append (l r : List Int) : total (l ++ r) = total l + total r := by
  induction l with
  | nil => simp [total]
  | cons n l ih => simp only [List.cons_append, total]; omega
theorem total_step {zs : List Int} {k : Nat} {z : Int} (h : zs[k]? = some z) : total (zs.take (k + 1)) = total (zs.take k) + z := by
  rw [take_snoc h, total_append]; simp [total]
theorem total_pos {zs : List Int} (h : ff zs = 0) : 0 ≤ total zs := by
  induction zs with
  | nil => exact Int.le_refl _
  | cons n l ih =>
    unfold ff at h
    by_cases hc : chk n = 0
    · rw [if_pos hc] at h
      have := chk_zero hc
      have := ih h
      simp only [total]; omega
    · rw [if_neg hc] at h; exact absurd h hc
theorem ff_drop {zs : List Int} (k : Nat) (h : ff zs = 0) : ff (zs.drop k) = 0 := by
  have h2 := ff_append (zs.take k) (zs.drop k)
  rw [List.take_append_drop, h, ff_prefix k h, if_pos rfl] at h2
  exact h2.symm
theorem total_prefix {zs : List Int} (k : Nat) (h : ff zs = 0) : total (zs.take k) ≤ total zs := by
  have h2 := total_append (zs.take k) (zs.drop k)
  rw [List.take_append_drop] at h2
  have := total_pos (ff_drop k h)
  omega

/-- What the calls come to: the number, and the error. -/
def addS (l : List Int) : Int := if ff l = 0 then (if 1099511627775 < total l then 0 else total l) else 0
def addE (l : List Int) : Int := if ff l = 0 then (if 1099511627775 < total l then 11 else 0) else ff l
def subS (a b : Int) : Int := if ff [a, b] = 0 then (if a < b then 0 else a - b) else 0
def subE (a b : Int) : Int := if ff [a, b] = 0 then (if a < b then 10 else 0) else ff [a, b]
def mulS (a b : Int) : Int := if ff [a, b] = 0 then (if 1099511627775 < a * b then 0 else a * b) else 0
def mulE (a b : Int) : Int := if ff [a, b] = 0 then (if 1099511627775 < a * b then 11 else 0) else ff [a, b]
def downS (a b : Int) : Int := if ff [a, b] = 0 then (if b = 0 then 0 else a / b) else 0
def downE (a b : Int) : Int := if ff [a, b] = 0 then (if b = 0 then 12 else 0) else ff [a, b]
def upS (a b : Int) : Int := if ff [a, b] = 0 then (if b = 0 then 0 else if a / b * b < a then a / b + 1 else a / b) else 0

theorem addS_bad {l : List Int} (h : ff l ≠ 0) : addS l = 0 := if_neg h
theorem addE_bad {l : List Int} (h : ff l ≠ 0) : addE l = ff l := if_neg h
theorem addS_over {l : List Int} (h : ff l = 0) (h1 : 1099511627775 < total l) : addS l = 0 := by unfold addS; rw [if_pos h, if_pos h1]
theorem addE_over {l : List Int} (h : ff l = 0) (h1 : 1099511627775 < total l) : addE l = 11 := by unfold addE; rw [if_pos h, if_pos h1]
theorem addS_fine {l : List Int} (h : ff l = 0) (h1 : total l ≤ 1099511627775) : addS l = total l := by unfold addS; rw [if_pos h, if_neg (by omega)]
theorem addE_fine {l : List Int} (h : ff l = 0) (h1 : total l ≤ 1099511627775) : addE l = 0 := by unfold addE; rw [if_pos h, if_neg (by omega)]
theorem subS_bad {a b : Int} (h : ff [a, b] ≠ 0) : subS a b = 0 := if_neg h
theorem subE_bad {a b : Int} (h : ff [a, b] ≠ 0) : subE a b = ff [a, b] := if_neg h
theorem subS_low {a b : Int} (h : ff [a, b] = 0) (h1 : a < b) : subS a b = 0 := by unfold subS; rw [if_pos h, if_pos h1]
theorem subE_low {a b : Int} (h : ff [a, b] = 0) (h1 : a < b) : subE a b = 10 := by unfold subE; rw [if_pos h, if_pos h1]
theorem subS_fine {a b : Int} (h : ff [a, b] = 0) (h1 : b ≤ a) : subS a b = a - b := by unfold subS; rw [if_pos h, if_neg (by omega)]
theorem subE_fine {a b : Int} (h : ff [a, b] = 0) (h1 : b ≤ a) : subE a b = 0 := by unfold subE; rw [if_pos h, if_neg (by omega)]
theorem mulS_bad {a b : Int} (h : ff [a, b] ≠ 0) : mulS a b = 0 := if_neg h
theorem mulE_bad {a b : Int} (h : ff [a, b] ≠ 0) : mulE a b = ff [a, b] := if_neg h
theorem mulS_over {a b : Int} (h : ff [a, b] = 0) (h1 : 1099511627775 < a * b) : mulS a b = 0 := by unfold mulS; rw [if_pos h, if_pos h1]
theorem mulE_over {a b : Int} (h : ff [a, b] = 0) (h1 : 1099511627775 < a * b) : mulE a b = 11 := by unfold mulE; rw [if_pos h, if_pos h1]
theorem mulS_fine {a b : Int} (h : ff [a, b] = 0) (h1 : a * b ≤ 1099511627775) : mulS a b = a * b := by unfold mulS; rw [if_pos h, if_neg (by omega)]
theorem mulE_fine {a b : Int} (h : ff [a, b] = 0) (h1 : a * b ≤ 1099511627775) : mulE a b = 0 := by unfold mulE; rw [if_pos h, if_neg (by omega)]
theorem downS_bad {a b : Int} (h : ff [a, b] ≠ 0) : downS a b = 0 := if_neg h
theorem downE_bad {a b : Int} (h : ff [a, b] ≠ 0) : downE a b = ff [a, b] := if_neg h
theorem downS_zero {a b : Int} (h : ff [a, b] = 0) (h1 : b = 0) : downS a b = 0 := by unfold downS; rw [if_pos h, if_pos h1]
theorem downE_zero {a b : Int} (h : ff [a, b] = 0) (h1 : b = 0) : downE a b = 12 := by unfold downE; rw [if_pos h, if_pos h1]
theorem downS_fine {a b : Int} (h : ff [a, b] = 0) (h1 : b ≠ 0) : downS a b = a / b := by unfold downS; rw [if_pos h, if_neg h1]
theorem downE_fine {a b : Int} (h : ff [a, b] = 0) (h1 : b ≠ 0) : downE a b = 0 := by unfold downE; rw [if_pos h, if_neg h1]
theorem upS_bad {a b : Int} (h : ff [a, b] ≠ 0) : upS a b = 0 := if_neg h
theorem upS_zero {a b : Int} (h : ff [a, b] = 0) (h1 : b = 0) : upS a b = 0 := by unfold upS; rw [if_pos h, if_pos h1]
theorem upS_more {a b : Int} (h : ff [a, b] = 0) (h1 : b ≠ 0) (h2 : a / b * b < a) : upS a b = a / b + 1 := by unfold upS; rw [if_pos h, if_neg h1, if_pos h2]
theorem upS_even {a b : Int} (h : ff [a, b] = 0) (h1 : b ≠ 0) (h2 : ¬ a / b * b < a) : upS a b = a / b := by unfold upS; rw [if_pos h, if_neg h1, if_neg h2]
/-- The guard of the product: asked by a quotient. -/
theorem mul_guard {a b : Int} (hb : 0 < b) : 1099511627775 / b < a ↔ 1099511627775 < a * b := by
  constructor
  · intro h
    exact (Int.ediv_lt_iff_lt_mul hb).mp h
  · intro h
    exact (Int.ediv_lt_iff_lt_mul hb).mpr h
theorem div_bounds {a b : Int} (ha : 0 ≤ a) (ha1 : a ≤ 1099511627775) (hb : 0 < b) : 0 ≤ a / b ∧ a / b ≤ 1099511627775 ∧ 0 ≤ a / b * b ∧ a / b * b ≤ a ∧ a - a / b * b < b := by
  have h1 : 0 ≤ a / b := Int.ediv_nonneg ha (by omega)
  have h2 : a / b ≤ a := Int.ediv_le_self b ha
  have h3 : a / b * b ≤ a := Int.ediv_mul_le a (by omega)
  have h4 : 0 ≤ a / b * b := Int.mul_nonneg h1 (by omega)
  have h5 : a < (a / b + 1) * b := Int.lt_ediv_add_one_mul_self a hb
  have h6 : (a / b + 1) * b = a / b * b + b := by rw [Int.add_mul, Int.one_mul]
  omega
end Go.Proofs.YtcjmljpfhabmnaaDoor
namespace Go.Proofs.YtcjmljpfhabmnaaDoor
open Go.RowKit

theorem check_any (n : Int) (w : World) : Calls Tryd.prog 20 #[.int .i64 n] w fun e w' => e = .returned (.int .i64 (chk n)) ∧ w = w' := by
  by_cases h1 : n < 0
  · rw [chk_low h1]
    go_enter Tryd.func20, Tryd.ntmps20
    go_wp2
    go_ret
    exact ⟨rfl, rfl⟩
  · by_cases h2 : 1099511627775 < n
    · rw [chk_high h2]
      go_enter Tryd.func20, Tryd.ntmps20
      go_wp2
      go_ret
      exact ⟨rfl, rfl⟩
    · rw [chk_ok (by omega) (by omega)]
      go_enter Tryd.func20, Tryd.ntmps20
      go_wp2
      go_ret
      exact ⟨rfl, rfl⟩

end Go.Proofs.YtcjmljpfhabmnaaDoor
namespace Go.Proofs.YtcjmljpfhabmnaaDoor
open Go.RowKit

theorem bits_and_i64_nat (a b : Nat) (ha : a < 9223372036854775808) (hb : b < 9223372036854775808) : bits .and .i64 (a : Int) (b : Int) = ((a &&& b : Nat) : Int) := by
  have hx : a &&& b < 2 ^ 63 := Nat.and_lt_two_pow _ (by omega)
  have h1 : (BitVec.ofInt 64 (a : Int)).toNat = a := by
    rw [BitVec.ofInt_natCast, BitVec.toNat_ofNat]; exact Nat.mod_eq_of_lt (by omega)
  have h2 : (BitVec.ofInt 64 (b : Int)).toNat = b := by
    rw [BitVec.ofInt_natCast, BitVec.toNat_ofNat]; exact Nat.mod_eq_of_lt (by omega)
  show IntKind.i64.wrap ((BitVec.ofInt 64 (a : Int) &&& BitVec.ofInt 64 (b : Int)).toNat : Int) = _
  rw [BitVec.toNat_and, h1, h2]
  simp [IntKind.wrap, IntKind.signed, IntKind.bits]
  omega

/-- A byte stands m times, one behind the other. -/
def rep (m : Nat) : Nat → Nat
  | 0 => 0
  | k + 1 => 256 * rep m k + m
theorem and_byte (q r m s : Nat) (hr : r < 256) (hs : s < 256) : (256 * q + r) &&& (256 * m + s) = 256 * (q &&& m) + (r &&& s) := by
  apply Nat.eq_of_testBit_eq
  intro i
  have hrs : r &&& s < 2 ^ 8 := Nat.and_lt_two_pow _ (by omega)
  have e (a b : Nat) (hb : b < 2 ^ 8) : (256 * a + b).testBit i = if i < 8 then b.testBit i else a.testBit (i - 8) := by
    have := Nat.testBit_two_pow_mul_add a hb i
    simpa using this
  rw [Nat.testBit_and, e q r hr, e m s hs, e _ _ hrs]
  by_cases h : i < 8
  · simp [h]
  · simp [h]

def b1 (r : Nat) : Nat := (r / 2 &&& 85) + (r &&& 85)
def b2 (r : Nat) : Nat := (r / 4 &&& 51) + (r &&& 51)
def b3 (r : Nat) : Nat := (r / 16 + r) &&& 15
def pop8 (r : Nat) : Nat := b3 (b2 (b1 r))
def S1 (k x : Nat) : Nat := (x / 2 &&& rep 85 k) + (x &&& rep 85 k)
def S2 (k x : Nat) : Nat := (x / 4 &&& rep 51 k) + (x &&& rep 51 k)
def S3 (k x : Nat) : Nat := (x / 16 + x) &&& rep 15 k

theorem b1_mask : ∀ r, r < 256 → (r / 2 &&& 85) = (128 + r / 2 &&& 85) ∧ b1 r < 256 := by decide +kernel
theorem b2_mask : ∀ r, r < 256 → (r / 4 &&& 51) = (64 + r / 4 &&& 51) ∧ (r / 4 &&& 51) = (128 + r / 4 &&& 51) ∧ (r / 4 &&& 51) = (192 + r / 4 &&& 51) ∧ b2 r < 256 ∧ b2 r % 16 ≤ 6 ∧ b2 (b1 r) ≤ 68 ∧ pop8 r ≤ 8 := by decide +kernel
theorem b3_mask : ∀ r, r ≤ 68 → ∀ t, t ≤ 6 → (16 * t + (r / 16 + r) &&& 15) = b3 r := by decide +kernel
theorem S1_step (k q r : Nat) (hr : r < 256) : S1 (k + 1) (256 * q + r) = 256 * S1 k q + b1 r := by
  have h2 : (256 * q + r) / 2 = 256 * (q / 2) + (128 * (q % 2) + r / 2) := by omega
  have rs : rep 85 (k + 1) = 256 * rep 85 k + 85 := rfl
  unfold S1
  rw [rs, h2, and_byte _ _ _ _ (by omega) (by omega), and_byte _ _ _ _ (by omega) (by omega)]
  have h3 : (128 * (q % 2) + r / 2 &&& 85) = (r / 2 &&& 85) := by
    rcases Nat.mod_two_eq_zero_or_one q with h | h <;> rw [h]
    · simp
    · exact (b1_mask r hr).1.symm
  rw [h3]
  show _ = 256 * ((q / 2 &&& rep 85 k) + (q &&& rep 85 k)) + ((r / 2 &&& 85) + (r &&& 85))
  omega
theorem S2_step (k q r : Nat) (hr : r < 256) : S2 (k + 1) (256 * q + r) = 256 * S2 k q + b2 r := by
  have h2 : (256 * q + r) / 4 = 256 * (q / 4) + (64 * (q % 4) + r / 4) := by omega
  have rs : rep 51 (k + 1) = 256 * rep 51 k + 51 := rfl
  unfold S2
  rw [rs, h2, and_byte _ _ _ _ (by omega) (by omega), and_byte _ _ _ _ (by omega) (by omega)]
  have h3 : (64 * (q % 4) + r / 4 &&& 51) = (r / 4 &&& 51) := by
    obtain ⟨m1, m2, m3, _⟩ := b2_mask r hr
    rcases (show q % 4 = 0 ∨ q % 4 = 1 ∨ q % 4 = 2 ∨ q % 4 = 3 by omega) with h | h | h | h <;> rw [h]
    · simp
    · exact m1.symm
    · exact m2.symm
    · exact m3.symm
  rw [h3]
  show _ = 256 * ((q / 4 &&& rep 51 k) + (q &&& rep 51 k)) + ((r / 4 &&& 51) + (r &&& 51))
  omega
theorem S3_step (k q r : Nat) (hr : r ≤ 68) (hq : q % 16 ≤ 6) : S3 (k + 1) (256 * q + r) = 256 * S3 k q + b3 r := by
  have h2 : (256 * q + r) / 16 + (256 * q + r) = 256 * (q / 16 + q) + (16 * (q % 16) + (r / 16 + r)) := by omega
  have rs : rep 15 (k + 1) = 256 * rep 15 k + 15 := rfl
  unfold S3
  rw [rs, h2, and_byte _ _ _ _ (by omega) (by omega), b3_mask r hr _ hq]
theorem S2_low (k q : Nat) : S2 k q % 16 ≤ 6 := by
  cases k with
  | zero => simp [S2, rep]
  | succ k =>
    have h := S2_step k (q / 256) (q % 256) (Nat.mod_lt _ (by omega))
    have h1 := (b2_mask (q % 256) (Nat.mod_lt _ (by omega))).2.2.2.2.1
    have e : 256 * (q / 256) + q % 256 = q := by omega
    rw [e] at h
    omega
/-- Three rounds of the count: each byte holds the count of its bits. -/
def T (k x : Nat) : Nat := S3 k (S2 k (S1 k x))
theorem T_step (k q r : Nat) (hr : r < 256) : T (k + 1) (256 * q + r) = 256 * T k q + pop8 r := by
  unfold T
  rw [S1_step k q r hr, S2_step k _ _ (b1_mask r hr).2, S3_step k _ _ (b2_mask r hr).2.2.2.2.2.1 (S2_low _ _)]
  rfl
theorem T_zero (k : Nat) : T k 0 = 0 := by
  simp [T, S1, S2, S3]

theorem pop8_zero : ∀ r, r < 256 → pop8 r = 0 → r = 0 := by decide +kernel
theorem pop8_one : ∀ r, r < 256 → pop8 r = 1 → r = 1 ∨ r = 2 ∨ r = 4 ∨ r = 8 ∨ r = 16 ∨ r = 32 ∨ r = 64 ∨ r = 128 := by decide +kernel

/-- The five bytes of a number below 2^40, and its count byte by byte. -/
theorem T_bytes (x : Nat) (hx : x < 1099511627776) : ∃ r0 r1 r2 r3 r4, (r0 < 256 ∧ r1 < 256 ∧ r2 < 256 ∧ r3 < 256 ∧ r4 < 256) ∧ x = r0 + 256 * r1 + 65536 * r2 + 16777216 * r3 + 4294967296 * r4 ∧
    T 8 x = pop8 r0 + 256 * pop8 r1 + 65536 * pop8 r2 + 16777216 * pop8 r3 + 4294967296 * pop8 r4 := by
  refine ⟨x % 256, x / 256 % 256, x / 65536 % 256, x / 16777216 % 256, x / 4294967296, by omega, by omega, ?_⟩
  have e0 : x = 256 * (x / 256) + x % 256 := by omega
  have e1 : x / 256 = 256 * (x / 65536) + x / 256 % 256 := by omega
  have e2 : x / 65536 = 256 * (x / 16777216) + x / 65536 % 256 := by omega
  have e3 : x / 16777216 = 256 * (x / 4294967296) + x / 16777216 % 256 := by omega
  have e4 : x / 4294967296 = 256 * 0 + x / 4294967296 := by omega
  have t0 : T 8 (256 * (x / 256) + x % 256) = 256 * T 7 (x / 256) + pop8 (x % 256) := T_step 7 _ _ (by omega)
  have t1 : T 7 (256 * (x / 65536) + x / 256 % 256) = 256 * T 6 (x / 65536) + pop8 (x / 256 % 256) := T_step 6 _ _ (by omega)
  have t2 : T 6 (256 * (x / 16777216) + x / 65536 % 256) = 256 * T 5 (x / 16777216) + pop8 (x / 65536 % 256) := T_step 5 _ _ (by omega)
  have t3 : T 5 (256 * (x / 4294967296) + x / 16777216 % 256) = 256 * T 4 (x / 4294967296) + pop8 (x / 16777216 % 256) := T_step 4 _ _ (by omega)
  have t4 : T 4 (256 * 0 + x / 4294967296) = 256 * T 3 0 + pop8 (x / 4294967296) := T_step 3 _ _ (by omega)
  rw [← e0] at t0
  rw [← e1] at t1
  rw [← e2] at t2
  rw [← e3] at t3
  rw [← e4, T_zero] at t4
  rw [t0, t1, t2, t3, t4]
  omega

/-- The last rounds: the bytes are added. -/
def tailN (c : Nat) : Nat := ((c + c / 256) + (c + c / 256) / 65536) + ((c + c / 256) + (c + c / 256) / 65536) / 4294967296
theorem tail_sum (p0 p1 p2 p3 p4 : Nat) (h0 : p0 ≤ 8) (h1 : p1 ≤ 8) (h2 : p2 ≤ 8) (h3 : p3 ≤ 8) (h4 : p4 ≤ 8) :
    tailN (p0 + 256 * p1 + 65536 * p2 + 16777216 * p3 + 4294967296 * p4) % 128 = p0 + p1 + p2 + p3 + p4 := by
  unfold tailN
  have c1 : (p0 + 256 * p1 + 65536 * p2 + 16777216 * p3 + 4294967296 * p4) / 256 = p1 + 256 * p2 + 65536 * p3 + 16777216 * p4 := by omega
  rw [c1]
  have c2 : (p0 + 256 * p1 + 65536 * p2 + 16777216 * p3 + 4294967296 * p4 + (p1 + 256 * p2 + 65536 * p3 + 16777216 * p4)) / 65536 = (p2 + p3) + 256 * (p3 + p4) + 65536 * p4 := by omega
  rw [c2]
  have c3 : (p0 + 256 * p1 + 65536 * p2 + 16777216 * p3 + 4294967296 * p4 + (p1 + 256 * p2 + 65536 * p3 + 16777216 * p4) + ((p2 + p3) + 256 * (p3 + p4) + 65536 * p4)) / 4294967296 = p4 := by omega
  rw [c3]
  omega

/-- The count of a number below 2^40. -/
def cntN (x : Nat) : Nat := tailN (T 8 x) % 128
theorem and_127 (x : Nat) : x &&& 127 = x % 128 := Nat.and_two_pow_sub_one_eq_mod x 7
theorem cnt_two (x : Nat) (hx : x < 1099511627776) (h : cntN x = 1) : ∃ k, k < 40 ∧ x = 2 ^ k := by
  obtain ⟨r0, r1, r2, r3, r4, ⟨l0, l1, l2, l3, l4⟩, e, ht⟩ := T_bytes x hx
  unfold cntN at h
  rw [ht, tail_sum _ _ _ _ _ (b2_mask r0 l0).2.2.2.2.2.2 (b2_mask r1 l1).2.2.2.2.2.2 (b2_mask r2 l2).2.2.2.2.2.2 (b2_mask r3 l3).2.2.2.2.2.2 (b2_mask r4 l4).2.2.2.2.2.2] at h
  have z0 := pop8_zero r0 l0
  have z1 := pop8_zero r1 l1
  have z2 := pop8_zero r2 l2
  have z3 := pop8_zero r3 l3
  have z4 := pop8_zero r4 l4
  have o0 := pop8_one r0 l0
  have o1 := pop8_one r1 l1
  have o2 := pop8_one r2 l2
  have o3 := pop8_one r3 l3
  have o4 := pop8_one r4 l4
  rcases (show pop8 r0 = 1 ∨ pop8 r1 = 1 ∨ pop8 r2 = 1 ∨ pop8 r3 = 1 ∨ pop8 r4 = 1 by omega) with g | g | g | g | g
  · have := o0 g
    have := z1 (by omega); have := z2 (by omega); have := z3 (by omega); have := z4 (by omega)
    rcases o0 g with g | g | g | g | g | g | g | g
    · exact ⟨0, by omega, by omega⟩
    · exact ⟨1, by omega, by omega⟩
    · exact ⟨2, by omega, by omega⟩
    · exact ⟨3, by omega, by omega⟩
    · exact ⟨4, by omega, by omega⟩
    · exact ⟨5, by omega, by omega⟩
    · exact ⟨6, by omega, by omega⟩
    · exact ⟨7, by omega, by omega⟩
  · have := z0 (by omega); have := z2 (by omega); have := z3 (by omega); have := z4 (by omega)
    rcases o1 g with g | g | g | g | g | g | g | g
    · exact ⟨8, by omega, by omega⟩
    · exact ⟨9, by omega, by omega⟩
    · exact ⟨10, by omega, by omega⟩
    · exact ⟨11, by omega, by omega⟩
    · exact ⟨12, by omega, by omega⟩
    · exact ⟨13, by omega, by omega⟩
    · exact ⟨14, by omega, by omega⟩
    · exact ⟨15, by omega, by omega⟩
  · have := z0 (by omega); have := z1 (by omega); have := z3 (by omega); have := z4 (by omega)
    rcases o2 g with g | g | g | g | g | g | g | g
    · exact ⟨16, by omega, by omega⟩
    · exact ⟨17, by omega, by omega⟩
    · exact ⟨18, by omega, by omega⟩
    · exact ⟨19, by omega, by omega⟩
    · exact ⟨20, by omega, by omega⟩
    · exact ⟨21, by omega, by omega⟩
    · exact ⟨22, by omega, by omega⟩
    · exact ⟨23, by omega, by omega⟩
  · have := z0 (by omega); have := z1 (by omega); have := z2 (by omega); have := z4 (by omega)
    rcases o3 g with g | g | g | g | g | g | g | g
    · exact ⟨24, by omega, by omega⟩
    · exact ⟨25, by omega, by omega⟩
    · exact ⟨26, by omega, by omega⟩
    · exact ⟨27, by omega, by omega⟩
    · exact ⟨28, by omega, by omega⟩
    · exact ⟨29, by omega, by omega⟩
    · exact ⟨30, by omega, by omega⟩
    · exact ⟨31, by omega, by omega⟩
  · have := z0 (by omega); have := z1 (by omega); have := z2 (by omega); have := z3 (by omega)
    rcases o4 g with g | g | g | g | g | g | g | g
    · exact ⟨32, by omega, by omega⟩
    · exact ⟨33, by omega, by omega⟩
    · exact ⟨34, by omega, by omega⟩
    · exact ⟨35, by omega, by omega⟩
    · exact ⟨36, by omega, by omega⟩
    · exact ⟨37, by omega, by omega⟩
    · exact ⟨38, by omega, by omega⟩
    · exact ⟨39, by omega, by omega⟩
theorem two_cnt : ∀ k, k < 40 → cntN (2 ^ k) = 1 ∧ 2 ^ k ≤ 549755813888 ∧ 0 < 2 ^ k ∧ Lib.ctz 64 (2 ^ k) = k := by decide +kernel
theorem T_le (x : Nat) (hx : x < 1099511627776) : T 8 x ≤ 34901295112 := by
  obtain ⟨r0, r1, r2, r3, r4, ⟨l0, l1, l2, l3, l4⟩, e, ht⟩ := T_bytes x hx
  have := (b2_mask r0 l0).2.2.2.2.2.2
  have := (b2_mask r1 l1).2.2.2.2.2.2
  have := (b2_mask r2 l2).2.2.2.2.2.2
  have := (b2_mask r3 l3).2.2.2.2.2.2
  have := (b2_mask r4 l4).2.2.2.2.2.2
  omega
end Go.Proofs.YtcjmljpfhabmnaaDoor
