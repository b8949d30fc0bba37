/- The contract of trefoilref01.Two in the seat YtnlempddoiidiaaDoor.
   trefoilref12.Size, Check, At in the seat YtnlempddoiidiaaDoor: their contracts.
   The contract of trefoilref02.Ints in the seat YtnlempddoiidiaaDoor.
   trefoilref12.Same and Items in the seat YtnlempddoiidiaaDoor: their contracts.
   The plain arithmetic of the layer num in the seat YtnlempddoiidiaaDoor: what each call comes to, as functions of integers. No statement is proved here; it imports nothing of the program.
   The contract of num.Check, in the seat YtnlempddoiidiaaDoor (out of NumFirst).
   No statement is proved here. -/
import Derived.Test.YtnlempddoiidiaaDoorChecked
import Derived.Test.YtnlempddoiidiaaDoorZM1
import Derived.KernelRfl
import Derived.WalkKit
import Derived.WalkSmall
import Derived.Handy
import Derived.Lib.Hide
import Derived.Test.YtnlempddoiidiaaDoorZM3
import Derived.BigQuiet
import Derived.Deep.QuietTactic
import Derived.StillTailTactics
import Derived.Deep.RegionWith
set_option linter.unusedSimpArgs false
set_option linter.unusedVariables false
namespace Go.Proofs.YtnlempddoiidiaaDoor
open Go.RowKit

/-- The power of two, asked one by one. -/
theorem rtwo_yes (k : Nat) (hk : k < 40) (w : World) :
    Calls Tryd.prog 34 #[.int .i64 ((2 ^ k : Nat) : Int)] w fun e w' => e = .returned (.tuple #[.int .i64 k, .bool true]) ∧ w = w' := by
  obtain ⟨x, hx⟩ : ∃ x, x = 2 ^ k := ⟨_, rfl⟩
  rw [← hx]
  have HX := Lib.hid hx
  clear hx
  go_enter Tryd.func34, Tryd.ntmps34
  go_wp2
  go_loop [4, 5] (fun p i => ∃ j P : Nat, j ≤ k ∧ P ≤ 549755813888 ∧ Hid (P = 2 ^ j) ∧ i = .int .i64 j ∧ p = .int .i64 P) (fun _ i => k - (intOf i).toNat)
  case atStart => exact ⟨0, 1, by omega, by omega, Lib.hid rfl, rfl, rfl⟩
  case round =>
    obtain ⟨j, P, hj, hP, hpow, rfl, rfl⟩ := hrel
    by_cases hjk : j = k
    · have hb : ((P : Int) == (x : Int)) = true := by rw [beq_iff_eq, hpow.out, HX.out, hjk]
      subst hjk
      go_wp2
      go_ret2
      exact ⟨rfl, rfl⟩
    · have hlt : 2 ^ j < 2 ^ k := Nat.pow_lt_pow_right (by omega) (by omega)
      have hle : 2 ^ (j + 1) ≤ 2 ^ 39 := Nat.pow_le_pow_right (by omega) (by omega)
      rw [Nat.pow_succ] at hle
      rw [← hpow.out, ← HX.out] at hlt
      rw [← hpow.out] at hle
      have hb : ((P : Int) == (x : Int)) = false := by rw [beq_eq_false_iff_ne]; omega
      have hle' : P * 2 ≤ 549755813888 := hle
      clear hle hlt
      go_wp2
      go_round
      case rel => exact ⟨j + 1, 2 * P, by omega, by omega, Lib.hid (by rw [Nat.pow_succ, ← hpow.out, Nat.mul_comm]), by go_num, by go_num⟩
      case measure => simp [intOf]; omega
theorem rtwo_no (n : Int) (w : World) (h : ∀ k : Nat, k < 40 → n ≠ ((2 ^ k : Nat) : Int)) :
    Calls Tryd.prog 34 #[.int .i64 n] w fun e w' => e = .returned (.tuple #[.int .i64 0, .bool false]) ∧ w = w' := by
  have H := Lib.hid h
  clear h
  go_enter Tryd.func34, Tryd.ntmps34
  go_wp2
  go_loop [4, 5] (fun p i => ∃ j P : Nat, j ≤ 40 ∧ P ≤ 1099511627776 ∧ Hid (P = 2 ^ j) ∧ i = .int .i64 j ∧ p = .int .i64 P) (fun _ i => 40 - (intOf i).toNat)
  case atStart => exact ⟨0, 1, by omega, by omega, Lib.hid rfl, rfl, rfl⟩
  case round =>
    obtain ⟨j, P, hj, hP, hpow, rfl, rfl⟩ := hrel
    by_cases hjk : j < 40
    · have hne := H.out j hjk
      rw [← hpow.out] at hne
      have hle : 2 ^ (j + 1) ≤ 2 ^ 40 := Nat.pow_le_pow_right (by omega) (by omega)
      rw [Nat.pow_succ, ← hpow.out] at hle
      have hb : ((P : Int) == n) = false := by rw [beq_eq_false_iff_ne]; omega
      have hle' : P * 2 ≤ 1099511627776 := hle
      clear hle hne
      go_wp2
      go_round
      case rel => exact ⟨j + 1, 2 * P, by omega, by omega, Lib.hid (by rw [Nat.pow_succ, ← hpow.out, Nat.mul_comm]), by go_num, by go_num⟩
      case measure => simp [intOf]; omega
    · go_wp2
      go_ret2
      exact ⟨rfl, rfl⟩
end Go.Proofs.YtnlempddoiidiaaDoor
set_option linter.unusedVariables false
namespace Go.Proofs.YtnlempddoiidiaaDoor
open Go Go.RowKit

theorem rtwo_d (n : Int) : ∃ (k : Int) (b : Bool), (b = true ∧ n ≤ 64 ↔ SizeOk n) ∧ ∀ w : World, Calls Tryd.prog 34 #[.int .i64 n] w fun e w' => e = .returned (.tuple #[.int .i64 k, .bool b]) ∧ w = w' := by
  by_cases h : ∃ k : Nat, k < 40 ∧ n = ((2 ^ k : Nat) : Int)
  · obtain ⟨k, hk, rfl⟩ := h
    refine ⟨k, true, ⟨fun ⟨_, q⟩ => ?_, fun q => ⟨rfl, q.bounds.2⟩⟩, fun w => rtwo_yes k hk w⟩
    have h7 : k < 7 := by
      rcases Nat.lt_or_ge k 7 with h | h
      · exact h
      · have := Nat.pow_le_pow_right (show 0 < 2 by decide) h
        omega
    exact SizeOk.of_pow h7
  · refine ⟨0, false, ⟨fun q => absurd q.1 (by decide), fun q => ?_⟩, fun w => rtwo_no n w fun k hk e => h ⟨k, hk, e⟩⟩
    obtain ⟨k, hk, e⟩ := q.pow
    exact absurd ⟨k, by omega, e⟩ h
set_option maxHeartbeats 1000000 in
theorem rsize_any (n : Int) (w : World) : Calls Tryd.prog 22 #[.int .i64 n] w fun e w' => e = .returned (.bool (decide (SizeOk n))) ∧ w = w' := by
  obtain ⟨k, b, hb, C⟩ := rtwo_d n
  have HC := Lib.hid C
  clear C
  obtain ⟨r, hr⟩ : ∃ r, r = decide (SizeOk n) := ⟨_, rfl⟩
  rw [← hr]
  cases b with
  | false =>
    have e : r = false := by rw [hr]; exact decide_eq_false fun q => absurd (hb.mpr q).1 (by decide)
    subst e
    clear hb hr
    go_enter Tryd.func22, Tryd.ntmps22
    go_wp2_with (go_at_call 34; refine (HC.out _).mono ?_; rintro e w' ⟨rfl, rfl⟩)
    go_ret
    exact ⟨rfl, rfl⟩
  | true =>
    by_cases h : n ≤ 64
    · have e : r = true := by rw [hr]; exact decide_eq_true (hb.mp ⟨rfl, h⟩)
      subst e
      have h2 : decide (n ≤ 64) = true := decide_eq_true h
      clear hb hr
      go_enter Tryd.func22, Tryd.ntmps22
      go_wp2_with (go_at_call 34; refine (HC.out _).mono ?_; rintro e w' ⟨rfl, rfl⟩)
      go_ret
      exact ⟨rfl, rfl⟩
    · have e : r = false := by rw [hr]; exact decide_eq_false fun q => h (hb.mpr q).2
      subst e
      have h2 : decide (n ≤ 64) = false := decide_eq_false h
      clear hb hr
      go_enter Tryd.func22, Tryd.ntmps22
      go_wp2_with (go_at_call 34; refine (HC.out _).mono ?_; rintro e w' ⟨rfl, rfl⟩)
      go_ret
      exact ⟨rfl, rfl⟩
set_option maxHeartbeats 2000000 in
theorem rcheck_d (A : Option Addr) (n c : Nat) (T B : Int) (w : World) (hn : n ≤ 1000) :
    Calls Tryd.prog 19 #[.agg #[.slice A n c, .int .i64 T, .int .i64 B]] w fun e w' => e = .returned (.bool (decide (ChkQ n T B))) ∧ Below w.heap.size w w' := by
  have CS := Lib.hid (fun W => rsize_any (n : Int) W)
  have HB := Lib.hid (below_alloc (w := w) (.cells #[.slice A n c, .int .i64 T, .int .i64 B] 24))
  obtain ⟨r, hr⟩ : ∃ r, r = decide (ChkQ n T B) := ⟨_, rfl⟩
  rw [← hr]
  by_cases h1 : ¬ (SizeOk n)
  · obtain rfl : r = false := by rw [hr]; exact decide_eq_false fun q => h1 q.1
    rw [decide_eq_false h1] at CS
    clear hr h1
    go_enter Tryd.func19, Tryd.ntmps19
    go_wp2_with (go_at_call 22; refine (CS.out _).mono ?_; rintro e w' ⟨rfl, rfl⟩)
    go_ret
    exact ⟨rfl, HB.out⟩
  replace h1 := Classical.not_not.mp h1
  rw [decide_eq_true h1] at CS
  by_cases h2 : ¬ (0 ≤ T)
  · obtain rfl : r = false := by rw [hr]; exact decide_eq_false fun q => h2 q.2.1
    have e2 : decide (0 ≤ T) = false := decide_eq_false h2
    clear hr h1
    go_enter Tryd.func19, Tryd.ntmps19
    go_wp2_with (go_at_call 22; refine (CS.out _).mono ?_; rintro e w' ⟨rfl, rfl⟩)
    go_ret
    exact ⟨rfl, HB.out⟩
  replace h2 := Classical.not_not.mp h2
  have e2 : decide (0 ≤ T) = true := decide_eq_true h2
  by_cases h3 : ¬ (T ≤ 1099511627775)
  · obtain rfl : r = false := by rw [hr]; exact decide_eq_false fun q => h3 q.2.2.1
    have e3 : decide (T ≤ 1099511627775) = false := decide_eq_false h3
    clear hr h1
    go_enter Tryd.func19, Tryd.ntmps19
    go_wp2_with (go_at_call 22; refine (CS.out _).mono ?_; rintro e w' ⟨rfl, rfl⟩)
    go_ret
    exact ⟨rfl, HB.out⟩
  replace h3 := Classical.not_not.mp h3
  have e3 : decide (T ≤ 1099511627775) = true := decide_eq_true h3
  by_cases h4 : ¬ (T - 1 ≤ B)
  · obtain rfl : r = false := by rw [hr]; exact decide_eq_false fun q => h4 q.2.2.2.1
    have e4 : decide (T - 1 ≤ B) = false := decide_eq_false h4
    clear hr h1
    go_enter Tryd.func19, Tryd.ntmps19
    go_wp2_with (go_at_call 22; refine (CS.out _).mono ?_; rintro e w' ⟨rfl, rfl⟩)
    go_ret
    exact ⟨rfl, HB.out⟩
  replace h4 := Classical.not_not.mp h4
  have e4 : decide (T - 1 ≤ B) = true := decide_eq_true h4
  by_cases h5 : B ≤ T + n
  · obtain rfl : r = true := by rw [hr]; exact decide_eq_true ⟨h1, h2, h3, h4, h5⟩
    have e5 : decide (B ≤ T + n) = true := decide_eq_true h5
    clear hr h1
    go_enter Tryd.func19, Tryd.ntmps19
    go_wp2_with (go_at_call 22; refine (CS.out _).mono ?_; rintro e w' ⟨rfl, rfl⟩)
    go_ret
    exact ⟨rfl, HB.out⟩
  · obtain rfl : r = false := by rw [hr]; exact decide_eq_false fun q => h5 q.2.2.2.2
    have e5 : decide (B ≤ T + n) = false := decide_eq_false h5
    clear hr h1
    go_enter Tryd.func19, Tryd.ntmps19
    go_wp2_with (go_at_call 22; refine (CS.out _).mono ?_; rintro e w' ⟨rfl, rfl⟩)
    go_ret
    exact ⟨rfl, HB.out⟩
/-- The place of a number, as a number. -/
def plN (n : Nat) (k : Int) : Nat := (if k < 0 then 0 else k).toNat % n
theorem placeD_eq (R : List Int) (k : Int) : placeD R k = R.getD (plN R.length k) 0 := rfl
set_option maxHeartbeats 2000000 in
theorem rat_any {A : Option Addr} {n c : Nat} {R : List Int} (T B k : Int) (w : World) (h : IsQ w A n c R) (hn : 0 < n) (hk1 : k ≤ 9223372036854775807) :
    Calls Tryd.prog 33 #[.agg #[.slice A n c, .int .i64 T, .int .i64 B], .int .i64 k] w fun e w' => e = .returned (.int .i64 (placeD R k)) ∧ Below w.heap.size w w' := by
  have HB := Lib.hid (fun N => below_drewN (below_alloc (w := w) (.cells #[.slice A n c, .int .i64 T, .int .i64 B] 24)) N)
  have hl := h.ln
  obtain ⟨p, hp⟩ : ∃ p, p = plN n k := ⟨_, rfl⟩
  have hpn : p < n := by rw [hp]; exact Nat.mod_lt _ hn
  obtain ⟨b, off, z, rfl, hb, hz, hc⟩ := h.ints.at_ (k := p) (by rw [h.hn]; exact hpn)
  have e : placeD R k = z := by rw [placeD_eq, h.hn, ← hp, List.getD_eq_getElem?_getD, hz]; rfl
  rw [e]
  clear hz e h
  by_cases h0 : k < 0
  · obtain rfl : p = 0 := by rw [hp]; unfold plN; rw [if_pos h0]; simp
    rw [Nat.add_zero] at hc
    clear hp
    go_enter Tryd.func33, Tryd.ntmps33
    go_wp2
    go_region
    go_wp2
    go_ret
    exact ⟨rfl, HB.out _⟩
  · obtain ⟨q, rfl⟩ : ∃ q : Nat, k = q := ⟨k.toNat, by omega⟩
    have hp2 : p = q % n := by rw [hp]; unfold plN; rw [if_neg h0]; simp
    have hmod : Int.tmod (q : Int) (n : Int) = (p : Int) := by rw [hp2]; rfl
    clear hp hp2
    go_enter Tryd.func33, Tryd.ntmps33
    go_wp2
    go_region
    go_wp2
    go_ret
    exact ⟨rfl, HB.out _⟩
end Go.Proofs.YtnlempddoiidiaaDoor
set_option linter.unusedVariables false
namespace Go.Proofs.YtnlempddoiidiaaDoor
open Go.RowKit

theorem take_snoc' {α : Type} {l : List α} {j : Nat} {a : α} (h : l[j]? = some a) : l.take (j + 1) = l.take j ++ [a] := by
  rw [List.take_add_one, h]
  rfl
theorem take_ext {α : Type} {xs ys : List α} (h : xs.length = ys.length) (e : xs.take xs.length = ys.take xs.length) : xs = ys := by
  rw [List.take_length, h, List.take_length] at e
  exact e
theorem take_next {α : Type} {xs ys : List α} {j : Nat} {a : α} (e : xs.take j = ys.take j) (h1 : xs[j]? = some a) (h2 : ys[j]? = some a) : xs.take (j + 1) = ys.take (j + 1) := by
  rw [take_snoc' h1, take_snoc' h2, e]
theorem take_part {α : Type} {xs ys : List α} {j : Nat} {a b : α} (h1 : xs[j]? = some a) (h2 : ys[j]? = some b) (hne : a ≠ b) : xs ≠ ys := by
  rintro rfl
  rw [h1] at h2
  exact hne (Option.some.inj h2)

theorem drews (w : World) (N n : Nat) : (w.drewN N).drewN n = w.drewN (N + n) := by simp
set_option maxHeartbeats 800000 in
theorem ints_any (B : Nat) (A1 A2 : Option Addr) (c1 c2 : Nat) (xs ys : List Int) (w : World) (hx : xs.length ≤ 1000) (hy : ys.length ≤ 1000) (h1 : Ints w B A1 xs) (h2 : Ints w B A2 ys) :
    Calls Tryd.prog 20 #[.slice A1 xs.length c1, .slice A2 ys.length c2] w fun e w' => e = .returned (.bool (decide (xs = ys))) ∧ ∃ N, w' = w.drewN N := by
  obtain ⟨n, hn⟩ : ∃ n, n = xs.length := ⟨_, rfl⟩
  obtain ⟨m, hm⟩ : ∃ m, m = ys.length := ⟨_, rfl⟩
  rw [← hn, ← hm]
  rw [← hn] at hx
  rw [← hm] at hy
  have HN := Lib.hid hn
  have HM := Lib.hid hm
  have H1 := Lib.hid h1
  have H2 := Lib.hid h2
  clear hn hm h1 h2
  by_cases hnm : n = m
  · subst hnm
    go_enter Tryd.func20, Tryd.ntmps20
    go_wp2
    go_loopw [5] (fun i wr => ∃ j N : Nat, j ≤ n ∧ i = .int .i64 j ∧ Hid (xs.take j = ys.take j) ∧ wr = w.drewN N) (fun i _ => n - (intOf i).toNat)
    case atStart => exact ⟨0, 0, Nat.zero_le _, rfl, Lib.hid rfl, rfl⟩
    case round =>
      obtain ⟨j, N, hj, rfl, HT, rfl⟩ := hrel
      by_cases hlt : j < n
      · obtain ⟨b1, o1, x, rfl, _, hx1, hc1⟩ := H1.out.at_ (k := j) (by rw [← HN.out]; exact hlt)
        obtain ⟨b2, o2, y, rfl, _, hy1, hc2⟩ := H2.out.at_ (k := j) (by rw [← HM.out]; exact hlt)
        have HX := Lib.hid hx1
        have HY := Lib.hid hy1
        clear hx1 hy1
        by_cases hxy : x = y
        · subst hxy
          go_wp2
          go_quiet (fail)
          go_wp2
          go_roundw
          case rel => exact ⟨j + 1, _, by omega, by go_num, Lib.hid (take_next HT.out HX.out HY.out), rfl⟩
          case measure => simp [intOf]; omega
        · have hb : (x != y) = true := by simpa using hxy
          have HXY := Lib.hid hxy
          clear hxy
          go_wp2
          go_quiet (fail)
          go_wp2
          go_ret
          exact ⟨by rw [decide_eq_false (take_part HX.out HY.out HXY.out)]; rfl, _, drews w N _⟩
      · obtain rfl : j = n := by omega
        go_wp2
        go_ret
        exact ⟨by rw [decide_eq_true (take_ext (by rw [← HN.out, ← HM.out]) (by rw [← HN.out]; exact HT.out))]; rfl, _, rfl⟩
  · have hb : ((n : Int) != (m : Int)) = true := by simp; omega
    go_enter Tryd.func20, Tryd.ntmps20
    go_wp2
    go_ret
    exact ⟨by rw [decide_eq_false (fun e : xs = ys => hnm (by rw [HN.out, HM.out, e]))]; rfl, 0, rfl⟩
end Go.Proofs.YtnlempddoiidiaaDoor
set_option linter.unusedVariables false
namespace Go.Proofs.YtnlempddoiidiaaDoor
open Go Go.RowKit

section
variable {A : Option Addr} {n c : Nat} {R : List Int} {A' : Option Addr} {n' c' : Nat} {R' : List Int}
def SameQ (R : List Int) (T B : Int) (R' : List Int) (T' B' : Int) : Prop := R = R' ∧ T = T' ∧ B = B'
instance (R : List Int) (T B : Int) (R' : List Int) (T' B' : Int) : Decidable (SameQ R T B R' T' B') := by unfold SameQ; infer_instance
theorem below2 {w : World} (o1 o2 : Obj) (N : Nat) : Below w.heap.size w (((w.alloc o1).alloc o2).drewN N) := below_drewN ((below_alloc o1).trans ((below_alloc (w := w.alloc o1) o2).mono (by simp))) N
set_option maxRecDepth 100000 in
set_option maxHeartbeats 4000000 in
theorem rsame_d (T B T' B' : Int) (w : World) (h : IsQ w A n c R) (h' : IsQ w A' n' c' R') :
    Calls Tryd.prog 14 #[.agg #[.slice A n c, .int .i64 T, .int .i64 B], .agg #[.slice A' n' c', .int .i64 T', .int .i64 B']] w fun e w' => e = .returned (.bool (decide (SameQ R T B R' T' B'))) ∧ Below w.heap.size w w' := by
  obtain ⟨w0, hw0⟩ : ∃ w0, w0 = (w.alloc (.cells #[.slice A n c, .int .i64 T, .int .i64 B] 24)).alloc (.cells #[.slice A' n' c', .int .i64 T', .int .i64 B'] 24) := ⟨_, rfl⟩
  have hb0 : Below w.heap.size w w0 := by rw [hw0]; exact below2 _ _ 0
  have C1 := ints_any w0.heap.size A A' c c' R R' w0 (by rw [h.hn]; exact h.ln) (by rw [h'.hn]; exact h'.ln) ((h.below hb0).ints) ((h'.below hb0).ints)
  rw [h.hn, h'.hn] at C1
  rw [hw0] at C1
  have HB := Lib.hid (fun N => below2 (w := w) (.cells #[.slice A n c, .int .i64 T, .int .i64 B] 24) (.cells #[.slice A' n' c', .int .i64 T', .int .i64 B'] 24) N)
  have HC1 := Lib.hid C1
  obtain ⟨r, hr⟩ : ∃ r, r = decide (SameQ R T B R' T' B') := ⟨_, rfl⟩
  rw [← hr]
  clear h h' hw0 C1 hb0
  by_cases h1 : ¬ R = R'
  · rw [decide_eq_false h1] at HC1
    obtain rfl : r = false := by rw [hr]; exact decide_eq_false fun q => h1 q.1
    clear h1 hr
    go_enter Tryd.func14, Tryd.ntmps14
    go_wp2_with fail
    refine HC1.out.mono ?_
    rintro e w' ⟨rfl, N, rfl⟩
    go_wp2
    go_ret
    exact ⟨rfl, HB.out N⟩
  replace h1 := Classical.not_not.mp h1
  rw [decide_eq_true h1] at HC1
  by_cases h2 : ¬ T = T'
  · obtain rfl : r = false := by rw [hr]; exact decide_eq_false fun q => h2 q.2.1
    have e2 : (T == T') = false := beq_eq_false_iff_ne.mpr h2
    clear h1 hr h2
    go_enter Tryd.func14, Tryd.ntmps14
    go_wp2_with fail
    refine HC1.out.mono ?_
    rintro e w' ⟨rfl, N, rfl⟩
    go_wp2
    go_ret
    exact ⟨rfl, HB.out N⟩
  replace h2 := Classical.not_not.mp h2
  have e2 : (T == T') = true := by rw [beq_iff_eq]; exact h2
  by_cases h3 : ¬ B = B'
  · obtain rfl : r = false := by rw [hr]; exact decide_eq_false fun q => h3 q.2.2
    have e3 : (B == B') = false := beq_eq_false_iff_ne.mpr h3
    clear h1 hr h2 h3
    go_enter Tryd.func14, Tryd.ntmps14
    go_wp2_with fail
    refine HC1.out.mono ?_
    rintro e w' ⟨rfl, N, rfl⟩
    go_wp2
    go_ret
    exact ⟨rfl, HB.out N⟩
  · replace h3 := Classical.not_not.mp h3
    obtain rfl : r = true := by rw [hr]; exact decide_eq_true ⟨h1, h2, h3⟩
    have e3 : (B == B') = true := by rw [beq_iff_eq]; exact h3
    clear h1 hr h2 h3
    go_enter Tryd.func14, Tryd.ntmps14
    go_wp2_with fail
    refine HC1.out.mono ?_
    rintro e w' ⟨rfl, N, rfl⟩
    go_wp2
    go_ret
    exact ⟨rfl, HB.out N⟩
end
end Go.Proofs.YtnlempddoiidiaaDoor
namespace Go.Proofs.YtnlempddoiidiaaDoor

/-- The error of one number: 10 below 0, 11 above 2^40 - 1, else 0. -/
def chk (n : Int) : Int := if n < 0 then 10 else if 1099511627775 < n then 11 else 0
/-- The first error of some. -/
def ff : List Int → Int
  | [] => 0
  | n :: l => if chk n = 0 then ff l else chk n
def total : List Int → Int
  | [] => 0
  | n :: l => n + total l

theorem chk_low {n : Int} (h : n < 0) : chk n = 10 := by unfold chk; rw [if_pos h]
theorem chk_high {n : Int} (h : 1099511627775 < n) : chk n = 11 := by unfold chk; rw [if_neg (by omega), if_pos h]
theorem chk_ok {n : Int} (h0 : 0 ≤ n) (h1 : n ≤ 1099511627775) : chk n = 0 := by unfold chk; rw [if_neg (by omega), if_neg (by omega)]
theorem chk_zero {n : Int} (h : chk n = 0) : 0 ≤ n ∧ n ≤ 1099511627775 := by
  by_cases h1 : n < 0
  · rw [chk_low h1] at h; omega
  · by_cases h2 : 1099511627775 < n
    · rw [chk_high h2] at h; omega
    · omega
theorem chk_vals (n : Int) : chk n = 0 ∨ chk n = 10 ∨ chk n = 11 := by
  by_cases h1 : n < 0
  · rw [chk_low h1]; omega
  · by_cases h2 : 1099511627775 < n
    · rw [chk_high h2]; omega
    · rw [chk_ok (by omega) (by omega)]; omega
theorem ff_vals (l : List Int) : ff l = 0 ∨ ff l = 10 ∨ ff l = 11 := by
  induction l with
  | nil => exact .inl rfl
  | cons n l ih =>
    unfold ff
    by_cases h : chk n = 0
    · rw [if_pos h]; exact ih
    · rw [if_neg h]; exact chk_vals n
theorem ff_append (l r : List Int) : ff (l ++ r) = if ff l = 0 then ff r else ff l := by
  induction l with
  | nil => simp [ff]
  | cons n l ih =>
    by_cases h : chk n = 0
    · have e1 : ff (n :: l) = ff l := if_pos h
      have e2 : ff (n :: l ++ r) = ff (l ++ r) := if_pos h
      rw [e1, e2, ih]
    · have e1 : ff (n :: l) = chk n := if_neg h
      have e2 : ff (n :: l ++ r) = chk n := if_neg h
      rw [e1, e2, if_neg h]
theorem take_snoc {zs : List Int} {k : Nat} {z : Int} (h : zs[k]? = some z) : zs.take (k + 1) = zs.take k ++ [z] := by
  rw [List.take_add_one, h]; rfl
theorem ff_step {zs : List Int} {k : Nat} {z : Int} (h : zs[k]? = some z) (h0 : ff (zs.take k) = 0) : ff (zs.take (k + 1)) = chk z := by
  rw [take_snoc h, ff_append, if_pos h0]
  show (if chk z = 0 then ff [] else chk z) = chk z
  by_cases hc : chk z = 0
  · rw [if_pos hc, hc]; rfl
  · rw [if_neg hc]
theorem ff_early {zs : List Int} {k : Nat} {z : Int} (h : zs[k]? = some z) (h0 : ff (zs.take k) = 0) (hc : chk z ≠ 0) : ff zs = chk z := by
  have h1 := ff_step h h0
  have h2 := ff_append (zs.take (k + 1)) (zs.drop (k + 1))
  rw [List.take_append_drop, h1, if_neg hc] at h2
  exact h2
theorem ff_prefix {zs : List Int} (k : Nat) (h : ff zs = 0) : ff (zs.take k) = 0 := by
  have h2 := ff_append (zs.take k) (zs.drop k)
  rw [List.take_append_drop, h] at h2
  by_cases h0 : ff (zs.take k) = 0
  · exact h0
  · rw [if_neg h0] at h2; omega
theorem ff_mem {zs : List Int} (h : ff zs = 0) {k : Nat} {z : Int} (hz : zs[k]? = some z) : 0 ≤ z ∧ z ≤ 1099511627775 := by
  have h1 := ff_step hz (ff_prefix k h)
  rw [ff_prefix (k + 1) h] at h1
  exact chk_zero h1.symm
theorem ff_pair (a b : Int) : ff [a, b] = if chk a = 0 then chk b else chk a := by
  show (if chk a = 0 then (if chk b = 0 then 0 else chk b) else chk a) = _
  by_cases h : chk b = 0
  · rw [if_pos h, h]
  · rw [if_neg h]
theorem ff_pair_zero {a b : Int} (h : ff [a, b] = 0) : (0 ≤ a ∧ a ≤ 1099511627775) ∧ 0 ≤ b ∧ b ≤ 1099511627775 := by
  exact ⟨ff_mem h (k := 0) rfl, ff_mem h (k := 1) rfl⟩
theorem ff_pair_ok {a b : Int} (a0 : 0 ≤ a) (a1 : a ≤ 1099511627775) (b0 : 0 ≤ b) (b1 : b ≤ 1099511627775) : ff [a, b] = 0 := by
  rw [ff_pair, chk_ok a0 a1, if_pos rfl, chk_ok b0 b1]

theorem total_append (l r : List Int) : total (l ++ r) = total l + total r := by
  induction l with
  | nil => simp [total]
  | cons n l ih => simp only [List.cons_append, total]; omega
theorem total_step {zs : List Int} {k : Nat} {z : Int} (h : zs[k]? = some z) : total (zs.take (k + 1)) = total (zs.take k) + z := by
  rw [take_snoc h, total_append]; simp [total]
theorem total_pos {zs : List Int} (h : ff zs = 0) : 0 ≤ total zs := by
  induction zs with
  | nil => exact Int.le_refl _
  | cons n l ih =>
    unfold ff at h
    by_cases hc : chk n = 0
    · rw [if_pos hc] at h
      have := chk_zero hc
      have := ih h
      simp only [total]; omega
    · rw [if_neg hc] at h; exact absurd h hc
theorem ff_drop {zs : List Int} (k : Nat) (h : ff zs = 0) : ff (zs.drop k) = 0 := by
  have h2 := ff_append (zs.take k) (zs.drop k)
  rw [List.take_append_drop, h, ff_prefix k h, if_pos rfl] at h2
  exact h2.symm
theorem total_prefix {zs : List Int} (k : Nat) (h : ff zs = 0) : total (zs.take k) ≤ total zs := by
  have h2 := total_append (zs.take k) (zs.drop k)
  rw [List.take_append_drop] at h2
  have := total_pos (ff_drop k h)
  omega

/-- What the calls come to: the number, and the error. -/
def addS (l : List Int) : Int := if ff l = 0 then (if 1099511627775 < total l then 0 else total l) else 0
def addE (l : List Int) : Int := if ff l = 0 then (if 1099511627775 < total l then 11 else 0) else ff l
def subS (a b : Int) : Int := if ff [a, b] = 0 then (if a < b then 0 else a - b) else 0
def subE (a b : Int) : Int := if ff [a, b] = 0 then (if a < b then 10 else 0) else ff [a, b]
def mulS (a b : Int) : Int := if ff [a, b] = 0 then (if 1099511627775 < a * b then 0 else a * b) else 0
def mulE (a b : Int) : Int := if ff [a, b] = 0 then (if 1099511627775 < a * b then 11 else 0) else ff [a, b]
def downS (a b : Int) : Int := if ff [a, b] = 0 then (if b = 0 then 0 else a / b) else 0
def downE (a b : Int) : Int := if ff [a, b] = 0 then (if b = 0 then 12 else 0) else ff [a, b]
def upS (a b : Int) : Int := if ff [a, b] = 0 then (if b = 0 then 0 else if a / b * b < a then a / b + 1 else a / b) else 0

theorem addS_bad {l : List Int} (h : ff l ≠ 0) : addS l = 0 := if_neg h
theorem addE_bad {l : List Int} (h : ff l ≠ 0) : addE l = ff l := if_neg h
theorem addS_over {l : List Int} (h : ff l = 0) (h1 : 1099511627775 < total l) : addS l = 0 := by unfold addS; rw [if_pos h, if_pos h1]
theorem addE_over {l : List Int} (h : ff l = 0) (h1 : 1099511627775 < total l) : addE l = 11 := by unfold addE; rw [if_pos h, if_pos h1]
theorem addS_fine {l : List Int} (h : ff l = 0) (h1 : total l ≤ 1099511627775) : addS l = total l := by unfold addS; rw [if_pos h, if_neg (by omega)]
theorem addE_fine {l : List Int} (h : ff l = 0) (h1 : total l ≤ 1099511627775) : addE l = 0 := by unfold addE; rw [if_pos h, if_neg (by omega)]
theorem subS_bad {a b : Int} (h : ff [a, b] ≠ 0) : subS a b = 0 := if_neg h
theorem subE_bad {a b : Int} (h : ff [a, b] ≠ 0) : subE a b = ff [a, b] := if_neg h
theorem subS_low {a b : Int} (h : ff [a, b] = 0) (h1 : a < b) : subS a b = 0 := by unfold subS; rw [if_pos h, if_pos h1]
theorem subE_low {a b : Int} (h : ff [a, b] = 0) (h1 : a < b) : subE a b = 10 := by unfold subE; rw [if_pos h, if_pos h1]
theorem subS_fine {a b : Int} (h : ff [a, b] = 0) (h1 : b ≤ a) : subS a b = a - b := by unfold subS; rw [if_pos h, if_neg (by omega)]
theorem subE_fine {a b : Int} (h : ff [a, b] = 0) (h1 : b ≤ a) : subE a b = 0 := by unfold subE; rw [if_pos h, if_neg (by omega)]
theorem mulS_bad {a b : Int} (h : ff [a, b] ≠ 0) : mulS a b = 0 := if_neg h
theorem mulE_bad {a b : Int} (h : ff [a, b] ≠ 0) : mulE a b = ff [a, b] := if_neg h
theorem mulS_over {a b : Int} (h : ff [a, b] = 0) (h1 : 1099511627775 < a * b) : mulS a b = 0 := by unfold mulS; rw [if_pos h, if_pos h1]
theorem mulE_over {a b : Int} (h : ff [a, b] = 0) (h1 : 1099511627775 < a * b) : mulE a b = 11 := by unfold mulE; rw [if_pos h, if_pos h1]
theorem mulS_fine {a b : Int} (h : ff [a, b] = 0) (h1 : a * b ≤ 1099511627775) : mulS a b = a * b := by unfold mulS; rw [if_pos h, if_neg (by omega)]
theorem mulE_fine {a b : Int} (h : ff [a, b] = 0) (h1 : a * b ≤ 1099511627775) : mulE a b = 0 := by unfold mulE; rw [if_pos h, if_neg (by omega)]
theorem downS_bad {a b : Int} (h : ff [a, b] ≠ 0) : downS a b = 0 := if_neg h
theorem downE_bad {a b : Int} (h : ff [a, b] ≠ 0) : downE a b = ff [a, b] := if_neg h
theorem downS_zero {a b : Int} (h : ff [a, b] = 0) (h1 : b = 0) : downS a b = 0 := by unfold downS; rw [if_pos h, if_pos h1]
theorem downE_zero {a b : Int} (h : ff [a, b] = 0) (h1 : b = 0) : downE a b = 12 := by unfold downE; rw [if_pos h, if_pos h1]
theorem downS_fine {a b : Int} (h : ff [a, b] = 0) (h1 : b ≠ 0) : downS a b = a / b := by unfold downS; rw [if_pos h, if_neg h1]
theorem downE_fine {a b : Int} (h : ff [a, b] = 0) (h1 : b ≠ 0) : downE a b = 0 := by unfold downE; rw [if_pos h, if_neg h1]
theorem upS_bad {a b : Int} (h : ff [a, b] ≠ 0) : upS a b = 0 := if_neg h
theorem upS_zero {a b : Int} (h : ff [a, b] = 0) (h1 : b = 0) : upS a b = 0 := by unfold upS; rw [if_pos h, if_pos h1]
theorem upS_more {a b : Int} (h : ff [a, b] = 0) (h1 : b ≠ 0) (h2 : a / b * b < a) : upS a b = a / b + 1 := by unfold upS; rw [if_pos h, if_neg h1, if_pos h2]
theorem upS_even {a b : Int} (h : ff [a, b] = 0) (h1 : b ≠ 0) (h2 : ¬ a / b * b < a) : upS a b = a / b := by unfold upS; rw [if_pos h, if_neg h1, if_neg h2]
/-- The guard of the product: asked by a quotient. -/
theorem mul_guard {a b : Int} (hb : 0 < b) : 1099511627775 / b < a ↔ 1099511627775 < a * b := by
  constructor
  · intro h
    exact (Int.ediv_lt_iff_lt_mul hb).mp h
  · intro h
    exact (Int.ediv_lt_iff_lt_mul hb).mpr h
theorem div_bounds {a b : Int} (ha : 0 ≤ a) (ha1 : a ≤ 1099511627775) (hb : 0 < b) : 0 ≤ a / b ∧ a / b ≤ 1099511627775 ∧ 0 ≤ a / b * b ∧ a / b * b ≤ a ∧ a - a / b * b < b := by
  have h1 : 0 ≤ a / b := Int.ediv_nonneg ha (by omega)
  have h2 : a / b ≤ a := Int.ediv_le_self b ha
  have h3 : a / b * b ≤ a := Int.ediv_mul_le a (by omega)
  have h4 : 0 ≤ a / b * b := Int.mul_nonneg h1 (by omega)
  have h5 : a < (a / b + 1) * b := Int.lt_ediv_add_one_mul_self a hb
  have h6 : (a / b + 1) * b = a / b * b + b := by rw [Int.add_mul, Int.one_mul]
  omega
end Go.Proofs.YtnlempddoiidiaaDoor
namespace Go.Proofs.YtnlempddoiidiaaDoor
open Go.RowKit

theorem check_any (n : Int) (w : World) : Calls Tryd.prog 35 #[.int .i64 n] w fun e w' => e = .returned (.int .i64 (chk n)) ∧ w = w' := by
  by_cases h1 : n < 0
  · rw [chk_low h1]
    go_enter Tryd.func35, Tryd.ntmps35
    go_wp2
    go_ret
    exact ⟨rfl, rfl⟩
  · by_cases h2 : 1099511627775 < n
    · rw [chk_high h2]
      go_enter Tryd.func35, Tryd.ntmps35
      go_wp2
      go_ret
      exact ⟨rfl, rfl⟩
    · rw [chk_ok (by omega) (by omega)]
      go_enter Tryd.func35, Tryd.ntmps35
      go_wp2
      go_ret
      exact ⟨rfl, rfl⟩

end Go.Proofs.YtnlempddoiidiaaDoor
