/- desc.within, isPart, twoParts, rightCounts, rightTimes and slices.Contains at integers, in the seat YtpckmhmabmmllaaDoor: their contracts. No statement is proved here. -/
import Derived.Test.YtpckmhmabmmllaaDoorZM15
import Derived.Test.YtpckmhmabmmllaaDoorZM3
import Derived.Test.YtpckmhmabmmllaaDoorZM1
set_option linter.unusedVariables false
namespace Go.Proofs.YtpckmhmabmmllaaDoor
open Go.RowKit

theorem within_any (n a b : Int) (r : Bool) (hr : r = true ↔ a ≤ n ∧ n ≤ b) (w : World) :
    Calls Tryd.prog 43 #[.int .i64 n, .int .i64 a, .int .i64 b] w fun e w' => e = .returned (.bool r) ∧ w = w' := by
  by_cases h1 : a ≤ n
  · by_cases h2 : n ≤ b
    · obtain rfl : r = true := hr.mpr ⟨h1, h2⟩
      clear hr
      go_enter Tryd.func43, Tryd.ntmps43
      go_wp2
      go_ret
      exact ⟨rfl, rfl⟩
    · obtain rfl : r = false := by rw [← Bool.not_eq_true]; exact fun h => h2 (hr.mp h).2
      clear hr
      go_enter Tryd.func43, Tryd.ntmps43
      go_wp2
      go_ret
      exact ⟨rfl, rfl⟩
  · obtain rfl : r = false := by rw [← Bool.not_eq_true]; exact fun h => h1 (hr.mp h).1
    clear hr
    go_enter Tryd.func43, Tryd.ntmps43
    go_wp2
    go_ret
    exact ⟨rfl, rfl⟩
theorem isPart_any (n : Int) (c : Nat) (hc : c ≤ 1000) (r : Bool) (hr : r = true ↔ 0 ≤ n ∧ n < c) (w : World) :
    Calls Tryd.prog 68 #[.int .i64 n, .int .i64 c] w fun e w' => e = .returned (.bool r) ∧ w = w' := by
  have C := Lib.hid (within_any n 0 ((c : Int) - 1) r (by rw [hr]; omega))
  clear hr
  go_enter Tryd.func68, Tryd.ntmps68
  go_wp2_with fail
  refine (C.out _).mono ?_
  rintro e w' ⟨rfl, rfl⟩
  go_wp2
  go_ret
  exact ⟨rfl, rfl⟩
theorem twoParts_any (a b : Int) (c : Nat) (hc : c ≤ 1000) (r : Bool) (hr : r = true ↔ (0 ≤ a ∧ a < c) ∧ (0 ≤ b ∧ b < c) ∧ a ≠ b) (w : World) :
    Calls Tryd.prog 48 #[.int .i64 a, .int .i64 b, .int .i64 c] w fun e w' => e = .returned (.bool r) ∧ w = w' := by
  by_cases h1 : 0 ≤ a ∧ a < c
  · have C1 := Lib.hid (isPart_any a c hc true ⟨fun _ => h1, fun _ => rfl⟩)
    by_cases h2 : 0 ≤ b ∧ b < c
    · have C2 := Lib.hid (isPart_any b c hc true ⟨fun _ => h2, fun _ => rfl⟩)
      by_cases h3 : a = b
      · obtain rfl : r = false := by rw [← Bool.not_eq_true]; exact fun h => (hr.mp h).2.2 h3
        have hb : (a != b) = false := by simpa using h3
        clear hr h1 h2 h3 hc
        go_enter Tryd.func48, Tryd.ntmps48
        go_wp2_with fail
        refine (C1.out _).mono ?_
        rintro e w' ⟨rfl, rfl⟩
        go_wp2_with fail
        refine (C2.out _).mono ?_
        rintro e w' ⟨rfl, rfl⟩
        go_wp2
        go_ret
        exact ⟨rfl, rfl⟩
      · obtain rfl : r = true := hr.mpr ⟨h1, h2, h3⟩
        have hb : (a != b) = true := by simpa using h3
        clear hr h1 h2 h3 hc
        go_enter Tryd.func48, Tryd.ntmps48
        go_wp2_with fail
        refine (C1.out _).mono ?_
        rintro e w' ⟨rfl, rfl⟩
        go_wp2_with fail
        refine (C2.out _).mono ?_
        rintro e w' ⟨rfl, rfl⟩
        go_wp2
        go_ret
        exact ⟨rfl, rfl⟩
    · have C2 := Lib.hid (isPart_any b c hc false ⟨fun q => Bool.noConfusion q, fun q => absurd q h2⟩)
      obtain rfl : r = false := by rw [← Bool.not_eq_true]; exact fun h => h2 (hr.mp h).2.1
      clear hr h1 h2 hc
      go_enter Tryd.func48, Tryd.ntmps48
      go_wp2_with fail
      refine (C1.out _).mono ?_
      rintro e w' ⟨rfl, rfl⟩
      go_wp2_with fail
      refine (C2.out _).mono ?_
      rintro e w' ⟨rfl, rfl⟩
      go_wp2
      go_ret
      exact ⟨rfl, rfl⟩
  · have C1 := Lib.hid (isPart_any a c hc false ⟨fun q => Bool.noConfusion q, fun q => absurd q h1⟩)
    obtain rfl : r = false := by rw [← Bool.not_eq_true]; exact fun h => h1 (hr.mp h).1
    clear hr h1 hc
    go_enter Tryd.func48, Tryd.ntmps48
    go_wp2_with fail
    refine (C1.out _).mono ?_
    rintro e w' ⟨rfl, rfl⟩
    go_wp2
    go_ret
    exact ⟨rfl, rfl⟩
section
variable {P : Option Addr} {np pc : Nat} {E : Option Addr} {ne ec : Nat} {F : Option Addr} {nf fc : Nat} {R : Option Addr} {nr rc : Nat} {p q : Int}
theorem counts_any (r : Bool) (hr : r = true ↔ 1 ≤ np ∧ np ≤ 16 ∧ ne ≤ 48 ∧ nf ≤ 16 ∧ nr ≤ 4) (w : World) (h0 : np ≤ 1000) (h1 : ne ≤ 1000) (h2 : nf ≤ 1000) (h3 : nr ≤ 1000) :
    Calls Tryd.prog 22 #[.agg #[.int .i64 p, .int .i64 q, .slice P np pc, .slice E ne ec, .slice F nf fc, .slice R nr rc]] w fun e w' => e = .returned (.bool r) ∧ Below w.heap.size w w' := by
  by_cases k1 : 1 ≤ np ∧ np ≤ 16
  · have C := Lib.hid (within_any np 1 16 true ⟨fun _ => by omega, fun _ => rfl⟩)
    by_cases k : ne ≤ 48 ∧ nf ≤ 16 ∧ nr ≤ 4
    · obtain rfl : r = true := hr.mpr ⟨k1.1, k1.2, k⟩
      obtain ⟨g1, g2, g3⟩ := k
      clear hr k1 h0 h1 h2 h3
      go_enter Tryd.func22, Tryd.ntmps22
      go_wp2_with fail
      refine (C.out _).mono ?_
      rintro e w' ⟨rfl, rfl⟩
      go_wp2
      go_ret
      exact ⟨by first | rfl | (refine congrArg (fun b => Ending.returned (Value.bool b)) (?_ : decide _ = _); rw [decide_eq_true_iff]; omega), below_alloc _⟩
    · obtain rfl : r = false := by rw [← Bool.not_eq_true]; exact fun h => k (hr.mp h).2.2
      rcases (show 48 < ne ∨ (ne ≤ 48 ∧ 16 < nf) ∨ (ne ≤ 48 ∧ nf ≤ 16 ∧ 4 < nr) by omega) with g1 | ⟨g1, g2⟩ | ⟨g1, g2, g3⟩
      all_goals
        clear hr k1 k
        go_enter Tryd.func22, Tryd.ntmps22
        go_wp2_with fail
        refine (C.out _).mono ?_
        rintro e w' ⟨rfl, rfl⟩
        go_wp2
        go_ret
        exact ⟨by first | rfl | (refine congrArg (fun b => Ending.returned (Value.bool b)) (?_ : decide _ = _); rw [decide_eq_false_iff_not]; omega), below_alloc _⟩
  · have C := Lib.hid (within_any np 1 16 false ⟨fun q => Bool.noConfusion q, fun q => absurd q (by omega)⟩)
    obtain rfl : r = false := by rw [← Bool.not_eq_true]; exact fun h => k1 ⟨(hr.mp h).1, (hr.mp h).2.1⟩
    clear hr k1 h0 h1 h2 h3
    go_enter Tryd.func22, Tryd.ntmps22
    go_wp2_with fail
    refine (C.out _).mono ?_
    rintro e w' ⟨rfl, rfl⟩
    go_wp2
    go_ret
    exact ⟨rfl, below_alloc _⟩
theorem ntwo_any (p : Int) : ∃ k : Int, ∀ w : World, Tab64 w → Calls Tryd.prog 44 #[.int .i64 p] w fun e w' => e = .returned (.tuple #[.int .i64 k, .bool (isTwo p)]) ∧ w = w' := by
  by_cases h : isTwo p = true
  · rw [h]
    obtain ⟨k, hk, rfl⟩ := isTwo_iff.mp h
    exact ⟨k, two_yes k hk⟩
  · rw [Bool.not_eq_true] at h
    rw [h]
    refine ⟨0, fun w _ => two_no p w fun k hk e => ?_⟩
    rw [isTwo_iff.mpr ⟨k, hk, e⟩] at h
    cases h
set_option maxRecDepth 100000 in
theorem times_any (w : World) (hT : DTab w) :
    Calls Tryd.prog 23 #[.agg #[.int .i64 p, .int .i64 q, .slice P np pc, .slice E ne ec, .slice F nf fc, .slice R nr rc]] w fun e w' => e = .returned (.bool (timeE p q)) ∧ Below w.heap.size w w' := by
  obtain ⟨k, hC⟩ := ntwo_any p
  have C := Lib.hid hC
  have HT := Lib.hid (fun o => Tab64.via hT (below_alloc (w := w) o))
  clear hC hT
  unfold timeE
  cases ht : isTwo p with
  | false =>
    rw [ht] at C
    clear ht
    go_enter Tryd.func23, Tryd.ntmps23
    go_wp2_with fail
    refine (C.out _ (HT.out _)).mono ?_
    rintro e w' ⟨rfl, rfl⟩
    go_wp2
    go_ret
    exact ⟨rfl, below_alloc _⟩
  | true =>
    rw [ht] at C
    clear ht
    by_cases h1 : p ≤ 4096
    · rw [decide_eq_true h1]
      by_cases h2 : 1 ≤ q ∧ q ≤ p
      · rw [decide_eq_true h2.1, decide_eq_true h2.2]
        have D := Lib.hid (within_any q 1 p true ⟨fun _ => h2, fun _ => rfl⟩)
        clear h2
        go_enter Tryd.func23, Tryd.ntmps23
        go_wp2_with fail
        refine (C.out _ (HT.out _)).mono ?_
        rintro e w' ⟨rfl, rfl⟩
        go_wp2_with fail
        refine (D.out _).mono ?_
        rintro e w' ⟨rfl, rfl⟩
        go_wp2
        go_ret
        exact ⟨rfl, below_alloc _⟩
      · rw [show (true && true && decide (1 ≤ q) && decide (q ≤ p)) = false by
          rcases (show ¬ 1 ≤ q ∨ ¬ q ≤ p by omega) with h | h
          · rw [decide_eq_false h]; rfl
          · rw [decide_eq_false h]; cases decide (1 ≤ q) <;> rfl]
        have D := Lib.hid (within_any q 1 p false ⟨fun x => Bool.noConfusion x, fun x => absurd x h2⟩)
        clear h2
        go_enter Tryd.func23, Tryd.ntmps23
        go_wp2_with fail
        refine (C.out _ (HT.out _)).mono ?_
        rintro e w' ⟨rfl, rfl⟩
        go_wp2_with fail
        refine (D.out _).mono ?_
        rintro e w' ⟨rfl, rfl⟩
        go_wp2
        go_ret
        exact ⟨rfl, below_alloc _⟩
    · rw [decide_eq_false h1]
      go_enter Tryd.func23, Tryd.ntmps23
      go_wp2_with fail
      refine (C.out _ (HT.out _)).mono ?_
      rintro e w' ⟨rfl, rfl⟩
      go_wp2
      go_ret
      exact ⟨rfl, below_alloc _⟩
end
theorem idx_of (A : Option Addr) (c n : Nat) (l : List Int) (x : Int) (w : World) (B : Nat) (hn : l.length = n) (hl : n ≤ 1000) (hI : Ints w B A l) :
    Calls Tryd.prog 72 #[.slice A n c, .int .i64 x] w fun e w' => ∃ r, e = .returned (.int .i64 r) ∧ w = w' ∧ (0 ≤ r ↔ x ∈ l) := by
  have HN := Lib.hid hn
  have HI := Lib.hid hI
  clear hn hI
  go_enter Tryd.func72, Tryd.ntmps72
  go_wp2
  go_loop [8] (fun v => ∃ k : Nat, k ≤ n ∧ v = .int .i64 k ∧ Hid (x ∉ l.take k)) (fun v => n - (intOf v).toNat)
  case atStart => exact ⟨0, Nat.zero_le _, rfl, Lib.hid (by simp)⟩
  case round =>
    obtain ⟨k, hk, rfl, HF⟩ := hrel
    by_cases hlt : k < n
    · obtain ⟨bk, off, z, rfl, hbg, hek, d1⟩ := HI.out.at_ (k := k) (by rw [HN.out]; exact hlt)
      have HEK := Lib.hid hek
      clear hek
      by_cases hx : x = z
      · have HX := Lib.hid hx
        have hb : (x == z) = true := by simpa using hx
        clear hx
        go_wp2
        go_ret
        exact ⟨_, rfl, rfl, ⟨fun _ => by rw [HX.out]; exact List.mem_of_getElem? HEK.out, fun _ => by omega⟩⟩
      · have HX := Lib.hid hx
        have hb : (x == z) = false := by simpa using hx
        clear hx
        go_wp2
        go_round
        case rel => exact ⟨k + 1, by omega, by go_num, Lib.hid (by
          rw [List.take_add_one, HEK.out, List.mem_append]
          rintro (h | h)
          · exact HF.out h
          · exact HX.out (by simpa using h))⟩
        case measure => simp [intOf]; omega
    · have e : k = n := by omega
      subst e
      go_wp2
      go_ret
      refine ⟨_, rfl, rfl, ⟨fun h => absurd h (by decide), fun h => ?_⟩⟩
      have := HF.out
      rw [List.take_of_length_le (by rw [HN.out]; exact Nat.le_refl _)] at this
      exact absurd h this
theorem in_any (A : Option Addr) (c n : Nat) (l : List Int) (x : Int) (r : Bool) (hr : r = true ↔ x ∈ l) (w : World) (B : Nat) (hn : l.length = n) (hl : n ≤ 1000) (hI : Ints w B A l) :
    Calls Tryd.prog 55 #[.slice A n c, .int .i64 x] w fun e w' => e = .returned (.bool r) ∧ w = w' := by
  have C := idx_of A c n l x w B hn hl hI
  have HR := Lib.hid hr
  clear hn hI hr
  go_enter Tryd.func55, Tryd.ntmps55
  go_wp2_with fail
  refine C.mono ?_
  rintro e w1 ⟨v, rfl, rfl, hv⟩
  have HV := Lib.hid hv
  clear hv
  cases r with
  | true =>
    have hg : 0 ≤ v := HV.out.mpr (HR.out.mp rfl)
    go_wp2
    go_ret
    exact ⟨rfl, rfl⟩
  | false =>
    have hg : decide (0 ≤ v) = false := by
      rw [decide_eq_false_iff_not]
      exact fun h => absurd (HR.out.mpr (HV.out.mp h)) (by simp)
    go_wp2
    go_ret
    exact ⟨rfl, rfl⟩
end Go.Proofs.YtpckmhmabmmllaaDoor
