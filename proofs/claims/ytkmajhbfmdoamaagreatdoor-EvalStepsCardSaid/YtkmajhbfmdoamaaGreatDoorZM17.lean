/- The sets of nodes of package dag in the seat YtkmajhbfmdoamaaGreatDoor: (dag.nodes).has, with, row; dag.isNode.
   The contract of trefoilref04.Long in the seat YtkmajhbfmdoamaaGreatDoor.
   No statement is proved here. -/
import Derived.Test.YtkmajhbfmdoamaaGreatDoorZM6
import Derived.Test.YtkmajhbfmdoamaaGreatDoorZM3
import Derived.Test.YtkmajhbfmdoamaaGreatDoorZM15
import Derived.Laws.BitsAllLaws
import Derived.BigRegion
import Derived.StillTailTactics
set_option linter.unusedSimpArgs false
set_option linter.unusedVariables false
namespace Go.Proofs.YtkmajhbfmdoamaaGreatDoor
open Go.RowKit

/-! Plain -/
theorem or_bit_testBit (s n j : Nat) : (s ||| 2 ^ n).testBit j = (s.testBit j || decide (n = j)) := by
  rw [Nat.testBit_or, Nat.testBit_two_pow]

/-! The contracts -/
set_option maxRecDepth 100000 in
theorem set_has_core (s n p q r : Nat) (b : Bool) (w : World) (hn : n < 64) (hp : (2 : Int) ^ n = (p : Int)) (hq : (s : Int) / (p : Int) = (q : Int)) (ha : bits .and .u64 (q : Int) 1 = (r : Int)) (hb : ((r : Int) == 1) = b) :
    Calls Tryz.prog 109 #[.int .u64 s, .int .i64 n] w fun e w' => e = .returned (.bool b) ∧ w = w' := by
  go_enter Tryz.func109, Tryz.ntmps109
  go_wp2
  go_ret
  exact ⟨rfl, rfl⟩
theorem set_has (s n : Nat) (w : World) (hs : s < 18446744073709551616) (hn : n < 64) :
    Calls Tryz.prog 109 #[.int .u64 s, .int .i64 n] w fun e w' => e = .returned (.bool (s.testBit n)) ∧ w = w' := by
  have h1 : s / 2 ^ n ≤ s := Nat.div_le_self _ _
  refine set_has_core s n (2 ^ n) (s / 2 ^ n) (s / 2 ^ n % 2) (s.testBit n) w hn (by push_cast; rfl) (by push_cast; rfl) ?_ ?_
  · have h2 := bits_and_u64_nat (s / 2 ^ n) 1 (by omega) (by decide)
    rw [Nat.and_one_is_mod] at h2
    exact h2
  · rw [Nat.testBit_eq_decide_div_mod_eq]
    rcases Nat.mod_two_eq_zero_or_one (s / 2 ^ n) with h | h <;> rw [h] <;> rfl
set_option maxRecDepth 100000 in
theorem set_with_core (s n p r : Nat) (w : World) (hn : n < 64) (hp : (2 : Int) ^ n = (p : Int)) (hw : IntKind.u64.wrap (p : Int) = (p : Int)) (ha : bits .or .u64 (s : Int) (p : Int) = (r : Int)) :
    Calls Tryz.prog 110 #[.int .u64 s, .int .i64 n] w fun e w' => e = .returned (.int .u64 r) ∧ w = w' := by
  go_enter Tryz.func110, Tryz.ntmps110
  go_wp2
  go_ret
  exact ⟨rfl, rfl⟩
theorem set_with (s n : Nat) (w : World) (hs : s < 18446744073709551616) (hn : n < 64) :
    Calls Tryz.prog 110 #[.int .u64 s, .int .i64 n] w fun e w' => e = .returned (.int .u64 (s ||| 2 ^ n : Nat)) ∧ w = w' := by
  have h1 : 2 ^ n < 18446744073709551616 := Nat.pow_lt_pow_right (by decide) hn
  refine set_with_core s n (2 ^ n) (s ||| 2 ^ n) w hn (by push_cast; rfl) ?_ (bits_or_u64_nat s (2 ^ n) hs h1)
  obtain ⟨p, hp⟩ : ∃ p, p = 2 ^ n := ⟨_, rfl⟩
  rw [← hp] at h1 ⊢
  rw [IntKind.wrap_u64]
  omega
theorem is_node (x : Int) (n : Nat) (w : World) (hn : n ≤ 1000) :
    Calls Tryz.prog 108 #[.int .i64 x, .int .i64 n] w fun e w' => e = .returned (.bool (decide (0 ≤ x ∧ x < n))) ∧ w = w' := by
  by_cases h0 : 0 ≤ x
  · by_cases h1 : x < n
    · rw [decide_eq_true (⟨h0, h1⟩ : 0 ≤ x ∧ x < n)]
      go_enter Tryz.func108, Tryz.ntmps108
      go_wp2
      go_ret
      exact ⟨rfl, rfl⟩
    · rw [decide_eq_false (fun h => h1 h.2 : ¬ (0 ≤ x ∧ x < n))]
      go_enter Tryz.func108, Tryz.ntmps108
      go_wp2
      go_ret
      exact ⟨rfl, rfl⟩
  · rw [decide_eq_false (fun h => h0 h.1 : ¬ (0 ≤ x ∧ x < n))]
    go_enter Tryz.func108, Tryz.ntmps108
    go_wp2
    go_ret
    exact ⟨rfl, rfl⟩
theorem ownI_nil (w : World) (base : Nat) : OwnI w base (.slice none 0 0) [] := ⟨rfl, .inl ⟨rfl, rfl⟩⟩
end Go.Proofs.YtkmajhbfmdoamaaGreatDoor
set_option linter.unusedVariables false
namespace Go.Proofs.YtkmajhbfmdoamaaGreatDoor
open Go.RowKit

theorem OwnI.block {w : World} {base : Nat} {A : Option Addr} {n c : Nat} {zs : List Int} (h : OwnI w base (.slice A n c) zs) (h0 : 0 < zs.length) : ∃ g, A = some ⟨g, 0, none⟩ ∧ base ≤ g ∧ g < w.heap.size := by
  rcases h.2 with ⟨_, hn⟩ | ⟨g, cap, cur, hv, hg, hgg, _⟩
  · omega
  · injection hv with h1 h2 h3
    exact ⟨g, h1, hg, (Array.getElem?_eq_some_iff.1 hgg).1⟩
theorem OwnI.len {w : World} {base : Nat} {A : Option Addr} {n c : Nat} {zs : List Int} (h : OwnI w base (.slice A n c) zs) : n = zs.length := by
  rcases h.2 with ⟨hv, hn⟩ | ⟨g, cap, cur, hv, _⟩
  · injection hv with h1 h2 h3
    omega
  · injection hv with h1 h2 h3
theorem OwnI.stored {w : World} {base g c n : Nat} {zs : List Int} (h : OwnI w base (.slice (some ⟨g, 0, none⟩) n c) zs) (j : Nat) (z : Int) : OwnI (w.setCell ⟨g, j, none⟩ (.int .i64 z)) base (.slice (some ⟨g, 0, none⟩) n c) (zs.set j z) := by
  obtain rfl := h.len
  have := World.ownsRow.stored h j (.int .i64 z)
  unfold OwnI
  rw [List.length_set, List.map_set]
  exact this.1

end Go.Proofs.YtkmajhbfmdoamaaGreatDoor
