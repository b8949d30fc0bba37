/- The sets of nodes of package dag in the seat YtmelgolnmnebpaaGreatDoor: (dag.nodes).has, with, row; dag.isNode.
   The contract of trefoilref04.Long in the seat YtmelgolnmnebpaaGreatDoor.
   No statement is proved here. -/
import Derived.Test.YtmelgolnmnebpaaGreatDoorZM6
import Derived.Test.YtmelgolnmnebpaaGreatDoorZM3
import Derived.Test.YtmelgolnmnebpaaGreatDoorZM15
import Derived.Laws.BitsAllLaws
import Derived.BigRegion
import Derived.StillTailTactics
set_option linter.unusedSimpArgs false
set_option linter.unusedVariables false
namespace Go.Proofs.YtmelgolnmnebpaaGreatDoor
open Go.RowKit

/-! Plain -/
def bitsL (s : Nat) : List Nat := (List.range 64).filter s.testBit
theorem mem_bitsL {s j : Nat} : j ∈ bitsL s ↔ j < 64 ∧ s.testBit j = true := by
  unfold bitsL
  rw [List.mem_filter, List.mem_range]
theorem bitsL_zero : bitsL 0 = [] := by decide
theorem bitsL_length (s : Nat) : (bitsL s).length ≤ 64 := by
  unfold bitsL
  have := List.length_filter_le s.testBit (List.range 64)
  rwa [List.length_range] at this
theorem filt_first (p q : Nat → Bool) (k : Nat) (hk : p k = true) (hlt : ∀ j, j < k → p j = false) (hq : ∀ j, q j = (p j && decide (j ≠ k))) : ∀ n, k < n → (List.range n).filter p = k :: (List.range n).filter q
  | 0, h => by omega
  | n + 1, h => by
    rw [List.range_succ, List.filter_append, List.filter_append]
    rcases Nat.lt_or_ge k n with h1 | h1
    · rw [filt_first p q k hk hlt hq n h1]
      have e : q n = p n := by rw [hq, decide_eq_true (by omega : n ≠ k), Bool.and_true]
      simp [List.filter, e]
    · obtain rfl : n = k := by omega
      have e1 : (List.range n).filter p = [] := List.filter_eq_nil_iff.mpr fun j hj => by rw [hlt j (List.mem_range.mp hj)]; exact Bool.false_ne_true
      have e2 : (List.range n).filter q = [] := List.filter_eq_nil_iff.mpr fun j hj => by rw [hq, hlt j (List.mem_range.mp hj)]; exact Bool.false_ne_true
      have e3 : q n = false := by rw [hq]; simp
      rw [e1, e2]
      simp [List.filter, hk, e3]
theorem low_bit (k m j : Nat) : (2 ^ k * (2 * m + 1)).testBit j = (decide (k ≤ j) && (decide (j = k) || m.testBit (j - k - 1))) := by
  rw [Nat.mul_comm, Nat.testBit_mul_two_pow]
  by_cases h : k ≤ j
  · by_cases he : j = k
    · subst he
      simp [Nat.testBit_zero]
    · obtain ⟨i, rfl⟩ : ∃ i, j = k + (i + 1) := ⟨j - k - 1, by omega⟩
      have e1 : k + (i + 1) - k = i + 1 := by omega
      have e2 : (2 * m + 1) / 2 = m := by omega
      rw [e1, Nat.testBit_succ, e2]
      simp
  · simp [h]
theorem low_less (k m j : Nat) : (2 ^ k * (2 * m + 1) - 1).testBit j = (decide (j < k) || (decide (k < j) && m.testBit (j - k - 1))) := by
  have hp : 0 < 2 ^ k := Nat.two_pow_pos k
  have e : 2 ^ k * (2 * m + 1) - 1 = 2 ^ k * (2 * m) + (2 ^ k - 1) := by rw [Nat.mul_add]; omega
  rw [e, Nat.testBit_two_pow_mul_add _ (by omega)]
  by_cases h : j < k
  · rw [if_pos h, Nat.testBit_two_pow_sub_one]
    simp [h]
  · rw [if_neg h]
    by_cases he : j = k
    · subst he
      simp [Nat.testBit_zero]
    · obtain ⟨i, rfl⟩ : ∃ i, j = k + (i + 1) := ⟨j - k - 1, by omega⟩
      have e1 : k + (i + 1) - k = i + 1 := by omega
      have e2 : (2 * m) / 2 = m := by omega
      rw [e1, Nat.testBit_succ, e2]
      have h3 : k < k + (i + 1) := by omega
      simp [h, h3]
theorem bitsL_step {s : Nat} (h0 : s ≠ 0) (hs : s < 18446744073709551616) : bitsL s = Lib.ctz 64 s :: bitsL (s &&& (s - 1)) := by
  obtain ⟨m, hm, hk⟩ := Lib.ctzFrom_spec 64 s (by omega) hs
  have hc : Lib.ctz 64 s = Lib.ctzFrom 64 s := by unfold Lib.ctz; rw [if_neg h0]
  rw [hc]
  obtain ⟨k, hk2⟩ : ∃ k, k = Lib.ctzFrom 64 s := ⟨_, rfl⟩
  rw [← hk2] at hm hk ⊢
  clear hk2 hc
  unfold bitsL
  refine filt_first _ _ k ?_ ?_ ?_ 64 hk
  · rw [hm, low_bit]; simp
  · intro j hj
    rw [hm, low_bit]
    simp [show ¬ k ≤ j by omega]
  · intro j
    rw [Nat.testBit_and, hm, low_bit, low_less]
    by_cases h1 : j < k
    · simp [h1, show ¬ k ≤ j by omega]
    · by_cases h2 : j = k
      · subst h2
        simp
      · have h3 : k < j := by omega
        have h4 : k ≤ j := by omega
        simp [h1, h2, h3, h4]
theorem and_pred_lt {s : Nat} (h0 : s ≠ 0) : s &&& (s - 1) < s := Nat.lt_of_le_of_lt Nat.and_le_right (by omega)
theorem or_bit_testBit (s n j : Nat) : (s ||| 2 ^ n).testBit j = (s.testBit j || decide (n = j)) := by
  rw [Nat.testBit_or, Nat.testBit_two_pow]

/-! The contracts -/
set_option maxRecDepth 100000 in
theorem set_has_core (s n p q r : Nat) (b : Bool) (w : World) (hn : n < 64) (hp : (2 : Int) ^ n = (p : Int)) (hq : (s : Int) / (p : Int) = (q : Int)) (ha : bits .and .u64 (q : Int) 1 = (r : Int)) (hb : ((r : Int) == 1) = b) :
    Calls Tryz.prog 60 #[.int .u64 s, .int .i64 n] w fun e w' => e = .returned (.bool b) ∧ w = w' := by
  go_enter Tryz.func60, Tryz.ntmps60
  go_wp2
  go_ret
  exact ⟨rfl, rfl⟩
theorem set_has (s n : Nat) (w : World) (hs : s < 18446744073709551616) (hn : n < 64) :
    Calls Tryz.prog 60 #[.int .u64 s, .int .i64 n] w fun e w' => e = .returned (.bool (s.testBit n)) ∧ w = w' := by
  have h1 : s / 2 ^ n ≤ s := Nat.div_le_self _ _
  refine set_has_core s n (2 ^ n) (s / 2 ^ n) (s / 2 ^ n % 2) (s.testBit n) w hn (by push_cast; rfl) (by push_cast; rfl) ?_ ?_
  · have h2 := bits_and_u64_nat (s / 2 ^ n) 1 (by omega) (by decide)
    rw [Nat.and_one_is_mod] at h2
    exact h2
  · rw [Nat.testBit_eq_decide_div_mod_eq]
    rcases Nat.mod_two_eq_zero_or_one (s / 2 ^ n) with h | h <;> rw [h] <;> rfl
set_option maxRecDepth 100000 in
theorem set_with_core (s n p r : Nat) (w : World) (hn : n < 64) (hp : (2 : Int) ^ n = (p : Int)) (hw : IntKind.u64.wrap (p : Int) = (p : Int)) (ha : bits .or .u64 (s : Int) (p : Int) = (r : Int)) :
    Calls Tryz.prog 59 #[.int .u64 s, .int .i64 n] w fun e w' => e = .returned (.int .u64 r) ∧ w = w' := by
  go_enter Tryz.func59, Tryz.ntmps59
  go_wp2
  go_ret
  exact ⟨rfl, rfl⟩
theorem set_with (s n : Nat) (w : World) (hs : s < 18446744073709551616) (hn : n < 64) :
    Calls Tryz.prog 59 #[.int .u64 s, .int .i64 n] w fun e w' => e = .returned (.int .u64 (s ||| 2 ^ n : Nat)) ∧ w = w' := by
  have h1 : 2 ^ n < 18446744073709551616 := Nat.pow_lt_pow_right (by decide) hn
  refine set_with_core s n (2 ^ n) (s ||| 2 ^ n) w hn (by push_cast; rfl) ?_ (bits_or_u64_nat s (2 ^ n) hs h1)
  obtain ⟨p, hp⟩ : ∃ p, p = 2 ^ n := ⟨_, rfl⟩
  rw [← hp] at h1 ⊢
  rw [IntKind.wrap_u64]
  omega
theorem is_node (x : Int) (n : Nat) (w : World) (hn : n ≤ 1000) :
    Calls Tryz.prog 58 #[.int .i64 x, .int .i64 n] w fun e w' => e = .returned (.bool (decide (0 ≤ x ∧ x < n))) ∧ w = w' := by
  by_cases h0 : 0 ≤ x
  · by_cases h1 : x < n
    · rw [decide_eq_true (⟨h0, h1⟩ : 0 ≤ x ∧ x < n)]
      go_enter Tryz.func58, Tryz.ntmps58
      go_wp2
      go_ret
      exact ⟨rfl, rfl⟩
    · rw [decide_eq_false (fun h => h1 h.2 : ¬ (0 ≤ x ∧ x < n))]
      go_enter Tryz.func58, Tryz.ntmps58
      go_wp2
      go_ret
      exact ⟨rfl, rfl⟩
  · rw [decide_eq_false (fun h => h0 h.1 : ¬ (0 ≤ x ∧ x < n))]
    go_enter Tryz.func58, Tryz.ntmps58
    go_wp2
    go_ret
    exact ⟨rfl, rfl⟩
theorem ownI_nil (w : World) (base : Nat) : OwnI w base (.slice none 0 0) [] := ⟨rfl, .inl ⟨rfl, rfl⟩⟩
end Go.Proofs.YtmelgolnmnebpaaGreatDoor
set_option linter.unusedVariables false
namespace Go.Proofs.YtmelgolnmnebpaaGreatDoor
open Go.RowKit

theorem OwnI.block {w : World} {base : Nat} {A : Option Addr} {n c : Nat} {zs : List Int} (h : OwnI w base (.slice A n c) zs) (h0 : 0 < zs.length) : ∃ g, A = some ⟨g, 0, none⟩ ∧ base ≤ g ∧ g < w.heap.size := by
  rcases h.2 with ⟨_, hn⟩ | ⟨g, cap, cur, hv, hg, hgg, _⟩
  · omega
  · injection hv with h1 h2 h3
    exact ⟨g, h1, hg, (Array.getElem?_eq_some_iff.1 hgg).1⟩
theorem OwnI.len {w : World} {base : Nat} {A : Option Addr} {n c : Nat} {zs : List Int} (h : OwnI w base (.slice A n c) zs) : n = zs.length := by
  rcases h.2 with ⟨hv, hn⟩ | ⟨g, cap, cur, hv, _⟩
  · injection hv with h1 h2 h3
    omega
  · injection hv with h1 h2 h3
theorem OwnI.cellAt {w : World} {base g c n : Nat} {zs : List Int} (h : OwnI w base (.slice (some ⟨g, 0, none⟩) n c) zs) {j : Nat} (hj : j < zs.length) : w.cell? ⟨g, j, none⟩ = some (.int .i64 (zs.getD j 0)) := by
  obtain rfl := h.len
  rw [World.ownsRow.cellAt h j (by omega), List.getElem?_map, List.getElem?_eq_getElem hj, List.getD_eq_getElem?_getD, List.getElem?_eq_getElem hj]
  rfl
theorem OwnI.frozenAt {w : World} {base g c n : Nat} {zs : List Int} (h : OwnI w base (.slice (some ⟨g, 0, none⟩) n c) zs) (j : Nat) : w.frozen? ⟨g, j, none⟩ = false := by
  obtain rfl := h.len
  exact World.ownsRow.frozenAt h j
theorem OwnI.stored {w : World} {base g c n : Nat} {zs : List Int} (h : OwnI w base (.slice (some ⟨g, 0, none⟩) n c) zs) (j : Nat) (z : Int) : OwnI (w.setCell ⟨g, j, none⟩ (.int .i64 z)) base (.slice (some ⟨g, 0, none⟩) n c) (zs.set j z) := by
  obtain rfl := h.len
  have := World.ownsRow.stored h j (.int .i64 z)
  unfold OwnI
  rw [List.length_set, List.map_set]
  exact this.1

/-- 'append([]int{}, l...)', as a list of the call's own. -/
theorem wpList_own {ops : Array Oper} {rest : List Oper} {o : Oper} {a : Act} {Q : Exit → Act → World → Prop} (hgd : o.guard = none) (s x : Operand)
    (ho : o.op = .call { callee := .builtin .append, args := #[s, x], argTypes := #[30, 30] })
    (w1 : World) (B : Nat) (A : Option Addr) (cap len : Nat) (zs : List Int) (hlen : zs.length = len) (hl : len ≤ 1000) (hI : Ints w1 B A zs) (hB : B ≤ w1.heap.size) (hA : A = none → cap = 0)
    (hs : a.eval s = .slice (some ⟨w1.heap.size, 0, none⟩) 0 0) (hx : a.eval x = .slice A len cap)
    (h : ∀ A' c' w', OwnI w' w1.heap.size (.slice A' len c') zs → Below w1.heap.size w1 w' → wpList Tryz.prog ops Q rest (a.put o.dst (.slice A' len c')) w') : wpList Tryz.prog ops Q (o :: rest) a (w1.alloc (.cells #[] 3)) := by
  obtain ⟨i0, hi0, hz0, hz1, hz2⟩ := info_parts int_cell_info
  have hown : OwnI (w1.alloc (.cells #[] 3)) w1.heap.size (.slice (some ⟨w1.heap.size, 0, none⟩) 0 0) [] := OwnI.new w1 w1.heap.size (Nat.le_refl _)
  subst hlen
  rcases A with _ | ad
  · have e0 : zs = [] := hI.none_nil
    have e1 : cap = 0 := hA rfl
    subst e0 e1
    exact wpList_append_own_none hgd s x 30 ho w1.heap.size 3 i0 1 Tryz.underlying30 hi0 _ 0 [] hs hown hx (h _ _ _ hown (below_alloc _))
  · refine wpList_append_own _ hgd s x 30 ho w1.heap.size 3 i0 (.int .i64 0) 1 8 Tryz.underlying30 hi0 hz0 hz1 hz2 rfl (by omega) _ 0 [] hs hown ad zs.length cap (zs.map (Value.int .i64)) hx (by simp) (hI.alloc hB _).cells (oneCell_ints zs)
      (by unfold maxLen; omega) (by omega) (by simp) ?_
    intro v' w' hown' hg _
    rw [Nat.zero_add, List.nil_append] at hown'
    have hO' : OwnI w' w1.heap.size v' zs := hown'
    obtain ⟨A', c', rfl, _⟩ := hO'.slice
    exact h A' c' w' hO' ((below_alloc _).grown hg (by simp) (by simp [Value.ownBlock]))
theorem roundL_snoc {W : List Int} {E : List (Int × Int)} {i : Nat} {e : Int × Int} (far : List Int) (h : E[i]? = some e) : roundL W (E.take (i + 1)) far = relaxL W (roundL W (E.take i) far) e := by
  rw [take_snoc' h]
  unfold roundL
  rw [List.foldl_append]
  rfl
theorem sum_le (W : List Int) (h : WorkOk W) : W.sum ≤ 1000 * W.length := by
  induction W with
  | nil => simp
  | cons z W ih =>
    have h1 := ih (fun x hx => h x (by simp [hx]))
    have h2 := h z (by simp)
    simp only [List.sum_cons, List.length_cons]
    omega
theorem wsum_pos {W : List Int} (h : WorkOk W) (p : List Nat) : 0 ≤ wsum W p := by
  induction p with
  | nil => exact Int.le_refl _
  | cons x q ih =>
    unfold wsum at ih ⊢
    simp only [List.map_cons, List.sum_cons]
    have h0 : 0 ≤ W.getD x 0 := by
      rw [List.getD_eq_getElem?_getD]
      cases hx : W[x]? with
      | none => exact Int.le_refl _
      | some z => exact (h z (List.mem_of_getElem? hx)).1
    omega
theorem far_in {W : List Int} {E : List (Int × Int)} (hF : Fits W.length E) (hA : Acyc E) (hW : WorkOk W) (j k : Nat) (b : Nat) (hb : b < W.length) :
    0 ≤ (roundL W (E.take k) (farK W E j)).getD b 0 ∧ (roundL W (E.take k) (farK W E j)).getD b 0 ≤ 1000 * W.length := by
  have h := roundL_sound hF (E.take k) (farK W E j) (fun e he => List.mem_of_mem_take he) (farK_sound hF j)
  obtain ⟨r, h1, h2, h3⟩ := h.2 b hb
  have h4 := wsum_le (fun z hz => (hW z hz).1) (h1.nodup hA) h2
  have h5 := wsum_pos hW (b :: r)
  have h6 := sum_le W hW
  omega
theorem roundL_length (W : List Int) (E : List (Int × Int)) (far : List Int) : (roundL W E far).length = far.length := ((roundL_le W E far).1).symm
theorem most_snoc {l : List Int} {j : Nat} {z : Int} (h : l[j]? = some z) : most (l.take (j + 1)) = max (most (l.take j)) z := by
  rw [take_snoc' h]
  unfold most
  rw [List.foldl_append]
  rfl

end Go.Proofs.YtmelgolnmnebpaaGreatDoor
