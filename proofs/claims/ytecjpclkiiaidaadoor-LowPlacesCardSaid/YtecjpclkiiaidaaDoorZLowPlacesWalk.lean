/- The walk of LowPlaces in the seat YtecjpclkiiaidaaDoor (printed by lower/mk_places.py). No statement is proved here. -/
import Derived.Test.YtecjpclkiiaidaaDoorZLowOwnL
import Derived.Test.YtecjpclkiiaidaaDoorZM24
import Derived.Test.YtecjpclkiiaidaaDoorZLowAwake
import Derived.Test.YtecjpclkiiaidaaDoorZM4
import Derived.OneCell
set_option linter.unusedVariables false
namespace Go.Proofs.YtecjpclkiiaidaaDoor
open Go.RowKit

theorem idxV_step {P : List (Int × Int)} {p q : Int × Int} {j : Nat} (h : P[j]? = some q) : idxV (P.take (j + 1)) p = if idxV (P.take j) p < 0 ∧ q = p then (j : Int) else idxV (P.take j) p := by
  have hj := (List.getElem?_eq_some_iff.mp h).1
  have e : P.take (j + 1) = P.take j ++ [q] := by rw [List.take_add_one, h]; rfl
  by_cases hm : p ∈ P.take j
  · have h0 : ¬ (idxV (P.take j) p < 0 ∧ q = p) := fun k => by
      have := k.1
      unfold idxV at this
      rw [if_pos hm] at this
      omega
    rw [if_neg h0, e]
    unfold idxV
    rw [if_pos hm, if_pos (List.mem_append_left _ hm), List.idxOf_append, if_pos hm]
  · by_cases hq : q = p
    · subst hq
      rw [if_pos ⟨by rw [idxV_no hm]; decide, rfl⟩]
      refine idxV_at ?_ ?_
      · rw [List.getElem?_take_of_lt (by omega)]; exact h
      · rw [List.take_take, Nat.min_eq_left (by omega)]; exact hm
    · rw [if_neg (fun k => hq k.2), idxV_no hm, idxV_no]
      rw [e]
      intro hm2
      rcases List.mem_append.mp hm2 with h1 | h1
      · exact hm h1
      · exact hq (List.mem_singleton.mp h1).symm
theorem InL.isL {w : World} {A : Option Addr} {n c : Nat} {F : Option Addr} {m d : Nat} {R : Option Addr} {k e : Nat} {W : List Int} {E P : List (Int × Int)} (h : InL w A n c F m d R k e W E P) (ht : Tab64 w) (l1 : n ≤ 400) (l2 : m ≤ 400) (l3 : k ≤ 400) : IsL w A n c F m d R k e W E P :=
  ⟨⟨h.hn, h.hm, l1, l2, h.ints, h.pairs, h.hA, h.hF, ht⟩, h.hk, l3, h.pcs⟩
/-- A lowered task handed out. -/
def GotLq (n m k : Nat) (W : List Int) (E P : List (Int × Int)) (v : Value) (w : World) : Prop := ∃ A1 c1 F1 d1 R1 e1, v = .agg #[.slice A1 n c1, .slice F1 m d1, .slice R1 k e1] ∧ IsL w A1 n c1 F1 m d1 R1 k e1 W E P
theorem GotLq.below {n m k : Nat} {W : List Int} {E P : List (Int × Int)} {v : Value} {w w' : World} (h : GotLq n m k W E P v w) (hb : Below w.heap.size w w') : GotLq n m k W E P v w' := by
  obtain ⟨A1, c1, F1, d1, R1, e1, h1, h2⟩ := h
  exact ⟨A1, c1, F1, d1, R1, e1, h1, h2.below hb⟩
/-- The three boxes. -/
structure BxP (w : World) (A : Option Addr) (n c : Nat) (F : Option Addr) (m d : Nat) (R : Option Addr) (k e : Nat) (W : List Int) (E P : List (Int × Int)) (A' : Option Addr) (n' c' : Nat) (F' : Option Addr) (m' d' : Nat) (R' : Option Addr) (k' e' : Nat) (W' : List Int) (E' P' : List (Int × Int)) (p1 p2 : Int) (w' : World) : Prop where
  bel : Below w.heap.size w w'
  a : w'.heap[w.heap.size]? = some (.cells #[.slice A n c, .slice F m d, .slice R k e] 28 (0, 0))
  b : w'.heap[w.heap.size + 1]? = some (.cells #[.slice A' n' c', .slice F' m' d', .slice R' k' e'] 28 (0, 0))
  p : w'.heap[w.heap.size + 1 + 1]? = some (.cells #[.int .i64 p1, .int .i64 p2] 30 (0, 0))
  l : InL w' A n c F m d R k e W E P
  o : InL w' A' n' c' F' m' d' R' k' e' W' E' P'
section
variable {A : Option Addr} {n c : Nat} {F : Option Addr} {m d : Nat} {R : Option Addr} {k e : Nat} {W : List Int} {E P : List (Int × Int)} {A' : Option Addr} {n' c' : Nat} {F' : Option Addr} {m' d' : Nat} {R' : Option Addr} {k' e' : Nat} {W' : List Int} {E' P' : List (Int × Int)} {p1 p2 : Int}
theorem BxP.next {w w1 w2 : World} (h : BxP w A n c F m d R k e W E P A' n' c' F' m' d' R' k' e' W' E' P' p1 p2 w1) (b : Below w1.heap.size w1 w2) : BxP w A n c F m d R k e W E P A' n' c' F' m' d' R' k' e' W' E' P' p1 p2 w2 :=
  ⟨h.bel.trans (b.mono h.bel.size), (b.block _ (Array.getElem?_eq_some_iff.1 h.a).1).trans h.a, (b.block _ (Array.getElem?_eq_some_iff.1 h.b).1).trans h.b, (b.block _ (Array.getElem?_eq_some_iff.1 h.p).1).trans h.p, h.l.below b, h.o.below b⟩
theorem BxP.start {w : World} (hl : InL w A n c F m d R k e W E P) (ho : InL w A' n' c' F' m' d' R' k' e' W' E' P') (p1 p2 : Int) : BxP w A n c F m d R k e W E P A' n' c' F' m' d' R' k' e' W' E' P' p1 p2 (((w.alloc (.cells #[.slice A n c, .slice F m d, .slice R k e] 28)).alloc (.cells #[.slice A' n' c', .slice F' m' d', .slice R' k' e'] 28)).alloc (.cells #[.int .i64 p1, .int .i64 p2] 30)) := by
  obtain ⟨w0, hw0⟩ : ∃ w0, w0 = ((w.alloc (.cells #[.slice A n c, .slice F m d, .slice R k e] 28)).alloc (.cells #[.slice A' n' c', .slice F' m' d', .slice R' k' e'] 28)).alloc (.cells #[.int .i64 p1, .int .i64 p2] 30) := ⟨_, rfl⟩
  rw [← hw0]
  have x1 := heap_alloc_new w (.cells #[.slice A n c, .slice F m d, .slice R k e] 28)
  obtain ⟨v1, hv1⟩ : ∃ v1, v1 = w.alloc (.cells #[.slice A n c, .slice F m d, .slice R k e] 28) := ⟨_, rfl⟩
  have s1 : v1.heap.size = w.heap.size + 1 := by rw [hv1]; simp
  have hb : Below w.heap.size w w0 := by rw [hw0]; exact (below_alloc2 _ _).alloc (by simp; omega) _
  rw [← hv1] at x1 hw0
  have x2 := heap_alloc_new v1 (.cells #[.slice A' n' c', .slice F' m' d', .slice R' k' e'] 28)
  obtain ⟨v2, hv2⟩ : ∃ v2, v2 = v1.alloc (.cells #[.slice A' n' c', .slice F' m' d', .slice R' k' e'] 28) := ⟨_, rfl⟩
  have s2 : v2.heap.size = w.heap.size + 1 + 1 := by rw [hv2]; simp [s1]
  rw [← hv2] at x2 hw0
  rw [s1] at x2
  have x3 := heap_alloc_new v2 (.cells #[.int .i64 p1, .int .i64 p2] 30)
  rw [← hw0, s2] at x3
  exact ⟨hb, by rw [hw0, Below.heap_alloc _ _ _ (by omega), hv2, Below.heap_alloc _ _ _ (by omega)]; exact x1, by rw [hw0, Below.heap_alloc _ _ _ (by omega)]; exact x2, x3, hl.below hb, ho.below hb⟩
theorem BxP.a0 {w w' : World} (h : BxP w A n c F m d R k e W E P A' n' c' F' m' d' R' k' e' W' E' P' p1 p2 w') : w'.cell? ⟨w.heap.size, 0, none⟩ = some (.slice A n c) := by rw [cell_of_row _ _ _ _ _ _ h.a]; rfl
theorem BxP.a1 {w w' : World} (h : BxP w A n c F m d R k e W E P A' n' c' F' m' d' R' k' e' W' E' P' p1 p2 w') : w'.cell? ⟨w.heap.size, 1, none⟩ = some (.slice F m d) := by rw [cell_of_row _ _ _ _ _ _ h.a]; rfl
theorem BxP.a2 {w w' : World} (h : BxP w A n c F m d R k e W E P A' n' c' F' m' d' R' k' e' W' E' P' p1 p2 w') : w'.cell? ⟨w.heap.size, 2, none⟩ = some (.slice R k e) := by rw [cell_of_row _ _ _ _ _ _ h.a]; rfl
theorem BxP.b0 {w w' : World} (h : BxP w A n c F m d R k e W E P A' n' c' F' m' d' R' k' e' W' E' P' p1 p2 w') : w'.cell? ⟨w.heap.size + 1, 0, none⟩ = some (.slice A' n' c') := by rw [cell_of_row _ _ _ _ _ _ h.b]; rfl
theorem BxP.b1 {w w' : World} (h : BxP w A n c F m d R k e W E P A' n' c' F' m' d' R' k' e' W' E' P' p1 p2 w') : w'.cell? ⟨w.heap.size + 1, 1, none⟩ = some (.slice F' m' d') := by rw [cell_of_row _ _ _ _ _ _ h.b]; rfl
theorem BxP.b2 {w w' : World} (h : BxP w A n c F m d R k e W E P A' n' c' F' m' d' R' k' e' W' E' P' p1 p2 w') : w'.cell? ⟨w.heap.size + 1, 2, none⟩ = some (.slice R' k' e') := by rw [cell_of_row _ _ _ _ _ _ h.b]; rfl
theorem BxP.q0 {w w' : World} (h : BxP w A n c F m d R k e W E P A' n' c' F' m' d' R' k' e' W' E' P' p1 p2 w') : w'.cell? ⟨w.heap.size + 1 + 1, 0, none⟩ = some (.int .i64 p1) := by rw [cell_of_row _ _ _ _ _ _ h.p]; rfl
theorem BxP.q1 {w w' : World} (h : BxP w A n c F m d R k e W E P A' n' c' F' m' d' R' k' e' W' E' P' p1 p2 w') : w'.cell? ⟨w.heap.size + 1 + 1, 1, none⟩ = some (.int .i64 p2) := by rw [cell_of_row _ _ _ _ _ _ h.p]; rfl
end
def PhiP (A : Option Addr) (n c : Nat) (F : Option Addr) (m d : Nat) (R : Option Addr) (k e : Nat) (W : List Int) (E P : List (Int × Int)) (A' : Option Addr) (n' c' : Nat) (F' : Option Addr) (m' d' : Nat) (R' : Option Addr) (k' e' : Nat) (W' : List Int) (E' P' : List (Int × Int)) (hb : Nat) (p1 p2 x ft lt : Int) (r : Bool) : Nat → Value → World → Prop
  | 0, v, w => v = .agg #[.slice A n c, .slice F m d, .slice R k e]
  | 1, v, w => GotLq n m k W E P v w
  | 2, v, w => v = .agg #[.int .i64 p1, .int .i64 p2]
  | 3, v, w => v = .int .i64 ft
  | 4, v, w => v = .int .i64 ft
  | 5, v, w => v = .bool true
  | 6, v, w => v = .bool true
  | 7, v, w => v = .agg #[.slice A n c, .slice F m d, .slice R k e]
  | 8, v, w => GotLq n m k W E P v w
  | 9, v, w => v = .int .i64 x
  | 10, v, w => v = .int .i64 lt
  | 11, v, w => v = .int .i64 lt
  | 12, v, w => v = .bool true
  | 13, v, w => v = .bool true
  | 14, v, w => v = .bool true
  | 15, v, w => v = .agg #[.slice A n c, .slice F m d, .slice R k e]
  | 16, v, w => GotLq n m k W E P v w
  | 17, v, w => v = .agg #[.slice A' n' c', .slice F' m' d', .slice R' k' e']
  | 18, v, w => GotLq n' m' k' W' E' P' v w
  | 19, v, w => v = .bool r
  | 20, v, w => v = .agg #[.slice A n c, .slice F m d, .slice R k e]
  | 21, v, w => v = .agg #[.slice A' n' c', .slice F' m' d', .slice R' k' e']
  | 22, v, w => v = .bool r
  | 23, v, w => v = .bool true
  | 24, v, w => v = .bool true
  | 25, v, w => v = .bool true
  | _, _, _ => True
theorem phiP_below (A : Option Addr) (n c : Nat) (F : Option Addr) (m d : Nat) (R : Option Addr) (k e : Nat) (W : List Int) (E P : List (Int × Int)) (A' : Option Addr) (n' c' : Nat) (F' : Option Addr) (m' d' : Nat) (R' : Option Addr) (k' e' : Nat) (W' : List Int) (E' P' : List (Int × Int)) (hb : Nat) (p1 p2 x ft lt : Int) (r : Bool) : ∀ kq v w w', PhiP A n c F m d R k e W E P A' n' c' F' m' d' R' k' e' W' E' P' hb p1 p2 x ft lt r kq v w → Below w.heap.size w w' → PhiP A n c F m d R k e W E P A' n' c' F' m' d' R' k' e' W' E' P' hb p1 p2 x ft lt r kq v w' := by
  intro kq v w w' h hb
  match kq, h with
  | 0, h => exact h
  | 1, h => exact GotLq.below h hb
  | 2, h => exact h
  | 3, h => exact h
  | 4, h => exact h
  | 5, h => exact h
  | 6, h => exact h
  | 7, h => exact h
  | 8, h => exact GotLq.below h hb
  | 9, h => exact h
  | 10, h => exact h
  | 11, h => exact h
  | 12, h => exact h
  | 13, h => exact h
  | 14, h => exact h
  | 15, h => exact h
  | 16, h => exact GotLq.below h hb
  | 17, h => exact h
  | 18, h => exact GotLq.below h hb
  | 19, h => exact h
  | 20, h => exact h
  | 21, h => exact h
  | 22, h => exact h
  | 23, h => exact h
  | 24, h => exact h
  | 25, h => exact h
  | kq + 26, h => exact trivial
section
variable {A : Option Addr} {n c : Nat} {F : Option Addr} {m d : Nat} {R : Option Addr} {k e : Nat} {W : List Int} {E P : List (Int × Int)} {A' : Option Addr} {n' c' : Nat} {F' : Option Addr} {m' d' : Nat} {R' : Option Addr} {k' e' : Nat} {W' : List Int} {E' P' : List (Int × Int)} {p1 p2 x : Int}
set_option maxRecDepth 100000 in
set_option maxHeartbeats 8000000 in
theorem places_1 (w : World) (hT : DTab w) (hl : InL w A n c F m d R k e W E P) (ho : InL w A' n' c' F' m' d' R' k' e' W' E' P') (hn : ¬ (n ≤ 70 ∧ m ≤ 300)) : Calls Tryd.prog 3 #[.agg #[.slice A n c, .slice F m d, .slice R k e], .agg #[.slice A' n' c', .slice F' m' d', .slice R' k' e'], .agg #[.int .i64 p1, .int .i64 p2], .int .i64 x] w fun z w' => z = .returned (.bool true) ∧ Below w.heap.size w w' := by
  have HTW := Lib.hid (fun W (h : Below w.heap.size w W) => DTab.via hT h)
  have B0 := Lib.hid (BxP.start hl ho p1 p2)
  have HSZ := Lib.hid ((⟨hl.ln, hl.lm, ho.ln, ho.lm⟩ : n ≤ 9223372036854775807 ∧ m ≤ 9223372036854775807 ∧ n' ≤ 9223372036854775807 ∧ m' ≤ 9223372036854775807))
  have HNO := Lib.hid hn
  clear hl ho hT hn
  go_enter Tryd.func3, Tryd.ntmps3
  go_wp2_with fail
  refine (awakeL_any _ (HTW.out _ B0.out.bel)).mono ?_
  rintro z w1 ⟨rfl, b1⟩
  have B1 := Lib.hid (B0.out.next b1)
  have a0 := B1.out.a0
  have a1 := B1.out.a1
  have a2 := B1.out.a2
  have b0 := B1.out.b0
  have b1' := B1.out.b1
  have b2 := B1.out.b2
  clear b1
  go_wp2_with fail
  refine (few_no A F n c m d _ HSZ.out.1 HSZ.out.2.1 HNO.out).mono ?_
  rintro z w2 ⟨rfl, b9⟩
  have B2 := Lib.hid (B1.out.next b9)
  clear b9 a0 a1 a2 b0 b1' b2
  have a0 := B2.out.a0
  have a1 := B2.out.a1
  have a2 := B2.out.a2
  have b0 := B2.out.b0
  have b1' := B2.out.b1
  have b2 := B2.out.b2
  go_wp2_with fail
  refine (awakeL_any _ (HTW.out _ B2.out.bel)).mono ?_
  rintro z w3 ⟨rfl, b10⟩
  have B3 := Lib.hid (B2.out.next b10)
  clear b10
  go_wp2_with fail
  go_ret
  exact ⟨rfl, B3.out.bel⟩
set_option maxRecDepth 100000 in
set_option maxHeartbeats 8000000 in
theorem places_2 (w : World) (hT : DTab w) (hl : InL w A n c F m d R k e W E P) (ho : InL w A' n' c' F' m' d' R' k' e' W' E' P') (l1 : n ≤ 70) (l2 : m ≤ 300) (h3 : 70 < k) : Calls Tryd.prog 3 #[.agg #[.slice A n c, .slice F m d, .slice R k e], .agg #[.slice A' n' c', .slice F' m' d', .slice R' k' e'], .agg #[.int .i64 p1, .int .i64 p2], .int .i64 x] w fun z w' => z = .returned (.bool true) ∧ Below w.heap.size w w' := by
  have HTW := Lib.hid (fun W (h : Below w.heap.size w W) => DTab.via hT h)
  have B0 := Lib.hid (BxP.start hl ho p1 p2)
  have g1 : decide (70 < k) = true := by simpa using h3
  have g2 : decide ((70 : Int) < (k : Int)) = true := by rw [decide_eq_true_iff]; omega
  have g3 : decide (k ≤ 70) = false := by rw [decide_eq_false_iff_not]; omega
  have g4 : decide ((k : Int) ≤ 70) = false := by rw [decide_eq_false_iff_not]; omega
  clear hl ho hT
  go_enter Tryd.func3, Tryd.ntmps3
  go_wp2_with fail
  refine (awakeL_any _ (HTW.out _ B0.out.bel)).mono ?_
  rintro z w1 ⟨rfl, b1⟩
  have B1 := Lib.hid (B0.out.next b1)
  have a0 := B1.out.a0
  have a1 := B1.out.a1
  have a2 := B1.out.a2
  have b0 := B1.out.b0
  have b1' := B1.out.b1
  have b2 := B1.out.b2
  clear b1
  go_wp2_with fail
  refine (few_yes A F n c m d _ l1 l2).mono ?_
  rintro z w2 ⟨rfl, b9⟩
  have B2 := Lib.hid (B1.out.next b9)
  clear b9 a0 a1 a2 b0 b1' b2
  have a0 := B2.out.a0
  have a1 := B2.out.a1
  have a2 := B2.out.a2
  have b0 := B2.out.b0
  have b1' := B2.out.b1
  have b2 := B2.out.b2
  go_wp2_with fail
  refine (awakeL_any _ (HTW.out _ B2.out.bel)).mono ?_
  rintro z w3 ⟨rfl, b10⟩
  have B3 := Lib.hid (B2.out.next b10)
  clear b10
  go_wp2_with fail
  go_ret
  exact ⟨rfl, B3.out.bel⟩
set_option maxRecDepth 100000 in
set_option maxHeartbeats 8000000 in
theorem places_3 (w : World) (hT : DTab w) (hl : InL w A n c F m d R k e W E P) (ho : InL w A' n' c' F' m' d' R' k' e' W' E' P') (l1 : n ≤ 70) (l2 : m ≤ 300) (l3 : k ≤ 70) (hn : ¬ (n' ≤ 70 ∧ m' ≤ 300)) : Calls Tryd.prog 3 #[.agg #[.slice A n c, .slice F m d, .slice R k e], .agg #[.slice A' n' c', .slice F' m' d', .slice R' k' e'], .agg #[.int .i64 p1, .int .i64 p2], .int .i64 x] w fun z w' => z = .returned (.bool true) ∧ Below w.heap.size w w' := by
  have HTW := Lib.hid (fun W (h : Below w.heap.size w W) => DTab.via hT h)
  have B0 := Lib.hid (BxP.start hl ho p1 p2)
  have HSZ := Lib.hid ((⟨hl.ln, hl.lm, ho.ln, ho.lm⟩ : n ≤ 9223372036854775807 ∧ m ≤ 9223372036854775807 ∧ n' ≤ 9223372036854775807 ∧ m' ≤ 9223372036854775807))
  have HNO := Lib.hid hn
  have g1 : decide (70 < k) = false := by rw [decide_eq_false_iff_not]; omega
  have g2 : decide ((70 : Int) < (k : Int)) = false := by rw [decide_eq_false_iff_not]; omega
  have g3 : decide (k ≤ 70) = true := by rw [decide_eq_true_iff]; omega
  have g4 : decide ((k : Int) ≤ 70) = true := by rw [decide_eq_true_iff]; omega
  clear hl ho hT hn
  go_enter Tryd.func3, Tryd.ntmps3
  go_wp2_with fail
  refine (awakeL_any _ (HTW.out _ B0.out.bel)).mono ?_
  rintro z w1 ⟨rfl, b1⟩
  have B1 := Lib.hid (B0.out.next b1)
  have a0 := B1.out.a0
  have a1 := B1.out.a1
  have a2 := B1.out.a2
  have b0 := B1.out.b0
  have b1' := B1.out.b1
  have b2 := B1.out.b2
  clear b1
  go_wp2_with fail
  refine (few_yes A F n c m d _ l1 l2).mono ?_
  rintro z w2 ⟨rfl, b9⟩
  have B2 := Lib.hid (B1.out.next b9)
  clear b9 a0 a1 a2 b0 b1' b2
  have a0 := B2.out.a0
  have a1 := B2.out.a1
  have a2 := B2.out.a2
  have b0 := B2.out.b0
  have b1' := B2.out.b1
  have b2 := B2.out.b2
  go_wp2_with fail
  refine (few_no A' F' n' c' m' d' _ HSZ.out.2.2.1 HSZ.out.2.2.2 HNO.out).mono ?_
  rintro z w3 ⟨rfl, b10⟩
  have B3 := Lib.hid (B2.out.next b10)
  clear b10 a0 a1 a2 b0 b1' b2
  have a0 := B3.out.a0
  have a1 := B3.out.a1
  have a2 := B3.out.a2
  have b0 := B3.out.b0
  have b1' := B3.out.b1
  have b2 := B3.out.b2
  go_wp2_with fail
  refine (awakeL_any _ (HTW.out _ B3.out.bel)).mono ?_
  rintro z w4 ⟨rfl, b11⟩
  have B4 := Lib.hid (B3.out.next b11)
  clear b11
  go_wp2_with fail
  go_ret
  exact ⟨rfl, B4.out.bel⟩
set_option maxRecDepth 100000 in
set_option maxHeartbeats 8000000 in
theorem places_4 (w : World) (hT : DTab w) (hl : InL w A n c F m d R k e W E P) (ho : InL w A' n' c' F' m' d' R' k' e' W' E' P') (l1 : n ≤ 70) (l2 : m ≤ 300) (l3 : k ≤ 70) (l4 : n' ≤ 70) (l5 : m' ≤ 300) (h6 : 70 < k') : Calls Tryd.prog 3 #[.agg #[.slice A n c, .slice F m d, .slice R k e], .agg #[.slice A' n' c', .slice F' m' d', .slice R' k' e'], .agg #[.int .i64 p1, .int .i64 p2], .int .i64 x] w fun z w' => z = .returned (.bool true) ∧ Below w.heap.size w w' := by
  have HTW := Lib.hid (fun W (h : Below w.heap.size w W) => DTab.via hT h)
  have B0 := Lib.hid (BxP.start hl ho p1 p2)
  have k1 : decide (70 < k) = false := by rw [decide_eq_false_iff_not]; omega
  have k2 : decide ((70 : Int) < (k : Int)) = false := by rw [decide_eq_false_iff_not]; omega
  have k3 : decide (k ≤ 70) = true := by rw [decide_eq_true_iff]; omega
  have k4 : decide ((k : Int) ≤ 70) = true := by rw [decide_eq_true_iff]; omega
  have g1 : decide (70 < k') = true := by simpa using h6
  have g2 : decide ((70 : Int) < (k' : Int)) = true := by rw [decide_eq_true_iff]; omega
  have g3 : decide (k' ≤ 70) = false := by rw [decide_eq_false_iff_not]; omega
  have g4 : decide ((k' : Int) ≤ 70) = false := by rw [decide_eq_false_iff_not]; omega
  clear hl ho hT
  go_enter Tryd.func3, Tryd.ntmps3
  go_wp2_with fail
  refine (awakeL_any _ (HTW.out _ B0.out.bel)).mono ?_
  rintro z w1 ⟨rfl, b1⟩
  have B1 := Lib.hid (B0.out.next b1)
  have a0 := B1.out.a0
  have a1 := B1.out.a1
  have a2 := B1.out.a2
  have b0 := B1.out.b0
  have b1' := B1.out.b1
  have b2 := B1.out.b2
  clear b1
  go_wp2_with fail
  refine (few_yes A F n c m d _ l1 l2).mono ?_
  rintro z w2 ⟨rfl, b9⟩
  have B2 := Lib.hid (B1.out.next b9)
  clear b9 a0 a1 a2 b0 b1' b2
  have a0 := B2.out.a0
  have a1 := B2.out.a1
  have a2 := B2.out.a2
  have b0 := B2.out.b0
  have b1' := B2.out.b1
  have b2 := B2.out.b2
  go_wp2_with fail
  refine (few_yes A' F' n' c' m' d' _ l4 l5).mono ?_
  rintro z w3 ⟨rfl, b10⟩
  have B3 := Lib.hid (B2.out.next b10)
  clear b10 a0 a1 a2 b0 b1' b2
  have a0 := B3.out.a0
  have a1 := B3.out.a1
  have a2 := B3.out.a2
  have b0 := B3.out.b0
  have b1' := B3.out.b1
  have b2 := B3.out.b2
  go_wp2_with fail
  refine (awakeL_any _ (HTW.out _ B3.out.bel)).mono ?_
  rintro z w4 ⟨rfl, b11⟩
  have B4 := Lib.hid (B3.out.next b11)
  clear b11
  go_wp2_with fail
  go_ret
  exact ⟨rfl, B4.out.bel⟩
set_option maxRecDepth 100000 in
set_option maxHeartbeats 32000000 in
theorem places_5 (w : World) (hT : DTab w) (hl : InL w A n c F m d R k e W E P) (ho : InL w A' n' c' F' m' d' R' k' e' W' E' P') (hx1 : -9223372036854775808 ≤ x) (hx2 : x ≤ 9223372036854775807) (l1 : n ≤ 70) (l2 : m ≤ 300) (l3 : k ≤ 70) (l4 : n' ≤ 70) (l5 : m' ≤ 300) (l6 : k' ≤ 70) : Calls Tryd.prog 3 #[.agg #[.slice A n c, .slice F m d, .slice R k e], .agg #[.slice A' n' c', .slice F' m' d', .slice R' k' e'], .agg #[.int .i64 p1, .int .i64 p2], .int .i64 x] w fun z w' => z = .returned (.bool true) ∧ Below w.heap.size w w' := by
  have HTW := Lib.hid (fun W (h : Below w.heap.size w W) => DTab.via hT h)
  have B0 := Lib.hid (BxP.start hl ho p1 p2)
  have k1 : decide (70 < k) = false := by rw [decide_eq_false_iff_not]; omega
  have k2 : decide ((70 : Int) < (k : Int)) = false := by rw [decide_eq_false_iff_not]; omega
  have k3 : decide (k ≤ 70) = true := by rw [decide_eq_true_iff]; omega
  have k4 : decide ((k : Int) ≤ 70) = true := by rw [decide_eq_true_iff]; omega
  have g1 : decide (70 < k') = false := by rw [decide_eq_false_iff_not]; omega
  have g2 : decide ((70 : Int) < (k' : Int)) = false := by rw [decide_eq_false_iff_not]; omega
  have g3 : decide (k' ≤ 70) = true := by rw [decide_eq_true_iff]; omega
  have g4 : decide ((k' : Int) ≤ 70) = true := by rw [decide_eq_true_iff]; omega
  have HX := Lib.hid (And.intro hx1 hx2)
  have HK := Lib.hid hl.hk
  obtain ⟨r, hr⟩ : ∃ r, r = decide ((W = W' ∧ E = E') ∧ P = P') := ⟨_, rfl⟩
  have HRR := Lib.hid hr
  clear hl ho hT hr
  go_enter Tryd.func3, Tryd.ntmps3
  go_wp2_with fail
  refine (awakeL_any _ (HTW.out _ B0.out.bel)).mono ?_
  rintro z w1 ⟨rfl, b1⟩
  have B1 := Lib.hid (B0.out.next b1)
  have a0 := B1.out.a0
  have a1 := B1.out.a1
  have a2 := B1.out.a2
  have b0 := B1.out.b0
  have b1' := B1.out.b1
  have b2 := B1.out.b2
  clear b1
  go_wp2_with fail
  refine (few_yes A F n c m d _ l1 l2).mono ?_
  rintro z w2 ⟨rfl, b9⟩
  have B2 := Lib.hid (B1.out.next b9)
  clear b9 a0 a1 a2 b0 b1' b2
  have a0 := B2.out.a0
  have a1 := B2.out.a1
  have a2 := B2.out.a2
  have b0 := B2.out.b0
  have b1' := B2.out.b1
  have b2 := B2.out.b2
  go_wp2_with fail
  refine (few_yes A' F' n' c' m' d' _ l4 l5).mono ?_
  rintro z w3 ⟨rfl, b10⟩
  have B3 := Lib.hid (B2.out.next b10)
  clear b10 a0 a1 a2 b0 b1' b2
  have a0 := B3.out.a0
  have a1 := B3.out.a1
  have a2 := B3.out.a2
  have b0 := B3.out.b0
  have b1' := B3.out.b1
  have b2 := B3.out.b2
  clear a0 a1 a2 b0 b1' b2
  have a2 := B3.out.a2
  have b2 := B3.out.b2
  go_wp2
  clear k1 k2 k3 k4 g1 g2 g3 g4 a2 b2
  go_loopw [9, 10, 11] (fun f g i wr => ∃ (j : Nat) (ft lt : Int), j ≤ k ∧ i = .int .i64 j ∧ f = .int .i64 ft ∧ g = .int .i64 lt ∧ Hid (ft = idxV (P.take j) (p1, p2)) ∧ Hid (lt = if x < 0 then -1 else lastK P x j) ∧ Hid (BxP w A n c F m d R k e W E P A' n' c' F' m' d' R' k' e' W' E' P' p1 p2 wr)) (fun _ _ i _ => k - (intOf i).toNat)
  case atStart => exact ⟨0, -1, -1, Nat.zero_le _, rfl, rfl, rfl, Lib.hid rfl, Lib.hid (by split <;> rfl), Lib.hid B3.out⟩
  case round =>
    obtain ⟨j, ft, lt, hj, rfl, rfl, rfl, HFT, HLT, HB⟩ := hrel
    clear B0 B1 B2 B3
    by_cases hlt : j < k
    · obtain ⟨bq, oq, ⟨x1, x2⟩, rfl, hbl, hx1, hc1, hc2⟩ := HB.out.l.pcs.at_ (k := j) (by rw [HK.out]; exact hlt)
      simp only at hc1 hc2
      have HGD : Hid ((P.getD j (0, 0)).1 = x1) := Lib.hid (by rw [List.getD_eq_getElem?_getD, hx1]; rfl)
      have HXJ := Lib.hid hx1
      have a2 := HB.out.a2
      have p0 := HB.out.q0
      have p1' := HB.out.q1
      clear hx1
      by_cases hf : ft < 0
      · by_cases hxy : (x1, x2) = (p1, p2)
        · by_cases hp : 0 ≤ x
          · by_cases hs : x1 = x
            · have HF2 := Lib.hid (idxV_step (p := (p1, p2)) HXJ.out)
              rw [← HFT.out] at HF2
              have HF3 : Hid ((j : Int) = idxV (P.take (j + 1)) (p1, p2)) := Lib.hid (by rw [HF2.out, if_pos ⟨hf, hxy⟩])
              have HL3 : Hid ((j : Int) = if x < 0 then -1 else lastK P x (j + 1)) := Lib.hid (by rw [if_neg (by omega), lastK, if_pos (by rw [HGD.out]; exact hs)])
              have hb : (x1 == p1 && x2 == p2) = true := by injection hxy with h1 h2; subst h1 h2; simp
              have hrun := fun W => piece_eql_run x1 x2 p1 p2 W
              simp only [hb] at hrun
              have hfd : decide (ft < 0) = true := decide_eq_true hf
              have hp1 : decide (0 ≤ x) = true := decide_eq_true hp
              have hp2 : decide (x < 0) = false := decide_eq_false (by omega)
              have hs2 : (x1 == x) = true := by simpa using hs
              clear HF2 HFT HLT HXJ HGD hxy hb hs
              go_wp2
              go_quiet (fail)
              go_wp2
              go_roundw
              case rel => exact ⟨j + 1, _, _, by omega, by go_num, rfl, rfl, HF3, HL3, Lib.hid (HB.out.next (below_drewN (Below.refl _ _) _))⟩
              case measure => simp [intOf]; omega
            · have HF2 := Lib.hid (idxV_step (p := (p1, p2)) HXJ.out)
              rw [← HFT.out] at HF2
              have HF3 : Hid ((j : Int) = idxV (P.take (j + 1)) (p1, p2)) := Lib.hid (by rw [HF2.out, if_pos ⟨hf, hxy⟩])
              have HL3 : Hid (lt = if x < 0 then -1 else lastK P x (j + 1)) := Lib.hid (by rw [HLT.out, if_neg (by omega), if_neg (by omega), lastK, if_neg (by rw [HGD.out]; exact hs)])
              have hb : (x1 == p1 && x2 == p2) = true := by injection hxy with h1 h2; subst h1 h2; simp
              have hrun := fun W => piece_eql_run x1 x2 p1 p2 W
              simp only [hb] at hrun
              have hfd : decide (ft < 0) = true := decide_eq_true hf
              have hp1 : decide (0 ≤ x) = true := decide_eq_true hp
              have hp2 : decide (x < 0) = false := decide_eq_false (by omega)
              have hs2 : (x1 == x) = false := by simpa using hs
              clear HF2 HFT HLT HXJ HGD hxy hb hs
              go_wp2
              go_quiet (fail)
              go_wp2
              go_roundw
              case rel => exact ⟨j + 1, _, _, by omega, by go_num, rfl, rfl, HF3, HL3, Lib.hid (HB.out.next (below_drewN (Below.refl _ _) _))⟩
              case measure => simp [intOf]; omega
          · have HF2 := Lib.hid (idxV_step (p := (p1, p2)) HXJ.out)
            rw [← HFT.out] at HF2
            have HF3 : Hid ((j : Int) = idxV (P.take (j + 1)) (p1, p2)) := Lib.hid (by rw [HF2.out, if_pos ⟨hf, hxy⟩])
            have HL3 : Hid (lt = if x < 0 then -1 else lastK P x (j + 1)) := Lib.hid (by rw [HLT.out, if_pos (by omega), if_pos (by omega)])
            have hb : (x1 == p1 && x2 == p2) = true := by injection hxy with h1 h2; subst h1 h2; simp
            have hrun := fun W => piece_eql_run x1 x2 p1 p2 W
            simp only [hb] at hrun
            have hfd : decide (ft < 0) = true := decide_eq_true hf
            have hp1 : decide (0 ≤ x) = false := decide_eq_false hp
            have hp2 : decide (x < 0) = true := decide_eq_true (by omega)
            clear HF2 HFT HLT HXJ HGD hxy hb
            go_wp2
            go_quiet (fail)
            go_wp2
            go_roundw
            case rel => exact ⟨j + 1, _, _, by omega, by go_num, rfl, rfl, HF3, HL3, Lib.hid (HB.out.next (below_drewN (Below.refl _ _) _))⟩
            case measure => simp [intOf]; omega
        · by_cases hp : 0 ≤ x
          · by_cases hs : x1 = x
            · have HF2 := Lib.hid (idxV_step (p := (p1, p2)) HXJ.out)
              rw [← HFT.out] at HF2
              have HF3 : Hid (ft = idxV (P.take (j + 1)) (p1, p2)) := Lib.hid (by rw [HF2.out, if_neg (fun k => hxy k.2)])
              have HL3 : Hid ((j : Int) = if x < 0 then -1 else lastK P x (j + 1)) := Lib.hid (by rw [if_neg (by omega), lastK, if_pos (by rw [HGD.out]; exact hs)])
              have hb : (x1 == p1 && x2 == p2) = false := by
                rw [Bool.and_eq_false_iff]
                by_cases h1 : x1 = p1
                · exact .inr (by simpa using fun h2 => hxy (by rw [h1, h2]))
                · exact .inl (by simpa using h1)
              have hrun := fun W => piece_eql_run x1 x2 p1 p2 W
              simp only [hb] at hrun
              have hfd : decide (ft < 0) = true := decide_eq_true hf
              have hp1 : decide (0 ≤ x) = true := decide_eq_true hp
              have hp2 : decide (x < 0) = false := decide_eq_false (by omega)
              have hs2 : (x1 == x) = true := by simpa using hs
              clear HF2 HFT HLT HXJ HGD hxy hb hs
              go_wp2
              go_quiet (fail)
              go_wp2
              go_roundw
              case rel => exact ⟨j + 1, _, _, by omega, by go_num, rfl, rfl, HF3, HL3, Lib.hid (HB.out.next (below_drewN (Below.refl _ _) _))⟩
              case measure => simp [intOf]; omega
            · have HF2 := Lib.hid (idxV_step (p := (p1, p2)) HXJ.out)
              rw [← HFT.out] at HF2
              have HF3 : Hid (ft = idxV (P.take (j + 1)) (p1, p2)) := Lib.hid (by rw [HF2.out, if_neg (fun k => hxy k.2)])
              have HL3 : Hid (lt = if x < 0 then -1 else lastK P x (j + 1)) := Lib.hid (by rw [HLT.out, if_neg (by omega), if_neg (by omega), lastK, if_neg (by rw [HGD.out]; exact hs)])
              have hb : (x1 == p1 && x2 == p2) = false := by
                rw [Bool.and_eq_false_iff]
                by_cases h1 : x1 = p1
                · exact .inr (by simpa using fun h2 => hxy (by rw [h1, h2]))
                · exact .inl (by simpa using h1)
              have hrun := fun W => piece_eql_run x1 x2 p1 p2 W
              simp only [hb] at hrun
              have hfd : decide (ft < 0) = true := decide_eq_true hf
              have hp1 : decide (0 ≤ x) = true := decide_eq_true hp
              have hp2 : decide (x < 0) = false := decide_eq_false (by omega)
              have hs2 : (x1 == x) = false := by simpa using hs
              clear HF2 HFT HLT HXJ HGD hxy hb hs
              go_wp2
              go_quiet (fail)
              go_wp2
              go_roundw
              case rel => exact ⟨j + 1, _, _, by omega, by go_num, rfl, rfl, HF3, HL3, Lib.hid (HB.out.next (below_drewN (Below.refl _ _) _))⟩
              case measure => simp [intOf]; omega
          · have HF2 := Lib.hid (idxV_step (p := (p1, p2)) HXJ.out)
            rw [← HFT.out] at HF2
            have HF3 : Hid (ft = idxV (P.take (j + 1)) (p1, p2)) := Lib.hid (by rw [HF2.out, if_neg (fun k => hxy k.2)])
            have HL3 : Hid (lt = if x < 0 then -1 else lastK P x (j + 1)) := Lib.hid (by rw [HLT.out, if_pos (by omega), if_pos (by omega)])
            have hb : (x1 == p1 && x2 == p2) = false := by
              rw [Bool.and_eq_false_iff]
              by_cases h1 : x1 = p1
              · exact .inr (by simpa using fun h2 => hxy (by rw [h1, h2]))
              · exact .inl (by simpa using h1)
            have hrun := fun W => piece_eql_run x1 x2 p1 p2 W
            simp only [hb] at hrun
            have hfd : decide (ft < 0) = true := decide_eq_true hf
            have hp1 : decide (0 ≤ x) = false := decide_eq_false hp
            have hp2 : decide (x < 0) = true := decide_eq_true (by omega)
            clear HF2 HFT HLT HXJ HGD hxy hb
            go_wp2
            go_quiet (fail)
            go_wp2
            go_roundw
            case rel => exact ⟨j + 1, _, _, by omega, by go_num, rfl, rfl, HF3, HL3, Lib.hid (HB.out.next (below_drewN (Below.refl _ _) _))⟩
            case measure => simp [intOf]; omega
      · by_cases hp : 0 ≤ x
        · by_cases hs : x1 = x
          · have HF2 := Lib.hid (idxV_step (p := (p1, p2)) HXJ.out)
            rw [← HFT.out] at HF2
            have HF3 : Hid (ft = idxV (P.take (j + 1)) (p1, p2)) := Lib.hid (by rw [HF2.out, if_neg (fun k => hf k.1)])
            have HL3 : Hid ((j : Int) = if x < 0 then -1 else lastK P x (j + 1)) := Lib.hid (by rw [if_neg (by omega), lastK, if_pos (by rw [HGD.out]; exact hs)])
            have hfd : decide (ft < 0) = false := decide_eq_false hf
            have hp1 : decide (0 ≤ x) = true := decide_eq_true hp
            have hp2 : decide (x < 0) = false := decide_eq_false (by omega)
            have hs2 : (x1 == x) = true := by simpa using hs
            clear HF2 HFT HLT HXJ HGD hs
            go_wp2
            go_quiet (fail)
            go_wp2
            go_roundw
            case rel => exact ⟨j + 1, _, _, by omega, by go_num, rfl, rfl, HF3, HL3, Lib.hid (HB.out.next (below_drewN (Below.refl _ _) _))⟩
            case measure => simp [intOf]; omega
          · have HF2 := Lib.hid (idxV_step (p := (p1, p2)) HXJ.out)
            rw [← HFT.out] at HF2
            have HF3 : Hid (ft = idxV (P.take (j + 1)) (p1, p2)) := Lib.hid (by rw [HF2.out, if_neg (fun k => hf k.1)])
            have HL3 : Hid (lt = if x < 0 then -1 else lastK P x (j + 1)) := Lib.hid (by rw [HLT.out, if_neg (by omega), if_neg (by omega), lastK, if_neg (by rw [HGD.out]; exact hs)])
            have hfd : decide (ft < 0) = false := decide_eq_false hf
            have hp1 : decide (0 ≤ x) = true := decide_eq_true hp
            have hp2 : decide (x < 0) = false := decide_eq_false (by omega)
            have hs2 : (x1 == x) = false := by simpa using hs
            clear HF2 HFT HLT HXJ HGD hs
            go_wp2
            go_quiet (fail)
            go_wp2
            go_roundw
            case rel => exact ⟨j + 1, _, _, by omega, by go_num, rfl, rfl, HF3, HL3, Lib.hid (HB.out.next (below_drewN (Below.refl _ _) _))⟩
            case measure => simp [intOf]; omega
        · have HF2 := Lib.hid (idxV_step (p := (p1, p2)) HXJ.out)
          rw [← HFT.out] at HF2
          have HF3 : Hid (ft = idxV (P.take (j + 1)) (p1, p2)) := Lib.hid (by rw [HF2.out, if_neg (fun k => hf k.1)])
          have HL3 : Hid (lt = if x < 0 then -1 else lastK P x (j + 1)) := Lib.hid (by rw [HLT.out, if_pos (by omega), if_pos (by omega)])
          have hfd : decide (ft < 0) = false := decide_eq_false hf
          have hp1 : decide (0 ≤ x) = false := decide_eq_false hp
          have hp2 : decide (x < 0) = true := decide_eq_true (by omega)
          clear HF2 HFT HLT HXJ HGD
          go_wp2
          go_quiet (fail)
          go_wp2
          go_roundw
          case rel => exact ⟨j + 1, _, _, by omega, by go_num, rfl, rfl, HF3, HL3, Lib.hid (HB.out.next (below_drewN (Below.refl _ _) _))⟩
          case measure => simp [intOf]; omega
    · obtain rfl : k = j := by omega
      have hft := HFT.out
      rw [List.take_of_length_le (by rw [HK.out]; exact Nat.le_refl _)] at hft
      have hlt2 : lt = lastV P x := by rw [HLT.out]; unfold lastV; rw [HK.out]
      clear HFT HLT
      have HFT := Lib.hid hft
      have HLT := Lib.hid hlt2
      have a2 := HB.out.a2
      clear hft hlt2
      go_wp2_with fail
      refine wp_region_facts' [71, 72, 73, 74, 75, 76, 77, 78, 79, 80, 81, 82, 83, 84, 85, 86, 87, 88, 89, 90, 91, 92, 93, 94, 95, 8] [] [(6, true), (14, true)] (by kernel_rfl) (by kernel_rfl) (by kernel_rfl) (by intro d hd; simp at hd ⊢; omega) (BxP w A n c F m d R k e W E P A' n' c' F' m' d' R' k' e' W' E' P' p1 p2) (PhiP A n c F m d R k e W E P A' n' c' F' m' d' R' k' e' W' E' P' w.heap.size p1 p2 x ft lt r)
        (fun x y h hb => h.next hb) (phiP_below A n c F m d R k e W E P A' n' c' F' m' d' R' k' e' W' E' P' w.heap.size p1 p2 x ft lt r) (HB.out.next (Below.refl _ _).drew) (fun p hp v w hv => by
          simp only [List.mem_cons, List.not_mem_nil, or_false] at hp
          rcases hp with rfl | rfl <;> exact hv) (fun kq hkq => by simp at hkq) ?hstep ?hend
      case hstep =>
        intro kq o ho hw a w hI hA hd K hK
        obtain ⟨ρ, hρ⟩ : ∃ ρ, a.eval = ρ := ⟨_, rfl⟩
        rw [hρ] at hA hd
        match kq, ho with
        | 0, ho =>
          have hoo := Option.some.inj ho
          subst hoo
          exact fx_val hK hρ _ (by have h := hA.tmp 4 (by decide); have h0 := hI.a0; have h1 := hI.a1; have h2 := hI.a2; simp [execOp, h, h0, h1, h2, go_sem]) rfl
        | 1, ho =>
          have hoo := Option.some.inj ho
          subst hoo
          have f0 : (ρ (.tmp 71)) = .agg #[.slice A n c, .slice F m d, .slice R k e] := hd ⟨0, .data⟩ (by simp) (by rfl)
          exact fx_call hK hρ 9 _ _ #[.agg #[.slice A n c, .slice F m d, .slice R k e]] rfl (by simp only [List.map_toArray, List.map_cons, List.map_nil, f0]) (eg_of Tryd.func9 (by kernel_rfl) rfl) ((ownL_any _ hI.l (HTW.out _ hI.bel) (by omega) (by omega) (by omega)).mono fun e w' ⟨⟨A1, c1, F1, d1, R1, e1, he, hL⟩, hb⟩ => ⟨_, he, ⟨A1, c1, F1, d1, R1, e1, rfl, hL⟩, hb⟩)
        | 2, ho =>
          have hoo := Option.some.inj ho
          subst hoo
          exact fx_val hK hρ _ (by have h := hA.tmp 6 (by decide); have h0 := hI.q0; have h1 := hI.q1; simp [execOp, h, h0, h1, go_sem]) rfl
        | 3, ho =>
          have hoo := Option.some.inj ho
          subst hoo
          have f1 : GotLq n m k W E P (ρ (.tmp 72)) w := hd ⟨1, .data⟩ (by simp) (by rfl)
          have f2 : (ρ (.tmp 73)) = .agg #[.int .i64 p1, .int .i64 p2] := hd ⟨2, .data⟩ (by simp) (by rfl)
          obtain ⟨A1, c1, F1, d1, R1, e1, f1', hL⟩ := f1
          exact fx_call hK hρ 8 _ _ #[.agg #[.slice A1 n c1, .slice F1 m d1, .slice R1 k e1], .agg #[.int .i64 p1, .int .i64 p2]] rfl (by simp only [List.map_toArray, List.map_cons, List.map_nil, f1', f2]) (eg_of Tryd.func8 (by kernel_rfl) rfl) ((nodeL_any _ p1 p2 hL).mono fun e w' ⟨he, hb⟩ => ⟨_, he, by show Value.int .i64 _ = .int .i64 ft; rw [HFT.out], hb⟩)
        | 4, ho =>
          have hoo := Option.some.inj ho
          subst hoo
          exact fx_val hK hρ (.int .i64 ft) (by have h := hA.tmp 9 (by decide); simp [execOp, h, go_sem]) rfl
        | 5, ho =>
          have hoo := Option.some.inj ho
          subst hoo
          have f3 : (ρ (.tmp 74)) = .int .i64 ft := hd ⟨3, .data⟩ (by simp) (by rfl)
          have f4 : (ρ (.tmp 75)) = .int .i64 ft := hd ⟨4, .data⟩ (by simp) (by rfl)
          exact fx_val hK hρ (.bool true) (by simp [execOp, f3, f4, go_sem]) rfl
        | 6, ho =>
          have hoo := Option.some.inj ho
          subst hoo
          have f5 : (ρ (.tmp 76)) = .bool true := hd ⟨5, .data⟩ (by simp) (by rfl)
          exact fx_val hK hρ (.bool true) (by simp [execOp, f5, go_sem]) rfl
        | 7, ho =>
          have hoo := Option.some.inj ho
          subst hoo
          exact fx_val hK hρ _ (by have h := hA.tmp 4 (by decide); have h0 := hI.a0; have h1 := hI.a1; have h2 := hI.a2; simp [execOp, h, h0, h1, h2, go_sem]) rfl
        | 8, ho =>
          have hoo := Option.some.inj ho
          subst hoo
          have f7 : (ρ (.tmp 78)) = .agg #[.slice A n c, .slice F m d, .slice R k e] := hd ⟨7, .data⟩ (by simp) (by rfl)
          exact fx_call hK hρ 9 _ _ #[.agg #[.slice A n c, .slice F m d, .slice R k e]] rfl (by simp only [List.map_toArray, List.map_cons, List.map_nil, f7]) (eg_of Tryd.func9 (by kernel_rfl) rfl) ((ownL_any _ hI.l (HTW.out _ hI.bel) (by omega) (by omega) (by omega)).mono fun e w' ⟨⟨A1, c1, F1, d1, R1, e1, he, hL⟩, hb⟩ => ⟨_, he, ⟨A1, c1, F1, d1, R1, e1, rfl, hL⟩, hb⟩)
        | 9, ho =>
          have hoo := Option.some.inj ho
          subst hoo
          exact fx_val hK hρ (.int .i64 x) (by have h := hA.tmp 3 (by decide); simp [execOp, h, go_sem]) rfl
        | 10, ho =>
          have hoo := Option.some.inj ho
          subst hoo
          have f8 : GotLq n m k W E P (ρ (.tmp 79)) w := hd ⟨8, .data⟩ (by simp) (by rfl)
          have f9 : (ρ (.tmp 80)) = .int .i64 x := hd ⟨9, .data⟩ (by simp) (by rfl)
          obtain ⟨A1, c1, F1, d1, R1, e1, f8', hL⟩ := f8
          exact fx_call hK hρ 10 _ _ #[.agg #[.slice A1 n c1, .slice F1 m d1, .slice R1 k e1], .int .i64 x] rfl (by simp only [List.map_toArray, List.map_cons, List.map_nil, f8', f9]) (eg_of Tryd.func10 (by kernel_rfl) rfl) ((lastL_any _ x HX.out.1 HX.out.2 hL).mono fun e w' ⟨he, hb⟩ => ⟨_, he, by show Value.int .i64 _ = .int .i64 lt; rw [HLT.out], hb⟩)
        | 11, ho =>
          have hoo := Option.some.inj ho
          subst hoo
          exact fx_val hK hρ (.int .i64 lt) (by have h := hA.tmp 10 (by decide); simp [execOp, h, go_sem]) rfl
        | 12, ho =>
          have hoo := Option.some.inj ho
          subst hoo
          have f10 : (ρ (.tmp 81)) = .int .i64 lt := hd ⟨10, .data⟩ (by simp) (by rfl)
          have f11 : (ρ (.tmp 82)) = .int .i64 lt := hd ⟨11, .data⟩ (by simp) (by rfl)
          exact fx_val hK hρ (.bool true) (by simp [execOp, f10, f11, go_sem]) rfl
        | 13, ho =>
          have hoo := Option.some.inj ho
          subst hoo
          have f6 : (ρ (.tmp 77)) = .bool true := hd ⟨6, .data⟩ (by simp) (by rfl)
          have f12 : (ρ (.tmp 83)) = .bool true := hd ⟨12, .data⟩ (by simp) (by rfl)
          exact fx_val hK hρ (.bool true) (by simp [execOp, f6, f12, hA.const, go_sem]) rfl
        | 14, ho =>
          have hoo := Option.some.inj ho
          subst hoo
          have f13 : (ρ (.tmp 84)) = .bool true := hd ⟨13, .data⟩ (by simp) (by rfl)
          exact fx_val hK hρ (.bool true) (by simp [execOp, f13, go_sem]) rfl
        | 15, ho =>
          have hoo := Option.some.inj ho
          subst hoo
          exact fx_val hK hρ _ (by have h := hA.tmp 4 (by decide); have h0 := hI.a0; have h1 := hI.a1; have h2 := hI.a2; simp [execOp, h, h0, h1, h2, go_sem]) rfl
        | 16, ho =>
          have hoo := Option.some.inj ho
          subst hoo
          have f15 : (ρ (.tmp 86)) = .agg #[.slice A n c, .slice F m d, .slice R k e] := hd ⟨15, .data⟩ (by simp) (by rfl)
          exact fx_call hK hρ 9 _ _ #[.agg #[.slice A n c, .slice F m d, .slice R k e]] rfl (by simp only [List.map_toArray, List.map_cons, List.map_nil, f15]) (eg_of Tryd.func9 (by kernel_rfl) rfl) ((ownL_any _ hI.l (HTW.out _ hI.bel) (by omega) (by omega) (by omega)).mono fun e w' ⟨⟨A1, c1, F1, d1, R1, e1, he, hL⟩, hb⟩ => ⟨_, he, ⟨A1, c1, F1, d1, R1, e1, rfl, hL⟩, hb⟩)
        | 17, ho =>
          have hoo := Option.some.inj ho
          subst hoo
          exact fx_val hK hρ _ (by have h := hA.tmp 5 (by decide); have h0 := hI.b0; have h1 := hI.b1; have h2 := hI.b2; simp [execOp, h, h0, h1, h2, go_sem]) rfl
        | 18, ho =>
          have hoo := Option.some.inj ho
          subst hoo
          have f17 : (ρ (.tmp 88)) = .agg #[.slice A' n' c', .slice F' m' d', .slice R' k' e'] := hd ⟨17, .data⟩ (by simp) (by rfl)
          exact fx_call hK hρ 9 _ _ #[.agg #[.slice A' n' c', .slice F' m' d', .slice R' k' e']] rfl (by simp only [List.map_toArray, List.map_cons, List.map_nil, f17]) (eg_of Tryd.func9 (by kernel_rfl) rfl) ((ownL_any _ hI.o (HTW.out _ hI.bel) (by omega) (by omega) (by omega)).mono fun e w' ⟨⟨A1, c1, F1, d1, R1, e1, he, hL⟩, hb⟩ => ⟨_, he, ⟨A1, c1, F1, d1, R1, e1, rfl, hL⟩, hb⟩)
        | 19, ho =>
          have hoo := Option.some.inj ho
          subst hoo
          have f16 : GotLq n m k W E P (ρ (.tmp 87)) w := hd ⟨16, .data⟩ (by simp) (by rfl)
          have f18 : GotLq n' m' k' W' E' P' (ρ (.tmp 89)) w := hd ⟨18, .data⟩ (by simp) (by rfl)
          obtain ⟨A1, c1, F1, d1, R1, e1, f16', hL⟩ := f16
          obtain ⟨A2, c2, F2, d2, R2, e2, f18', hM⟩ := f18
          exact fx_call hK hρ 11 _ _ #[.agg #[.slice A1 n c1, .slice F1 m d1, .slice R1 k e1], .agg #[.slice A2 n' c2, .slice F2 m' d2, .slice R2 k' e2]] rfl (by simp only [List.map_toArray, List.map_cons, List.map_nil, f16', f18']) (eg_of Tryd.func11 (by kernel_rfl) rfl) ((sameL_any _ hL hM).mono fun e w' ⟨he, hb⟩ => ⟨_, he, by show Value.bool _ = .bool r; rw [HRR.out], hb⟩)
        | 20, ho =>
          have hoo := Option.some.inj ho
          subst hoo
          exact fx_val hK hρ _ (by have h := hA.tmp 4 (by decide); have h0 := hI.a0; have h1 := hI.a1; have h2 := hI.a2; simp [execOp, h, h0, h1, h2, go_sem]) rfl
        | 21, ho =>
          have hoo := Option.some.inj ho
          subst hoo
          exact fx_val hK hρ _ (by have h := hA.tmp 5 (by decide); have h0 := hI.b0; have h1 := hI.b1; have h2 := hI.b2; simp [execOp, h, h0, h1, h2, go_sem]) rfl
        | 22, ho =>
          have hoo := Option.some.inj ho
          subst hoo
          have f20 : (ρ (.tmp 91)) = .agg #[.slice A n c, .slice F m d, .slice R k e] := hd ⟨20, .data⟩ (by simp) (by rfl)
          have f21 : (ρ (.tmp 92)) = .agg #[.slice A' n' c', .slice F' m' d', .slice R' k' e'] := hd ⟨21, .data⟩ (by simp) (by rfl)
          exact fx_call hK hρ 12 _ _ #[.agg #[.slice A n c, .slice F m d, .slice R k e], .agg #[.slice A' n' c', .slice F' m' d', .slice R' k' e']] rfl (by simp only [List.map_toArray, List.map_cons, List.map_nil, f20, f21]) (eg_of Tryd.func12 (by kernel_rfl) rfl) ((rsameL_any _ (hI.l.isL (HTW.out _ hI.bel) (by omega) (by omega) (by omega)) (hI.o.isL (HTW.out _ hI.bel) (by omega) (by omega) (by omega))).mono fun e w' ⟨he, hb⟩ => ⟨_, he, by show Value.bool _ = .bool r; rw [HRR.out], hb⟩)
        | 23, ho =>
          have hoo := Option.some.inj ho
          subst hoo
          have f19 : (ρ (.tmp 90)) = .bool r := hd ⟨19, .data⟩ (by simp) (by rfl)
          have f22 : (ρ (.tmp 93)) = .bool r := hd ⟨22, .data⟩ (by simp) (by rfl)
          exact fx_val hK hρ (.bool true) (by simp [execOp, f19, f22, go_sem]) rfl
        | 24, ho =>
          have hoo := Option.some.inj ho
          subst hoo
          have f14 : (ρ (.tmp 85)) = .bool true := hd ⟨14, .data⟩ (by simp) (by rfl)
          have f23 : (ρ (.tmp 94)) = .bool true := hd ⟨23, .data⟩ (by simp) (by rfl)
          exact fx_val hK hρ (.bool true) (by simp [execOp, f14, f23, hA.const, go_sem]) rfl
        | 25, ho =>
          have hoo := Option.some.inj ho
          subst hoo
          have f24 : (ρ (.tmp 95)) = .bool true := hd ⟨24, .data⟩ (by simp) (by rfl)
          exact fx_val hK hρ (.bool true) (by simp [execOp, f24, go_sem]) rfl
        | kq + 26, ho => simp at ho
      case hend =>
        intro vals xw hI hF
        have fz : vals 8 = .bool true := hF 25 (by decide)
        simp only [fillA, fillL, List.contains_cons, List.contains_nil, Nat.reduceBEq, Bool.or_false, Bool.or_true, cond_true, cond_false, Nat.zero_add, Nat.reduceAdd]
        rw [fz]
        have HJ := Lib.hid hI
        clear hF hI fz a2
        go_wp2
        go_ret
        exact ⟨rfl, HJ.out.bel⟩
theorem walk_LowPlaces (w : World) (hl : InL w A n c F m d R k e W E P) (ho : InL w A' n' c' F' m' d' R' k' e' W' E' P') (p1 : Int) (w1 : -9223372036854775808 ≤ p1 ∧ p1 ≤ 9223372036854775807) (p2 : Int) (w2 : -9223372036854775808 ≤ p2 ∧ p2 ≤ 9223372036854775807) (x : Int) (w3 : -9223372036854775808 ≤ x ∧ x ≤ 9223372036854775807) (hT : DTab w) : Calls Tryd.prog 3 #[.agg #[.slice A n c, .slice F m d, .slice R k e], .agg #[.slice A' n' c', .slice F' m' d', .slice R' k' e'], .agg #[.int .i64 p1, .int .i64 p2], .int .i64 x] w fun z w' => z = .returned (.bool true) ∧ Below w.heap.size w w' := by
  by_cases h1 : n ≤ 70 ∧ m ≤ 300
  · by_cases h3 : k ≤ 70
    · by_cases h4 : n' ≤ 70 ∧ m' ≤ 300
      · by_cases h6 : k' ≤ 70
        · exact places_5 w hT hl ho w3.1 w3.2 h1.1 h1.2 h3 h4.1 h4.2 h6
        · exact places_4 w hT hl ho h1.1 h1.2 h3 h4.1 h4.2 (by omega)
      · exact places_3 w hT hl ho h1.1 h1.2 h3 h4
    · exact places_2 w hT hl ho h1.1 h1.2 (by omega)
  · exact places_1 w hT hl ho h1
end
end Go.Proofs.YtecjpclkiiaidaaDoor
