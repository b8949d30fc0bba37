/- DequeSteps in the seat YtnlempddoiidiaaDoor: its walk. No statement is proved here. -/
import Derived.Test.YtnlempddoiidiaaDoorZM13
import Derived.Test.YtnlempddoiidiaaDoorZDequeOpen
import Derived.Laws.StructEq
set_option linter.unusedSimpArgs false
set_option linter.unusedVariables false
set_option linter.unusedSimpArgs false
namespace Go.Proofs.YtnlempddoiidiaaDoor
open Go Go.RowKit

theorem rowV_types {g : Nat} {t u : TypeId} {vs us : List Value} {w : World} (h : RowV g t vs w) (h2 : RowV g u us w) (hne : t ≠ u) : False := by
  unfold RowV at h h2
  rw [h] at h2
  injection h2 with h2
  injection h2 with _ h3 _
  exact hne h3
theorem own_store {w : World} {base g j : Nat} {t : TypeId} {vs : List Value} {v u : Value} {zs : List Int} (h : OwnI w base v zs) (hr : RowV g t vs w) (ht : 3 ≠ t) : OwnI (w.setCell ⟨g, j, none⟩ u) base v zs := by
  refine ⟨h.1, ?_⟩
  rcases h.2 with hn | ⟨g', cap, cur, rfl, hg', hgg, rest⟩
  · exact .inl hn
  · refine .inr ⟨g', cap, cur, rfl, hg', ?_, rest⟩
    rw [heap_setCell_other _ _ _ _ (by
      show g' ≠ g
      intro e
      subst e
      unfold RowV at hr
      rw [hgg] at hr
      injection hr with hr
      injection hr with _ h3 _
      exact ht h3)]
    exact hgg
theorem own_store3 {w : World} {base g : Nat} {t : TypeId} {vs : List Value} {v x y z : Value} {zs : List Int} (h : OwnI w base v zs) (hr : RowV g t vs w) (ht : 3 ≠ t) : OwnI (((w.setCell ⟨g, 0, none⟩ x).setCell ⟨g, 1, none⟩ y).setCell ⟨g, 2, none⟩ z) base v zs :=
  own_store (own_store (own_store h hr ht) (hr.set 0 x) ht) ((hr.set 0 x).set 1 y) ht
theorem own_store6 {w : World} {base g : Nat} {t : TypeId} {vs : List Value} {v x y z p q r : Value} {zs : List Int} (h : OwnI w base v zs) (hr : RowV g t vs w) (ht : 3 ≠ t) : OwnI ((((((w.setCell ⟨g, 0, none⟩ x).setCell ⟨g, 1, none⟩ y).setCell ⟨g, 2, none⟩ z).setCell ⟨g, 3, none⟩ p).setCell ⟨g, 4, none⟩ q).setCell ⟨g, 5, none⟩ r) base v zs :=
  own_store (own_store (own_store (own_store3 h hr ht) (((hr.set 0 x).set 1 y).set 2 z) ht) ((((hr.set 0 x).set 1 y).set 2 z).set 3 p) ht) (((((hr.set 0 x).set 1 y).set 2 z).set 3 p).set 4 q) ht
theorem tk_fields : (Tryd.prog.fieldsOf 27).toList.map (fun f => (f.name, f.type, f.offset)) = [("Steal", 4, 0), ("At", 3, 1), ("Top", 3, 2), ("Bottom", 3, 3), ("Got", 3, 4), ("End", 25, 5)] := by kernel_rfl
theorem tk_self (st : Bool) (a b c d e : Int) (W : World) : (Op.equalIn 10000 27 (.agg #[.bool st, .int .i64 a, .int .i64 b, .int .i64 c, .int .i64 d, .int .i64 e]) (.agg #[.bool st, .int .i64 a, .int .i64 b, .int .i64 c, .int .i64 d, .int .i64 e])).run Tryd.prog W = .ok true W := by
  have hf := tk_fields
  rw [run_equalIn_agg (d := 9999) W 27 _ _ (by kernel_rfl) (by kernel_rfl)]
  generalize (Tryd.prog.fieldsOf 27).toList = fs at hf
  have e1 := fun a b W => run_equalIn_int (P := Tryd.prog) W 9998 3 .i64 .i64 a b Tryd.underlying3
  have e2 := fun a b W => run_equalIn_int (P := Tryd.prog) W 9998 25 .i64 .i64 a b Tryd.underlying25
  have e3 := fun a b W => run_equalIn_bool' (P := Tryd.prog) W 9998 4 a b Tryd.underlying4
  have p0 : ∀ W, (part 4 #[.bool st, .int .i64 a, .int .i64 b, .int .i64 c, .int .i64 d, .int .i64 e] 0).run Tryd.prog W = .ok (.bool st) W := fun W => by kernel_rfl
  have p1 : ∀ W, (part 3 #[.bool st, .int .i64 a, .int .i64 b, .int .i64 c, .int .i64 d, .int .i64 e] 1).run Tryd.prog W = .ok (.int .i64 a) W := fun W => by kernel_rfl
  have p2 : ∀ W, (part 3 #[.bool st, .int .i64 a, .int .i64 b, .int .i64 c, .int .i64 d, .int .i64 e] 2).run Tryd.prog W = .ok (.int .i64 b) W := fun W => by kernel_rfl
  have p3 : ∀ W, (part 3 #[.bool st, .int .i64 a, .int .i64 b, .int .i64 c, .int .i64 d, .int .i64 e] 3).run Tryd.prog W = .ok (.int .i64 c) W := fun W => by kernel_rfl
  have p4 : ∀ W, (part 3 #[.bool st, .int .i64 a, .int .i64 b, .int .i64 c, .int .i64 d, .int .i64 e] 4).run Tryd.prog W = .ok (.int .i64 d) W := fun W => by kernel_rfl
  have p5 : ∀ W, (part 25 #[.bool st, .int .i64 a, .int .i64 b, .int .i64 c, .int .i64 d, .int .i64 e] 5).run Tryd.prog W = .ok (.int .i64 e) W := fun W => by kernel_rfl
  match fs, hf with
  | [], hf => simp at hf
  | [_], hf => simp at hf
  | [_, _], hf => simp at hf
  | [_, _, _], hf => simp at hf
  | [_, _, _, _], hf => simp at hf
  | [_, _, _, _, _], hf => simp at hf
  | _ :: _ :: _ :: _ :: _ :: _ :: _ :: _, hf => simp at hf
  | [f0, f1, f2, f3, f4, f5], hf =>
    simp only [List.map_cons, List.map_nil, List.cons.injEq, Prod.mk.injEq, and_true] at hf
    obtain ⟨⟨n0, t0, o0⟩, ⟨n1, t1, o1⟩, ⟨n2, t2, o2⟩, ⟨n3, t3, o3⟩, ⟨n4, t4, o4⟩, n5, t5, o5⟩ := hf
    simp only [Op.eqFields, n0, n1, n2, n3, n4, n5, t0, t1, t2, t3, t4, t5, o0, o1, o2, o3, o4, o5]
    simp [p0, p1, p2, p3, p4, p5, e1, e2, e3]
theorem tk_eql_self (st : Bool) (a b c d e : Int) (W : World) : (binOp .eql 27 (.agg #[.bool st, .int .i64 a, .int .i64 b, .int .i64 c, .int .i64 d, .int .i64 e]) (.agg #[.bool st, .int .i64 a, .int .i64 b, .int .i64 c, .int .i64 d, .int .i64 e])).run Tryd.prog W = .ok (.bool true) W := by
  rw [run_eql_struct, tk_self]
  rfl
def rowsL (A : Option Addr) (n c : Nat) (T B : Int) (t : Tkr) : List (TypeId × List Value) := [(24, [.slice A n c, .int .i64 T, .int .i64 B]), (27, cT t)]
/-- What the reference hands out, as a ring. -/
theorem got_ringD {w : World} {A : Option Addr} {n c : Nat} {R : List Int} (h : IsQ w A n c R) (z : Int) : ∃ A3 n3 c3, (if z = 0 then Value.slice A n c else .slice none 0 0) = .slice A3 n3 c3 ∧ IsQ w A3 n3 c3 (if z = 0 then R else []) := by
  by_cases hz : z = 0
  · rw [if_pos hz, if_pos hz]; exact ⟨_, _, _, rfl, h⟩
  · rw [if_neg hz, if_neg hz]; exact ⟨_, _, _, rfl, noQ w⟩
def PhiS1 (b : Nat) (s : Int × Int × Int × Tkr) (R2 : List Int) (A : Option Addr) (n c : Nat) (R : List Int) (T B : Int) (t0 : Tkr) (g1 : Nat) : Nat → Value → World → Prop
  | 0, v, w => v = .agg #[.slice A n c, .int .i64 T, .int .i64 B]
  | 1, v, w => ∃ A1 c1, v = .agg #[.slice A1 n c1, .int .i64 T, .int .i64 B] ∧ IsQ w A1 n c1 R
  | 2, v, w => v = vT t0
  | 3, v, w => ∃ A2 n2 c2, v = .tuple #[.agg #[.slice A2 n2 c2, .int .i64 s.2.1, .int .i64 s.2.2.1], vT s.2.2.2, .int .i64 s.1] ∧ OwnI w b (.slice A2 n2 c2) R2 ∧ R2.length = n2 ∧ n2 ≤ 1000
  | 4, v, w => ∃ A2 n2 c2, v = .tuple #[.agg #[.slice A2 n2 c2, .int .i64 s.2.1, .int .i64 s.2.2.1], vT s.2.2.2, .int .i64 s.1] ∧ OwnI w b (.slice A2 n2 c2) R2 ∧ R2.length = n2 ∧ n2 ≤ 1000
  | 5, v, w => ∃ A2 n2 c2, v = .agg #[.slice A2 n2 c2, .int .i64 s.2.1, .int .i64 s.2.2.1] ∧ OwnI w b (.slice A2 n2 c2) R2 ∧ R2.length = n2 ∧ n2 ≤ 1000
  | 6, v, w => True
  | 7, v, w => True
  | 8, v, w => ∃ x, v = .pointer (some ⟨x, 0, none⟩) ∧ RowV x 24 [.slice none 0 0, .int .i64 0, .int .i64 0] w ∧ b ≤ x
  | 9, v, w => ∃ x, v = .pointer (some ⟨x, 0, none⟩) ∧ RowV x 27 (cT (newTk false)) w ∧ b ≤ x
  | _, _, _ => True
theorem phiS1_below {b : Nat} {s : Int × Int × Int × Tkr} {R2 : List Int} {A : Option Addr} {n c : Nat} {R : List Int} {T B : Int} {t0 : Tkr} {g1 : Nat} : ∀ kq v w w', PhiS1 b s R2 A n c R T B t0 g1 kq v w → Below w.heap.size w w' → PhiS1 b s R2 A n c R T B t0 g1 kq v w' := by
  intro kq v w w' h hb
  match kq, h with
  | 0, h => exact h
  | 1, h => exact (by obtain ⟨A1, c1, e, hq⟩ := h; exact ⟨A1, c1, e, hq.below hb⟩)
  | 2, h => exact h
  | 3, h => exact (by obtain ⟨A2, n2, c2, e, ho, q⟩ := h; exact ⟨A2, n2, c2, e, OwnI.below ho hb, q⟩)
  | 4, h => exact (by obtain ⟨A2, n2, c2, e, ho, q⟩ := h; exact ⟨A2, n2, c2, e, OwnI.below ho hb, q⟩)
  | 5, h => exact (by obtain ⟨A2, n2, c2, e, ho, q⟩ := h; exact ⟨A2, n2, c2, e, OwnI.below ho hb, q⟩)
  | 6, h => exact h
  | 7, h => exact h
  | 8, h => exact (by obtain ⟨x, e, hr, hx⟩ := h; exact ⟨x, e, hr.below hb hr.lt, hx⟩)
  | 9, h => exact (by obtain ⟨x, e, hr, hx⟩ := h; exact ⟨x, e, hr.below hb hr.lt, hx⟩)
  | kq + 10, h => exact trivial
def PhiS2 (b : Nat) (s : Int × Int × Int × Tkr) (R2 : List Int) (A : Option Addr) (n c : Nat) (R : List Int) (T B : Int) (t0 : Tkr) (g1 : Nat) : Nat → Value → World → Prop
  | 0, v, w => v = .agg #[.slice A n c, .int .i64 T, .int .i64 B]
  | 1, v, w => ∃ A1 c1, v = .agg #[.slice A1 n c1, .int .i64 T, .int .i64 B] ∧ IsQ w A1 n c1 R
  | 2, v, w => v = .pointer (some ⟨g1, 0, none⟩)
  | 3, v, w => v = .bool t0.steal
  | 4, v, w => ∃ A2 n2 c2, v = .tuple #[.agg #[.slice A2 n2 c2, .int .i64 s.2.1, .int .i64 s.2.2.1], vT s.2.2.2, .int .i64 s.1] ∧ OwnI w b (.slice A2 n2 c2) R2 ∧ R2.length = n2 ∧ n2 ≤ 1000
  | 5, v, w => ∃ A2 n2 c2, v = .tuple #[.agg #[.slice A2 n2 c2, .int .i64 s.2.1, .int .i64 s.2.2.1], vT s.2.2.2, .int .i64 s.1] ∧ OwnI w b (.slice A2 n2 c2) R2 ∧ R2.length = n2 ∧ n2 ≤ 1000
  | 6, v, w => ∃ A2 n2 c2, v = .agg #[.slice A2 n2 c2, .int .i64 s.2.1, .int .i64 s.2.2.1] ∧ OwnI w b (.slice A2 n2 c2) R2 ∧ R2.length = n2 ∧ n2 ≤ 1000
  | 7, v, w => True
  | 8, v, w => True
  | 9, v, w => ∃ x, v = .pointer (some ⟨x, 0, none⟩) ∧ RowV x 24 [.slice none 0 0, .int .i64 0, .int .i64 0] w ∧ b ≤ x
  | 10, v, w => ∃ x, v = .pointer (some ⟨x, 0, none⟩) ∧ RowV x 27 (cT (newTk false)) w ∧ b ≤ x
  | _, _, _ => True
theorem phiS2_below {b : Nat} {s : Int × Int × Int × Tkr} {R2 : List Int} {A : Option Addr} {n c : Nat} {R : List Int} {T B : Int} {t0 : Tkr} {g1 : Nat} : ∀ kq v w w', PhiS2 b s R2 A n c R T B t0 g1 kq v w → Below w.heap.size w w' → PhiS2 b s R2 A n c R T B t0 g1 kq v w' := by
  intro kq v w w' h hb
  match kq, h with
  | 0, h => exact h
  | 1, h => exact (by obtain ⟨A1, c1, e, hq⟩ := h; exact ⟨A1, c1, e, hq.below hb⟩)
  | 2, h => exact h
  | 3, h => exact h
  | 4, h => exact (by obtain ⟨A2, n2, c2, e, ho, q⟩ := h; exact ⟨A2, n2, c2, e, OwnI.below ho hb, q⟩)
  | 5, h => exact (by obtain ⟨A2, n2, c2, e, ho, q⟩ := h; exact ⟨A2, n2, c2, e, OwnI.below ho hb, q⟩)
  | 6, h => exact (by obtain ⟨A2, n2, c2, e, ho, q⟩ := h; exact ⟨A2, n2, c2, e, OwnI.below ho hb, q⟩)
  | 7, h => exact h
  | 8, h => exact h
  | 9, h => exact (by obtain ⟨x, e, hr, hx⟩ := h; exact ⟨x, e, hr.below hb hr.lt, hx⟩)
  | 10, h => exact (by obtain ⟨x, e, hr, hx⟩ := h; exact ⟨x, e, hr.below hb hr.lt, hx⟩)
  | kq + 11, h => exact trivial
def ThtS1 (b : Nat) (wr : World) (s : Int × Int × Int × Tkr) (R2 : List Int) (t : Nat) (f : Nat → Value) (w : World) : Prop :=
  10 ≤ t ∧ t ≤ 13 ∧ Below b wr w ∧ ∃ A2 n2 c2 x8 x9, f 31 = .agg #[.slice A2 n2 c2, .int .i64 s.2.1, .int .i64 s.2.2.1] ∧ f 5 = .pointer (some ⟨x8, 0, none⟩) ∧ f 6 = .pointer (some ⟨x9, 0, none⟩) ∧ b ≤ x8 ∧ b ≤ x9 ∧
    OwnI w b (.slice A2 n2 c2) R2 ∧ R2.length = n2 ∧ n2 ≤ 1000 ∧ (t = 10 → RowV x8 24 [.slice none 0 0, .int .i64 0, .int .i64 0] w) ∧ (11 ≤ t → RowV x8 24 [.slice A2 n2 c2, .int .i64 s.2.1, .int .i64 s.2.2.1] w) ∧
    (t ≤ 11 → RowV x9 27 (cT (newTk false)) w) ∧ (12 ≤ t → RowV x9 27 (cT s.2.2.2) w) ∧ (t = 13 → f 7 = .int .i64 s.1)
def ThtS2 (b : Nat) (wr : World) (s : Int × Int × Int × Tkr) (R2 : List Int) (t : Nat) (f : Nat → Value) (w : World) : Prop :=
  11 ≤ t ∧ t ≤ 14 ∧ Below b wr w ∧ ∃ A2 n2 c2 x8 x9, f 47 = .agg #[.slice A2 n2 c2, .int .i64 s.2.1, .int .i64 s.2.2.1] ∧ f 11 = .pointer (some ⟨x8, 0, none⟩) ∧ f 12 = .pointer (some ⟨x9, 0, none⟩) ∧ b ≤ x8 ∧ b ≤ x9 ∧
    OwnI w b (.slice A2 n2 c2) R2 ∧ R2.length = n2 ∧ n2 ≤ 1000 ∧ (t = 11 → RowV x8 24 [.slice none 0 0, .int .i64 0, .int .i64 0] w) ∧ (12 ≤ t → RowV x8 24 [.slice A2 n2 c2, .int .i64 s.2.1, .int .i64 s.2.2.1] w) ∧
    (t ≤ 12 → RowV x9 27 (cT (newTk false)) w) ∧ (13 ≤ t → RowV x9 27 (cT s.2.2.2) w) ∧ (t = 14 → f 13 = .int .i64 s.1)
section
variable {A : Option Addr} {n c : Nat} {R : List Int}
set_option maxRecDepth 100000 in
set_option maxHeartbeats 16000000 in
theorem stepsD_any (T B : Int) (t : Tkr) (w : World) (hT : DTab w) (hn9 : n ≤ 9223372036854775807) (hq : n ≤ 130 → IsQ w A n c R) :
    Calls Tryd.prog 3 #[.agg #[.slice A n c, .int .i64 T, .int .i64 B], vT t] w fun e w' => e = .returned (.bool true) ∧ Below w.heap.size w w' := by
  have B0 := Lib.hid (Rws.start w (rowsL A n c T B t))
  obtain ⟨w0, hw0⟩ : ∃ w0, w0 = allocs w (rowsL A n c T B t) := ⟨_, rfl⟩
  rw [← hw0] at B0
  have HT := Lib.hid hT
  have CA := Lib.hid (awakeD_any w0 (hT.via B0.out.bel))
  obtain ⟨st, a, tp, bt, gt, en⟩ := t
  have HW : Hid (w0 = (w.alloc (.cells #[.slice A n c, .int .i64 T, .int .i64 B] 24)).alloc (.cells #[.bool st, .int .i64 a, .int .i64 tp, .int .i64 bt, .int .i64 gt, .int .i64 en] 27)) := Lib.hid hw0
  have HQ := Lib.hid hq
  unfold vT
  clear hw0 hq hT
  by_cases h130 : 130 < n
  · have hd : decide (130 < n) = true := decide_eq_true h130
    go_enter Tryd.func3, Tryd.ntmps3
    go_wp2_with fail
    rw [← HW.out]
    refine CA.out.mono ?_
    rintro e w1 ⟨rfl, b1⟩
    have B1 := Lib.hid (B0.out.next b1)
    have CA1 := Lib.hid (awakeD_any w1 (HT.out.via B1.out.bel))
    clear b1 B0 CA HW
    have c00 := B1.out.cell 0 0 rfl rfl
    have c01 := B1.out.cell 0 1 rfl rfl
    have c02 := B1.out.cell 0 2 rfl rfl
    have c10 := B1.out.cell 1 0 rfl rfl
    have c11 := B1.out.cell 1 1 rfl rfl
    have c12 := B1.out.cell 1 2 rfl rfl
    have c13 := B1.out.cell 1 3 rfl rfl
    have c14 := B1.out.cell 1 4 rfl rfl
    have c15 := B1.out.cell 1 5 rfl rfl
    simp only [Nat.add_zero] at c00 c01 c02
    go_wp2_with fail
    refine CA1.out.mono ?_
    rintro e w2 ⟨rfl, b2⟩
    have B2 := Lib.hid (B1.out.next b2)
    clear b2 B1 CA1
    go_wp2
    go_ret
    exact ⟨rfl, B2.out.bel⟩
  have hd : decide (130 < n) = false := decide_eq_false h130
  have hq := HQ.out (by omega)
  have HI := Lib.hid hq
  clear HQ hq hn9
  go_enter Tryd.func3, Tryd.ntmps3
  go_wp2_with fail
  rw [← HW.out]
  refine CA.out.mono ?_
  rintro e w1 ⟨rfl, b1⟩
  have B1 := Lib.hid (B0.out.next b1)
  clear b1 B0 CA HW
  have c00 := B1.out.cell 0 0 rfl rfl
  have c01 := B1.out.cell 0 1 rfl rfl
  have c02 := B1.out.cell 0 2 rfl rfl
  have c10 := B1.out.cell 1 0 rfl rfl
  have c11 := B1.out.cell 1 1 rfl rfl
  have c12 := B1.out.cell 1 2 rfl rfl
  have c13 := B1.out.cell 1 3 rfl rfl
  have c14 := B1.out.cell 1 4 rfl rfl
  have c15 := B1.out.cell 1 5 rfl rfl
  simp only [Nat.add_zero] at c00 c01 c02
  go_upto_region 3 with fail
  obtain ⟨s, hs⟩ : ∃ s, s = stepQ R T B ⟨st, a, tp, bt, gt, en⟩ := ⟨_, rfl⟩
  obtain ⟨R2, hR2⟩ : ∃ R2, R2 = if s.1 = 0 then R else [] := ⟨_, rfl⟩
  have HS := Lib.hid hs
  have HR2 := Lib.hid hR2
  have HS1 : Hid (w.heap.size + 1 < w1.heap.size) := Lib.hid (B1.out.row 1 _ _ rfl).lt
  clear hs hR2 h130
  refine wp_region_tail 10 [27, 28, 29, 30, 26, 31, 32, 33, 5, 6, 1000, 1001, 7] [6, 7] (by kernel_rfl) (by kernel_rfl) (by intro d hd; simp at hd ⊢; omega) (fun z => Rws w (rowsL A n c T B ⟨st, a, tp, bt, gt, en⟩) z ∧ Below w1.heap.size w1 z) (PhiS1 w1.heap.size s R2 A n c R T B ⟨st, a, tp, bt, gt, en⟩ 0) (fun q v => v = if q = 6 then vT s.2.2.2 else .int .i64 s.1) (ThtS1 w1.heap.size w1 s R2)
    (fun z z' h hb => ⟨h.1.next hb, h.2.trans (hb.mono h.2.size)⟩) phiS1_below (⟨B1.out.next (Below.refl _ _).drew, (Below.refl _ _).drew⟩) ?hstep ?hloose ?hmid ?htail ?hcon ?hend
  case hstep =>
    intro kq o hkm hkF ho a1 w hI hA hd K hK
    obtain ⟨ρ, hρ⟩ : ∃ ρ, a1.eval = ρ := ⟨_, rfl⟩
    rw [hρ] at hA hd
    match kq, hkm, hkF, ho with
    | 0, _, _, ho =>
      have hoo := Option.some.inj ho
      subst hoo
      have h0 := hI.1.cell 0 0 rfl rfl
      have h1 := hI.1.cell 0 1 rfl rfl
      have h2 := hI.1.cell 0 2 rfl rfl
      simp only [Nat.add_zero] at h0 h1 h2
      have hs := hA.tmp 2 (by decide)
      exact fx_val hK hρ (.agg #[.slice A n c, .int .i64 T, .int .i64 B]) (by simp [execOp, hs, h0, h1, h2, go_sem]) rfl
    | 1, _, _, ho =>
      have hoo := Option.some.inj ho
      subst hoo
      have f0 : ρ (.tmp 27) = .agg #[.slice A n c, .int .i64 T, .int .i64 B] := hd ⟨0, .data⟩ (by simp) (by rfl) (by decide)
      exact fx_call hK hρ 10 _ _ #[.agg #[.slice A n c, .int .i64 T, .int .i64 B]] rfl (by simp only [List.map_toArray, List.map_cons, List.map_nil, hA.const, f0]) (eg_of Tryd.func10 (by kernel_rfl) rfl) ((ownD_any T B w (HI.out.below hI.1.bel)).mono fun e w' ⟨A1, c1, he, ho, hb⟩ => ⟨_, he, ⟨A1, c1, rfl, ho.isQ⟩, hb⟩)
    | 2, _, _, ho =>
      have hoo := Option.some.inj ho
      subst hoo
      have h0 := hI.1.cell 1 0 rfl rfl
      have h1 := hI.1.cell 1 1 rfl rfl
      have h2 := hI.1.cell 1 2 rfl rfl
      have h3 := hI.1.cell 1 3 rfl rfl
      have h4 := hI.1.cell 1 4 rfl rfl
      have h5 := hI.1.cell 1 5 rfl rfl
      have hs := hA.tmp 3 (by decide)
      exact fx_val hK hρ (vT ⟨st, a, tp, bt, gt, en⟩) (by simp [execOp, hs, h0, h1, h2, h3, h4, h5, vT, go_sem]) rfl
    | 3, _, _, ho =>
      have hoo := Option.some.inj ho
      subst hoo
      have f1 : ∃ A1 c1, (ρ (.tmp 28)) = .agg #[.slice A1 n c1, .int .i64 T, .int .i64 B] ∧ IsQ w A1 n c1 R := hd ⟨1, .data⟩ (by simp) (by rfl) (by decide)
      have f2 : ρ (.tmp 29) = vT ⟨st, a, tp, bt, gt, en⟩ := hd ⟨2, .data⟩ (by simp) (by rfl) (by decide)
      obtain ⟨A1, c1, e1, hq1⟩ := f1
      unfold vT at f2
      exact fx_call hK hρ 9 _ _ #[.agg #[.slice A1 n c1, .int .i64 T, .int .i64 B], .agg #[.bool st, .int .i64 a, .int .i64 tp, .int .i64 bt, .int .i64 gt, .int .i64 en]] rfl (by simp only [List.map_toArray, List.map_cons, List.map_nil, hA.const, e1, f2]) (eg_of Tryd.func9 (by kernel_rfl) rfl) ((dstep_any T B ⟨st, a, tp, bt, gt, en⟩ w hq1 (HT.out.via hI.1.bel)).mono fun e w' hg => (by
        obtain ⟨A2, n2, c2, he, ho, hn2, hl2, hb⟩ := hg
        rw [← HS.out] at he ho hn2
        rw [← HR2.out] at ho hn2
        exact ⟨_, he, ⟨A2, n2, c2, rfl, OwnI.down ho hI.2.size, hn2, hl2⟩, hb⟩))
    | 4, _, _, ho =>
      have hoo := Option.some.inj ho
      subst hoo
      have f3 : ∃ A2 n2 c2, (ρ (.tmp 30)) = .tuple #[.agg #[.slice A2 n2 c2, .int .i64 s.2.1, .int .i64 s.2.2.1], vT s.2.2.2, .int .i64 s.1] ∧ OwnI w w1.heap.size (.slice A2 n2 c2) R2 ∧ R2.length = n2 ∧ n2 ≤ 1000 := hd ⟨3, .data⟩ (by simp) (by rfl) (by decide)
      obtain ⟨A2, n2, c2, e3, q⟩ := f3
      exact fx_val hK hρ _ (by simp [execOp, e3, go_sem]) ⟨A2, n2, c2, rfl, q⟩
    | 5, _, _, ho =>
      have hoo := Option.some.inj ho
      subst hoo
      have f4 : ∃ A2 n2 c2, (ρ (.tmp 26)) = .tuple #[.agg #[.slice A2 n2 c2, .int .i64 s.2.1, .int .i64 s.2.2.1], vT s.2.2.2, .int .i64 s.1] ∧ OwnI w w1.heap.size (.slice A2 n2 c2) R2 ∧ R2.length = n2 ∧ n2 ≤ 1000 := hd ⟨4, .data⟩ (by simp) (by rfl) (by decide)
      obtain ⟨A2, n2, c2, e3, q⟩ := f4
      exact fx_val hK hρ (.agg #[.slice A2 n2 c2, .int .i64 s.2.1, .int .i64 s.2.2.1]) (by simp [execOp, e3, go_sem]) ⟨A2, n2, c2, rfl, q⟩
    | 6, _, hkF, _ => exact absurd (by decide) hkF
    | 7, _, hkF, _ => exact absurd (by decide) hkF
    | 8, _, _, ho =>
      have hoo := Option.some.inj ho
      subst hoo
      exact fx_make hK hρ (.pointer (some ⟨w.heap.size, 0, none⟩)) (w.alloc (.cells #[.slice none 0 0, .int .i64 0, .int .i64 0] 24)) (by simp [execOp, go_sem]) ⟨w.heap.size, rfl, RowV.new w _ [.slice none 0 0, .int .i64 0, .int .i64 0], hI.2.size⟩ (below_alloc _)
    | 9, _, _, ho =>
      have hoo := Option.some.inj ho
      subst hoo
      exact fx_make hK hρ (.pointer (some ⟨w.heap.size, 0, none⟩)) (w.alloc (.cells #[.bool false, .int .i64 0, .int .i64 0, .int .i64 0, .int .i64 0, .int .i64 0] 27)) (by simp [execOp, go_sem]) ⟨w.heap.size, rfl, RowV.new w _ (cT (newTk false)), hI.2.size⟩ (below_alloc _)
    | kq + 10, h, _, _ => exact absurd h (by omega)
  case hloose =>
    intro kq o hkF ho ρ w hA hd
    simp only [List.mem_cons, List.not_mem_nil, or_false] at hkF
    rcases hkF with rfl | rfl
    · have hoo := Option.some.inj ho
      subst hoo
      obtain ⟨w1, A2, n2, c2, e3, _⟩ := hd ⟨4, .data⟩ (by simp) (by rfl) (by decide)
      have e4 : ρ (.tmp 26) = _ := e3
      exact ⟨vT s.2.2.2, by simp [execOp, e4, go_sem], rfl⟩
    · have hoo := Option.some.inj ho
      subst hoo
      obtain ⟨w1, A2, n2, c2, e3, _⟩ := hd ⟨4, .data⟩ (by simp) (by rfl) (by decide)
      have e4 : ρ (.tmp 26) = _ := e3
      exact ⟨.int .i64 s.1, by simp [execOp, e4, go_sem], rfl⟩
  case hmid =>
    intro vals w hI hF
    obtain ⟨A2, n2, c2, e5, ho, hn, hl⟩ := hF 5 (by decide) (by decide)
    obtain ⟨x8, e8, r8, b8⟩ := hF 8 (by decide) (by decide)
    obtain ⟨x9, e9, r9, b9⟩ := hF 9 (by decide) (by decide)
    exact ⟨Nat.le_refl _, by omega, hI.2, A2, n2, c2, x8, x9, e5, e8, e9, b8, b9, ho, hn, hl, fun _ => r8, fun h => absurd h (by decide), fun _ => r9, fun h => absurd h (by decide), fun h => absurd h (by decide)⟩
  case htail =>
    intro t o htm ho a1 w hA hT hL K hK
    have htl : t < 13 := (Array.getElem?_eq_some_iff.1 ho).1
    obtain ⟨ρ, hρ⟩ : ∃ ρ, a1.eval = ρ := ⟨_, rfl⟩
    rw [hρ] at hA
    try rw [hρ] at hL
    obtain rfl | rfl | rfl : t = 10 ∨ t = 11 ∨ t = 12 := by omega
    · have hoo := Option.some.inj ho
      subst hoo
      obtain ⟨t1, t2, hbl, A2, n2, c2, x8, x9, e5, e8, e9, b8, b9, ho, hn, hl, r8, r8b, r9, r9b, e12⟩ := hT
      simp only [hρ] at e5 e8 e9 e12
      have hr := r8 rfl
      have q0 := hr.cell (j := 0) rfl
      have q1 := hr.cell (j := 1) rfl
      have q2 := hr.cell (j := 2) rfl
      have z0 := hr.frozen 0
      have z1 := hr.frozen 1
      have z2 := hr.frozen 2
      have hne : x9 ≠ x8 := fun e => by have := r9 (by decide); rw [e] at this; exact rowV_types hr this (by decide)
      unfold Oper.wp
      rw [show (execOp a1.eval _).run Tryd.prog w = .ok .skip (((w.setCell ⟨x8, 0, none⟩ (.slice A2 n2 c2)).setCell ⟨x8, 1, none⟩ (.int .i64 s.2.1)).setCell ⟨x8, 2, none⟩ (.int .i64 s.2.2.1)) from by rw [hρ]; simp [execOp, e8, e5, q0, q1, q2, z0, z1, z2, go_sem], Oper.upon_skip]
      refine hK undef _ ⟨by decide, by decide, ((hbl.setCell b8 _).setCell b8 _).setCell b8 _, A2, n2, c2, x8, x9, ?_⟩
      simp only [reduceCtorEq, if_false, hρ]
      exact ⟨e5, e8, e9, b8, b9, own_store3 ho hr (by decide), hn, hl, fun h => absurd h (by decide), fun _ => ((hr.set 0 _).set 1 _).set 2 _, fun _ => (((r9 (by decide)).far hne).far hne).far hne, fun h => absurd h (by decide), fun h => absurd h (by decide)⟩
    · have hoo := Option.some.inj ho
      subst hoo
      obtain ⟨t1, t2, hbl, A2, n2, c2, x8, x9, e5, e8, e9, b8, b9, ho, hn, hl, r8, r8b, r9, r9b, e12⟩ := hT
      simp only [hρ] at e5 e8 e9 e12
      have hr := r9 (by decide)
      have q0 := hr.cell (j := 0) rfl
      have q1 := hr.cell (j := 1) rfl
      have q2 := hr.cell (j := 2) rfl
      have q3 := hr.cell (j := 3) rfl
      have q4 := hr.cell (j := 4) rfl
      have q5 := hr.cell (j := 5) rfl
      have z0 := hr.frozen 0
      have z1 := hr.frozen 1
      have z2 := hr.frozen 2
      have z3 := hr.frozen 3
      have z4 := hr.frozen 4
      have z5 := hr.frozen 5
      have h8 := r8b (by decide)
      have hne : x8 ≠ x9 := fun e => by rw [e] at h8; exact rowV_types h8 hr (by decide)
      have hl1 : ρ (.tmp 32) = vT s.2.2.2 := hL ⟨6, .data⟩ (by simp) (by rfl) (by decide)
      unfold vT at hl1
      unfold Oper.wp
      rw [show (execOp a1.eval _).run Tryd.prog w = .ok .skip ((((((w.setCell ⟨x9, 0, none⟩ (.bool s.2.2.2.steal)).setCell ⟨x9, 1, none⟩ (.int .i64 s.2.2.2.at_)).setCell ⟨x9, 2, none⟩ (.int .i64 s.2.2.2.top)).setCell ⟨x9, 3, none⟩ (.int .i64 s.2.2.2.bot)).setCell ⟨x9, 4, none⟩ (.int .i64 s.2.2.2.got)).setCell ⟨x9, 5, none⟩ (.int .i64 s.2.2.2.end_)) from by rw [hρ]; simp [execOp, e9, hl1, q0, q1, q2, q3, q4, q5, z0, z1, z2, z3, z4, z5, go_sem], Oper.upon_skip]
      refine hK undef _ ⟨by decide, by decide, (((((hbl.setCell b9 _).setCell b9 _).setCell b9 _).setCell b9 _).setCell b9 _).setCell b9 _, A2, n2, c2, x8, x9, ?_⟩
      simp only [reduceCtorEq, if_false, hρ]
      exact ⟨e5, e8, e9, b8, b9, own_store6 ho hr (by decide), hn, hl, fun h => absurd h (by decide), fun _ => (((((h8.far hne).far hne).far hne).far hne).far hne).far hne, fun h => absurd h (by decide), fun _ => (((((hr.set 0 _).set 1 _).set 2 _).set 3 _).set 4 _).set 5 _, fun h => absurd h (by decide)⟩
    · have hoo := Option.some.inj ho
      subst hoo
      obtain ⟨t1, t2, hbl, A2, n2, c2, x8, x9, e5, e8, e9, b8, b9, ho, hn, hl, r8, r8b, r9, r9b, e12⟩ := hT
      simp only [hρ] at e5 e8 e9 e12
      have hl2 : ρ (.tmp 33) = .int .i64 s.1 := hL ⟨7, .data⟩ (by simp) (by rfl) (by decide)
      unfold Oper.wp
      rw [show (execOp a1.eval _).run Tryd.prog w = .ok (.value (.int .i64 s.1)) (w) from by rw [hρ]; simp [execOp, hl2, go_sem], Oper.upon_value]
      refine hK _ _ ⟨by decide, by decide, hbl, A2, n2, c2, x8, x9, ?_⟩
      simp only [Option.some.injEq, Nat.reduceEqDiff, if_false, if_true, hρ]
      exact ⟨e5, e8, e9, b8, b9, ho, hn, hl, fun h => absurd h (by decide), fun _ => r8b (by decide), fun h => absurd h (by decide), fun _ => r9b (by decide), fun _ => rfl⟩
  case hcon =>
    intro t f g w h hT
    obtain ⟨t1, t2, hbl, A2, n2, c2, x8, x9, e5, e8, e9, b8, b9, ho, hn, hl, r8, r8b, r9, r9b, e12⟩ := hT
    have q5 := h 5 (by omega) (by simp)
    have q8 := h 8 (by omega) (by simp)
    have q9 := h 9 (by omega) (by simp)
    simp only [List.getD_cons_zero, List.getD_cons_succ] at q5 q8 q9
    refine ⟨t1, t2, hbl, A2, n2, c2, x8, x9, q5 ▸ e5, q8 ▸ e8, q9 ▸ e9, b8, b9, ho, hn, hl, r8, r8b, r9, r9b, fun e => ?_⟩
    have q12 := h 12 (by omega) (by simp)
    simp only [List.getD_cons_zero, List.getD_cons_succ] at q12
    exact q12 ▸ e12 e
  case hend =>
    intro vals w3 hT
    obtain ⟨_, _, hbl, A2, n2, c2, x8, x9, e5, e8, e9, b8, b9, ho, hn2, hl2, _, r8, _, r9, e12⟩ := hT
    have X8 := Lib.hid (r8 (by decide))
    have X9 := Lib.hid (r9 (by decide))
    have HO : Hid (IsQ w3 A2 n2 c2 R2) := Lib.hid (own_isQ ho hn2 hl2)
    have B3 := Lib.hid (B1.out.next hbl)
    have q12 := e12 rfl
    clear r8 r9 ho hbl e12 hn2 hl2 b8 b9
    simp only [fillA, fillL, List.contains_cons, List.contains_nil, Nat.reduceBEq, Bool.or_false, Bool.false_or, Bool.or_true, Bool.true_or, cond_true, cond_false, Nat.zero_add, Nat.reduceAdd]
    rw [e8, e9, q12]
    clear e5 e8 e9 q12
    clear c00 c01 c02 c10 c11 c12 c13 c14 c15
    have CR := rstep_any T B ⟨st, a, tp, bt, gt, en⟩ w3 (HI.out.below B3.out.bel)
    rw [← HS.out] at CR
    unfold GotStep vT at CR
    obtain ⟨A3, n3, c3, hA3, hq3⟩ := got_ringD (HI.out.below B3.out.bel) s.1
    rw [hA3] at CR
    rw [← HR2.out] at hq3
    have CRH := Lib.hid CR
    have HQ3 := Lib.hid hq3
    clear CR hA3 hq3
    have c00 := B3.out.cell 0 0 rfl rfl
    have c01 := B3.out.cell 0 1 rfl rfl
    have c02 := B3.out.cell 0 2 rfl rfl
    have c10 := B3.out.cell 1 0 rfl rfl
    have c11 := B3.out.cell 1 1 rfl rfl
    have c12 := B3.out.cell 1 2 rfl rfl
    have c13 := B3.out.cell 1 3 rfl rfl
    have c14 := B3.out.cell 1 4 rfl rfl
    have c15 := B3.out.cell 1 5 rfl rfl
    simp only [Nat.add_zero] at c00 c01 c02
    go_wp2_with fail
    refine CRH.out.mono ?_
    rintro e v4 ⟨rfl, hb⟩
    obtain ⟨w4, hw⟩ : ∃ w4, w4 = (v4.alloc (.cells #[.slice A3 n3 c3, .int .i64 s.2.1, .int .i64 s.2.2.1] 24)).alloc (.cells #[.bool s.2.2.2.steal, .int .i64 s.2.2.2.at_, .int .i64 s.2.2.2.top, .int .i64 s.2.2.2.bot, .int .i64 s.2.2.2.got, .int .i64 s.2.2.2.end_] 27) := ⟨_, rfl⟩
    have hbb : Below w3.heap.size w3 w4 := by rw [hw]; exact hb.trans ((below2 _ _ 0).mono hb.size)
    obtain ⟨y8, hy8⟩ : ∃ y8, y8 = v4.heap.size := ⟨_, rfl⟩
    have Y8 : Hid (RowV y8 24 [.slice A3 n3 c3, .int .i64 s.2.1, .int .i64 s.2.2.1] w4) := Lib.hid (by rw [hw, hy8]; exact RowV.alloc (RowV.new _ _ _) _)
    have Y9 : Hid (RowV (y8 + 1) 27 (cT s.2.2.2) w4) := Lib.hid (by
      rw [hw, hy8]
      have := RowV.new (v4.alloc (.cells #[.slice A3 n3 c3, .int .i64 s.2.1, .int .i64 s.2.2.1] 24)) 27 (cT s.2.2.2)
      simpa [cT] using this)
    have X8' := Lib.hid (X8.out.below hbb X8.out.lt)
    have X9' := Lib.hid (X9.out.below hbb X9.out.lt)
    have HO' := Lib.hid (HO.out.below hbb)
    have HQ3' := Lib.hid (HQ3.out.below hbb)
    have B4 := Lib.hid (B3.out.next hbb)
    have HW4 := Lib.hid hw
    have HY8 := Lib.hid hy8
    clear hw hb hbb hy8 CRH X8 X9 HO HQ3 B3 B1
    clear c00 c01 c02 c10 c11 c12 c13 c14 c15
    go_upto_region 5 with fail
    rw [← HW4.out, ← HY8.out]
    clear HW4 HY8
    obtain ⟨s', hs'⟩ : ∃ s', s' = takeQ R T B st := ⟨_, rfl⟩
    obtain ⟨R2', hR2'⟩ : ∃ R2', R2' = if s'.1 = 0 then R else [] := ⟨_, rfl⟩
    have HS' := Lib.hid hs'
    have HR2' := Lib.hid hR2'
    clear hs' hR2'
    obtain ⟨gg, hgg⟩ : ∃ gg, gg = w.heap.size + 1 := ⟨_, rfl⟩
    have HGG := Lib.hid hgg
    clear hgg
    refine wp_region_tail 11 [42, 43, 44, 45, 46, 41, 47, 48, 49, 11, 12, 1000, 1001, 13] [7, 8] (by kernel_rfl) (by kernel_rfl) (by intro d hd; simp at hd ⊢; omega) (fun z => Rws w (rowsL A n c T B ⟨st, a, tp, bt, gt, en⟩) z ∧ Below w4.heap.size w4 z) (PhiS2 w4.heap.size s' R2' A n c R T B ⟨st, a, tp, bt, gt, en⟩ gg) (fun q v => v = if q = 7 then vT s'.2.2.2 else .int .i64 s'.1) (ThtS2 w4.heap.size w4 s' R2')
      (fun z z' h hb => ⟨h.1.next hb, h.2.trans (hb.mono h.2.size)⟩) phiS2_below (⟨B4.out.next (Below.refl _ _).drew, (Below.refl _ _).drew⟩) ?hstep ?hloose ?hmid ?htail ?hcon ?hend
    case hstep =>
      intro kq o hkm hkF ho a1 w hI hA hd K hK
      obtain ⟨ρ, hρ⟩ : ∃ ρ, a1.eval = ρ := ⟨_, rfl⟩
      rw [hρ] at hA hd
      match kq, hkm, hkF, ho with
      | 0, _, _, ho =>
        have hoo := Option.some.inj ho
        subst hoo
        have h0 := hI.1.cell 0 0 rfl rfl
        have h1 := hI.1.cell 0 1 rfl rfl
        have h2 := hI.1.cell 0 2 rfl rfl
        simp only [Nat.add_zero] at h0 h1 h2
        have hs := hA.tmp 2 (by decide)
        exact fx_val hK hρ (.agg #[.slice A n c, .int .i64 T, .int .i64 B]) (by simp [execOp, hs, h0, h1, h2, go_sem]) rfl
      | 1, _, _, ho =>
        have hoo := Option.some.inj ho
        subst hoo
        have f0 : ρ (.tmp 42) = .agg #[.slice A n c, .int .i64 T, .int .i64 B] := hd ⟨0, .data⟩ (by simp) (by rfl) (by decide)
        exact fx_call hK hρ 10 _ _ #[.agg #[.slice A n c, .int .i64 T, .int .i64 B]] rfl (by simp only [List.map_toArray, List.map_cons, List.map_nil, hA.const, f0]) (eg_of Tryd.func10 (by kernel_rfl) rfl) ((ownD_any T B w (HI.out.below hI.1.bel)).mono fun e w' ⟨A1, c1, he, ho, hb⟩ => ⟨_, he, ⟨A1, c1, rfl, ho.isQ⟩, hb⟩)
      | 2, _, _, ho =>
        have hoo := Option.some.inj ho
        subst hoo
        have h := hA.tmp 3 (by decide)
        have hp : ρ (.tmp 3) = .pointer (some ⟨gg, 0, none⟩) := by rw [HGG.out]; exact h
        exact fx_val hK hρ (.pointer (some ⟨gg, 0, none⟩)) (by simp [execOp, hp, go_sem]) rfl
      | 3, _, _, ho =>
        have hoo := Option.some.inj ho
        subst hoo
        have f2 : ρ (.tmp 44) = .pointer (some ⟨gg, 0, none⟩) := hd ⟨2, .data⟩ (by simp) (by rfl) (by decide)
        have h0 := hI.1.cell 1 0 rfl rfl
        rw [← HGG.out] at h0
        exact fx_val hK hρ (.bool st) (by simp [execOp, f2, h0, go_sem]) rfl
      | 4, _, _, ho =>
        have hoo := Option.some.inj ho
        subst hoo
        have f1 : ∃ A1 c1, (ρ (.tmp 43)) = .agg #[.slice A1 n c1, .int .i64 T, .int .i64 B] ∧ IsQ w A1 n c1 R := hd ⟨1, .data⟩ (by simp) (by rfl) (by decide)
        have f3 : ρ (.tmp 45) = .bool st := hd ⟨3, .data⟩ (by simp) (by rfl) (by decide)
        obtain ⟨A1, c1, e1, hq1⟩ := f1
        exact fx_call hK hρ 12 _ _ #[.agg #[.slice A1 n c1, .int .i64 T, .int .i64 B], .bool st] rfl (by simp only [List.map_toArray, List.map_cons, List.map_nil, hA.const, e1, f3]) (eg_of Tryd.func12 (by kernel_rfl) rfl) ((dtake_any T B st w hq1 (HT.out.via hI.1.bel)).mono fun e w' hg => (by
          obtain ⟨A2, n2, c2, he, ho, hn2, hl2, hb⟩ := hg
          rw [← HS'.out] at he ho hn2
          rw [← HR2'.out] at ho hn2
          exact ⟨_, he, ⟨A2, n2, c2, rfl, OwnI.down ho hI.2.size, hn2, hl2⟩, hb⟩))
      | 5, _, _, ho =>
        have hoo := Option.some.inj ho
        subst hoo
        have f4 : ∃ A2 n2 c2, (ρ (.tmp 46)) = .tuple #[.agg #[.slice A2 n2 c2, .int .i64 s'.2.1, .int .i64 s'.2.2.1], vT s'.2.2.2, .int .i64 s'.1] ∧ OwnI w w4.heap.size (.slice A2 n2 c2) R2' ∧ R2'.length = n2 ∧ n2 ≤ 1000 := hd ⟨4, .data⟩ (by simp) (by rfl) (by decide)
        obtain ⟨A2, n2, c2, e3, q⟩ := f4
        exact fx_val hK hρ _ (by simp [execOp, e3, go_sem]) ⟨A2, n2, c2, rfl, q⟩
      | 6, _, _, ho =>
        have hoo := Option.some.inj ho
        subst hoo
        have f5 : ∃ A2 n2 c2, (ρ (.tmp 41)) = .tuple #[.agg #[.slice A2 n2 c2, .int .i64 s'.2.1, .int .i64 s'.2.2.1], vT s'.2.2.2, .int .i64 s'.1] ∧ OwnI w w4.heap.size (.slice A2 n2 c2) R2' ∧ R2'.length = n2 ∧ n2 ≤ 1000 := hd ⟨5, .data⟩ (by simp) (by rfl) (by decide)
        obtain ⟨A2, n2, c2, e3, q⟩ := f5
        exact fx_val hK hρ (.agg #[.slice A2 n2 c2, .int .i64 s'.2.1, .int .i64 s'.2.2.1]) (by simp [execOp, e3, go_sem]) ⟨A2, n2, c2, rfl, q⟩
      | 7, _, hkF, _ => exact absurd (by decide) hkF
      | 8, _, hkF, _ => exact absurd (by decide) hkF
      | 9, _, _, ho =>
        have hoo := Option.some.inj ho
        subst hoo
        exact fx_make hK hρ (.pointer (some ⟨w.heap.size, 0, none⟩)) (w.alloc (.cells #[.slice none 0 0, .int .i64 0, .int .i64 0] 24)) (by simp [execOp, go_sem]) ⟨w.heap.size, rfl, RowV.new w _ [.slice none 0 0, .int .i64 0, .int .i64 0], hI.2.size⟩ (below_alloc _)
      | 10, _, _, ho =>
        have hoo := Option.some.inj ho
        subst hoo
        exact fx_make hK hρ (.pointer (some ⟨w.heap.size, 0, none⟩)) (w.alloc (.cells #[.bool false, .int .i64 0, .int .i64 0, .int .i64 0, .int .i64 0, .int .i64 0] 27)) (by simp [execOp, go_sem]) ⟨w.heap.size, rfl, RowV.new w _ (cT (newTk false)), hI.2.size⟩ (below_alloc _)
      | kq + 11, h, _, _ => exact absurd h (by omega)
    case hloose =>
      intro kq o hkF ho ρ w hA hd
      simp only [List.mem_cons, List.not_mem_nil, or_false] at hkF
      rcases hkF with rfl | rfl
      · have hoo := Option.some.inj ho
        subst hoo
        obtain ⟨w1, A2, n2, c2, e3, _⟩ := hd ⟨5, .data⟩ (by simp) (by rfl) (by decide)
        have e4 : ρ (.tmp 41) = _ := e3
        exact ⟨vT s'.2.2.2, by simp [execOp, e4, go_sem], rfl⟩
      · have hoo := Option.some.inj ho
        subst hoo
        obtain ⟨w1, A2, n2, c2, e3, _⟩ := hd ⟨5, .data⟩ (by simp) (by rfl) (by decide)
        have e4 : ρ (.tmp 41) = _ := e3
        exact ⟨.int .i64 s'.1, by simp [execOp, e4, go_sem], rfl⟩
    case hmid =>
      intro vals w hI hF
      obtain ⟨A2, n2, c2, e5, ho, hn, hl⟩ := hF 6 (by decide) (by decide)
      obtain ⟨x8, e8, r8, b8⟩ := hF 9 (by decide) (by decide)
      obtain ⟨x9, e9, r9, b9⟩ := hF 10 (by decide) (by decide)
      exact ⟨Nat.le_refl _, by omega, hI.2, A2, n2, c2, x8, x9, e5, e8, e9, b8, b9, ho, hn, hl, fun _ => r8, fun h => absurd h (by decide), fun _ => r9, fun h => absurd h (by decide), fun h => absurd h (by decide)⟩
    case htail =>
      intro t o htm ho a1 w hA hT hL K hK
      have htl : t < 14 := (Array.getElem?_eq_some_iff.1 ho).1
      obtain ⟨ρ, hρ⟩ : ∃ ρ, a1.eval = ρ := ⟨_, rfl⟩
      rw [hρ] at hA
      try rw [hρ] at hL
      obtain rfl | rfl | rfl : t = 11 ∨ t = 12 ∨ t = 13 := by omega
      · have hoo := Option.some.inj ho
        subst hoo
        obtain ⟨t1, t2, hbl, A2, n2, c2, x8, x9, e5, e8, e9, b8, b9, ho, hn, hl, r8, r8b, r9, r9b, e12⟩ := hT
        simp only [hρ] at e5 e8 e9 e12
        have hr := r8 rfl
        have q0 := hr.cell (j := 0) rfl
        have q1 := hr.cell (j := 1) rfl
        have q2 := hr.cell (j := 2) rfl
        have z0 := hr.frozen 0
        have z1 := hr.frozen 1
        have z2 := hr.frozen 2
        have hne : x9 ≠ x8 := fun e => by have := r9 (by decide); rw [e] at this; exact rowV_types hr this (by decide)
        unfold Oper.wp
        rw [show (execOp a1.eval _).run Tryd.prog w = .ok .skip (((w.setCell ⟨x8, 0, none⟩ (.slice A2 n2 c2)).setCell ⟨x8, 1, none⟩ (.int .i64 s'.2.1)).setCell ⟨x8, 2, none⟩ (.int .i64 s'.2.2.1)) from by rw [hρ]; simp [execOp, e8, e5, q0, q1, q2, z0, z1, z2, go_sem], Oper.upon_skip]
        refine hK undef _ ⟨by decide, by decide, ((hbl.setCell b8 _).setCell b8 _).setCell b8 _, A2, n2, c2, x8, x9, ?_⟩
        simp only [reduceCtorEq, if_false, hρ]
        exact ⟨e5, e8, e9, b8, b9, own_store3 ho hr (by decide), hn, hl, fun h => absurd h (by decide), fun _ => ((hr.set 0 _).set 1 _).set 2 _, fun _ => (((r9 (by decide)).far hne).far hne).far hne, fun h => absurd h (by decide), fun h => absurd h (by decide)⟩
      · have hoo := Option.some.inj ho
        subst hoo
        obtain ⟨t1, t2, hbl, A2, n2, c2, x8, x9, e5, e8, e9, b8, b9, ho, hn, hl, r8, r8b, r9, r9b, e12⟩ := hT
        simp only [hρ] at e5 e8 e9 e12
        have hr := r9 (by decide)
        have q0 := hr.cell (j := 0) rfl
        have q1 := hr.cell (j := 1) rfl
        have q2 := hr.cell (j := 2) rfl
        have q3 := hr.cell (j := 3) rfl
        have q4 := hr.cell (j := 4) rfl
        have q5 := hr.cell (j := 5) rfl
        have z0 := hr.frozen 0
        have z1 := hr.frozen 1
        have z2 := hr.frozen 2
        have z3 := hr.frozen 3
        have z4 := hr.frozen 4
        have z5 := hr.frozen 5
        have h8 := r8b (by decide)
        have hne : x8 ≠ x9 := fun e => by rw [e] at h8; exact rowV_types h8 hr (by decide)
        have hl1 : ρ (.tmp 48) = vT s'.2.2.2 := hL ⟨7, .data⟩ (by simp) (by rfl) (by decide)
        unfold vT at hl1
        unfold Oper.wp
        rw [show (execOp a1.eval _).run Tryd.prog w = .ok .skip ((((((w.setCell ⟨x9, 0, none⟩ (.bool s'.2.2.2.steal)).setCell ⟨x9, 1, none⟩ (.int .i64 s'.2.2.2.at_)).setCell ⟨x9, 2, none⟩ (.int .i64 s'.2.2.2.top)).setCell ⟨x9, 3, none⟩ (.int .i64 s'.2.2.2.bot)).setCell ⟨x9, 4, none⟩ (.int .i64 s'.2.2.2.got)).setCell ⟨x9, 5, none⟩ (.int .i64 s'.2.2.2.end_)) from by rw [hρ]; simp [execOp, e9, hl1, q0, q1, q2, q3, q4, q5, z0, z1, z2, z3, z4, z5, go_sem], Oper.upon_skip]
        refine hK undef _ ⟨by decide, by decide, (((((hbl.setCell b9 _).setCell b9 _).setCell b9 _).setCell b9 _).setCell b9 _).setCell b9 _, A2, n2, c2, x8, x9, ?_⟩
        simp only [reduceCtorEq, if_false, hρ]
        exact ⟨e5, e8, e9, b8, b9, own_store6 ho hr (by decide), hn, hl, fun h => absurd h (by decide), fun _ => (((((h8.far hne).far hne).far hne).far hne).far hne).far hne, fun h => absurd h (by decide), fun _ => (((((hr.set 0 _).set 1 _).set 2 _).set 3 _).set 4 _).set 5 _, fun h => absurd h (by decide)⟩
      · have hoo := Option.some.inj ho
        subst hoo
        obtain ⟨t1, t2, hbl, A2, n2, c2, x8, x9, e5, e8, e9, b8, b9, ho, hn, hl, r8, r8b, r9, r9b, e12⟩ := hT
        simp only [hρ] at e5 e8 e9 e12
        have hl2 : ρ (.tmp 49) = .int .i64 s'.1 := hL ⟨8, .data⟩ (by simp) (by rfl) (by decide)
        unfold Oper.wp
        rw [show (execOp a1.eval _).run Tryd.prog w = .ok (.value (.int .i64 s'.1)) (w) from by rw [hρ]; simp [execOp, hl2, go_sem], Oper.upon_value]
        refine hK _ _ ⟨by decide, by decide, hbl, A2, n2, c2, x8, x9, ?_⟩
        simp only [Option.some.injEq, Nat.reduceEqDiff, if_false, if_true, hρ]
        exact ⟨e5, e8, e9, b8, b9, ho, hn, hl, fun h => absurd h (by decide), fun _ => r8b (by decide), fun h => absurd h (by decide), fun _ => r9b (by decide), fun _ => rfl⟩
    case hcon =>
      intro t f g w h hT
      obtain ⟨t1, t2, hbl, A2, n2, c2, x8, x9, e5, e8, e9, b8, b9, ho, hn, hl, r8, r8b, r9, r9b, e12⟩ := hT
      have q5 := h 6 (by omega) (by simp)
      have q8 := h 9 (by omega) (by simp)
      have q9 := h 10 (by omega) (by simp)
      simp only [List.getD_cons_zero, List.getD_cons_succ] at q5 q8 q9
      refine ⟨t1, t2, hbl, A2, n2, c2, x8, x9, q5 ▸ e5, q8 ▸ e8, q9 ▸ e9, b8, b9, ho, hn, hl, r8, r8b, r9, r9b, fun e => ?_⟩
      have q12 := h 13 (by omega) (by simp)
      simp only [List.getD_cons_zero, List.getD_cons_succ] at q12
      exact q12 ▸ e12 e
    case hend =>
      intro vals w5 hT
      obtain ⟨_, _, hbl, A4, n4, c4, x11, x12, e5, e8, e9, b8, b9, ho, hn2, hl2, _, r8, _, r9, e12⟩ := hT
      have X11 := Lib.hid (r8 (by decide))
      have X12 := Lib.hid (r9 (by decide))
      have HO5 : Hid (IsQ w5 A4 n4 c4 R2') := Lib.hid (own_isQ ho hn2 hl2)
      have B5 := Lib.hid (B4.out.next hbl)
      have X8q := Lib.hid (X8'.out.below hbl X8'.out.lt)
      have X9q := Lib.hid (X9'.out.below hbl X9'.out.lt)
      have Y8q := Lib.hid (Y8.out.below hbl Y8.out.lt)
      have Y9q := Lib.hid (Y9.out.below hbl Y9.out.lt)
      have HOq := Lib.hid (HO'.out.below hbl)
      have HQq := Lib.hid (HQ3'.out.below hbl)
      have q12 := e12 rfl
      clear r8 r9 ho hbl e12 hn2 hl2 b8 b9 X8' X9' Y8 Y9 HO' HQ3' B4
      simp only [fillA, fillL, List.contains_cons, List.contains_nil, Nat.reduceBEq, Bool.or_false, Bool.false_or, Bool.or_true, Bool.true_or, cond_true, cond_false, Nat.zero_add, Nat.reduceAdd]
      rw [e8, e9, q12]
      clear e5 e8 e9 q12
      have CR := rtake_any T B st w5 (HI.out.below B5.out.bel)
      rw [← HS'.out] at CR
      unfold GotStep vT at CR
      obtain ⟨A5, n5, c5, hA5, hq5⟩ := got_ringD (HI.out.below B5.out.bel) s'.1
      rw [hA5] at CR
      rw [← HR2'.out] at hq5
      have CRH := Lib.hid CR
      have HQ5 := Lib.hid hq5
      clear CR hA5 hq5
      have c00 := B5.out.cell 0 0 rfl rfl
      have c01 := B5.out.cell 0 1 rfl rfl
      have c02 := B5.out.cell 0 2 rfl rfl
      have c10 := B5.out.cell 1 0 rfl rfl
      have c11 := B5.out.cell 1 1 rfl rfl
      have c12 := B5.out.cell 1 2 rfl rfl
      have c13 := B5.out.cell 1 3 rfl rfl
      have c14 := B5.out.cell 1 4 rfl rfl
      have c15 := B5.out.cell 1 5 rfl rfl
      simp only [Nat.add_zero] at c00 c01 c02
      go_wp2_with fail
      refine CRH.out.mono ?_
      rintro e v6 ⟨rfl, hb⟩
      obtain ⟨w6, hw⟩ : ∃ w6, w6 = (v6.alloc (.cells #[.slice A5 n5 c5, .int .i64 s'.2.1, .int .i64 s'.2.2.1] 24)).alloc (.cells #[.bool s'.2.2.2.steal, .int .i64 s'.2.2.2.at_, .int .i64 s'.2.2.2.top, .int .i64 s'.2.2.2.bot, .int .i64 s'.2.2.2.got, .int .i64 s'.2.2.2.end_] 27) := ⟨_, rfl⟩
      have hbb : Below w5.heap.size w5 w6 := by rw [hw]; exact hb.trans ((below2 _ _ 0).mono hb.size)
      have FX := X8q.out.below hb X8q.out.lt
      have FY := Y8q.out.below hb Y8q.out.lt
      have fx0 := FX.cell (j := 0) rfl
      have fx1 := FX.cell (j := 1) rfl
      have fx2 := FX.cell (j := 2) rfl
      have fxl := FX.lt
      have fy0 := FY.cell (j := 0) rfl
      have fy1 := FY.cell (j := 1) rfl
      have fy2 := FY.cell (j := 2) rfl
      have fyl := FY.lt
      have CS1 := Lib.hid (rsame_d s.2.1 s.2.2.1 s.2.1 s.2.2.1 w6 (HOq.out.below hbb) (HQq.out.below hbb))
      rw [decide_eq_true (show SameQ R2 s.2.1 s.2.2.1 R2 s.2.1 s.2.2.1 from ⟨rfl, rfl, rfl⟩)] at CS1
      have X96 := Lib.hid (X9q.out.below hbb X9q.out.lt)
      have Y96 := Lib.hid (Y9q.out.below hbb Y9q.out.lt)
      have X116 := Lib.hid (X11.out.below hbb X11.out.lt)
      have X126 := Lib.hid (X12.out.below hbb X12.out.lt)
      obtain ⟨y8', hy8'⟩ : ∃ y8', y8' = v6.heap.size := ⟨_, rfl⟩
      have Z8 : Hid (RowV y8' 24 [.slice A5 n5 c5, .int .i64 s'.2.1, .int .i64 s'.2.2.1] w6) := Lib.hid (by rw [hw, hy8']; exact RowV.alloc (RowV.new _ _ _) _)
      have Z9 : Hid (RowV (y8' + 1) 27 (cT s'.2.2.2) w6) := Lib.hid (by
        rw [hw, hy8']
        have := RowV.new (v6.alloc (.cells #[.slice A5 n5 c5, .int .i64 s'.2.1, .int .i64 s'.2.2.1] 24)) 27 (cT s'.2.2.2)
        simpa [cT] using this)
      have HO6 := Lib.hid (HO5.out.below hbb)
      have HQ6 := Lib.hid (HQ5.out.below hbb)
      have B6 := Lib.hid (B5.out.next hbb)
      have HW6 := Lib.hid hw
      have HY8' := Lib.hid hy8'
      clear hw hb hbb hy8' CRH FX FY X8q X9q Y8q Y9q X11 X12 HO5 HQ5 HOq HQq B5
      clear c00 c01 c02 c10 c11 c12 c13 c14 c15
      go_wp2_with fail
      rw [← HW6.out, ← HY8'.out]
      clear HW6 HY8' fx0 fx1 fx2 fy0 fy1 fy2 fxl fyl
      refine CS1.out.mono ?_
      rintro e w7 ⟨rfl, hbb⟩
      have X97 := X96.out.below hbb X96.out.lt
      have Y97 := Y96.out.below hbb Y96.out.lt
      have X117 := X116.out.below hbb X116.out.lt
      have X127 := Lib.hid (X126.out.below hbb X126.out.lt)
      have Z87 := Z8.out.below hbb Z8.out.lt
      have Z97 := Lib.hid (Z9.out.below hbb Z9.out.lt)
      have fa0 := X97.cell (j := 0) rfl
      have fa1 := X97.cell (j := 1) rfl
      have fa2 := X97.cell (j := 2) rfl
      have fa3 := X97.cell (j := 3) rfl
      have fa4 := X97.cell (j := 4) rfl
      have fa5 := X97.cell (j := 5) rfl
      have fb0 := Y97.cell (j := 0) rfl
      have fb1 := Y97.cell (j := 1) rfl
      have fb2 := Y97.cell (j := 2) rfl
      have fb3 := Y97.cell (j := 3) rfl
      have fb4 := Y97.cell (j := 4) rfl
      have fb5 := Y97.cell (j := 5) rfl
      have fc0 := X117.cell (j := 0) rfl
      have fc1 := X117.cell (j := 1) rfl
      have fc2 := X117.cell (j := 2) rfl
      have fd0 := Z87.cell (j := 0) rfl
      have fd1 := Z87.cell (j := 1) rfl
      have fd2 := Z87.cell (j := 2) rfl
      have te := fun W => tk_eql_self s.2.2.2.steal s.2.2.2.at_ s.2.2.2.top s.2.2.2.bot s.2.2.2.got s.2.2.2.end_ W
      have CS2 := Lib.hid (rsame_d s'.2.1 s'.2.2.1 s'.2.1 s'.2.2.1 w7 (HO6.out.below hbb) (HQ6.out.below hbb))
      rw [decide_eq_true (show SameQ R2' s'.2.1 s'.2.2.1 R2' s'.2.1 s'.2.2.1 from ⟨rfl, rfl, rfl⟩)] at CS2
      have B7 := Lib.hid (B6.out.next hbb)
      clear hbb CS1 X96 Y96 X116 X126 Z8 Z9 X97 Y97 X117 Z87 HO6 HQ6 B6
      go_wp2_with fail
      refine CS2.out.mono ?_
      rintro e w8 ⟨rfl, hbb⟩
      clear fa0 fa1 fa2 fa3 fa4 fa5 fb0 fb1 fb2 fb3 fb4 fb5 fc0 fc1 fc2 fd0 fd1 fd2
      have B8 := Lib.hid (B7.out.next hbb)
      have G12 := X127.out.below hbb X127.out.lt
      have G9 := Z97.out.below hbb Z97.out.lt
      have ga0 := G12.cell (j := 0) rfl
      have ga1 := G12.cell (j := 1) rfl
      have ga2 := G12.cell (j := 2) rfl
      have ga3 := G12.cell (j := 3) rfl
      have ga4 := G12.cell (j := 4) rfl
      have ga5 := G12.cell (j := 5) rfl
      have gb0 := G9.cell (j := 0) rfl
      have gb1 := G9.cell (j := 1) rfl
      have gb2 := G9.cell (j := 2) rfl
      have gb3 := G9.cell (j := 3) rfl
      have gb4 := G9.cell (j := 4) rfl
      have gb5 := G9.cell (j := 5) rfl
      have te2 := fun W => tk_eql_self s'.2.2.2.steal s'.2.2.2.at_ s'.2.2.2.top s'.2.2.2.bot s'.2.2.2.got s'.2.2.2.end_ W
      clear hbb CS2 G12 G9 B7
      go_wp2
      go_ret
      exact ⟨rfl, B8.out.bel⟩
theorem walk_DequeSteps (w : World) (hT : DTab w) {T B : Int} (g : InD w A n c R) (t : Tkr) : Calls Tryd.prog 3 #[.agg #[.slice A n c, .int .i64 T, .int .i64 B], vT t] w fun e w' => e = .returned (.bool true) ∧ Below w.heap.size w w' := stepsD_any T B t w hT g.big g.isQ
end
end Go.Proofs.YtnlempddoiidiaaDoor
