/- DequeSteps in the seat YtcjmljpfhabmnaaDoor: its walk.
   What layer 12's law plays: its memory (a result's row, the deque's, the takers', the ring, what was got), in the seat YtcjmljpfhabmnaaDoor.
   What layer 12's law plays (plain): where it stands ahead of each turn, in the seat YtcjmljpfhabmnaaDoor.
   The array of takers, stored as a whole into the row that is made for it, in the seat YtcjmljpfhabmnaaDoor.
   No statement is proved here. -/
import Derived.Test.YtcjmljpfhabmnaaDoorZM12
import Derived.Laws.StructEq
import Derived.Test.YtcjmljpfhabmnaaDoorZM4
import Derived.Test.YtcjmljpfhabmnaaDoorZM9
import Derived.Deep.WholeRow
set_option linter.unusedSimpArgs false
set_option linter.unusedVariables false
set_option linter.unusedSimpArgs false
namespace Go.Proofs.YtcjmljpfhabmnaaDoor
open Go Go.RowKit

theorem rowV_types {g : Nat} {t u : TypeId} {vs us : List Value} {w : World} (h : RowV g t vs w) (h2 : RowV g u us w) (hne : t ≠ u) : False := by
  unfold RowV at h h2
  rw [h] at h2
  injection h2 with h2
  injection h2 with _ h3 _
  exact hne h3
theorem own_store {w : World} {base g j : Nat} {t : TypeId} {vs : List Value} {v u : Value} {zs : List Int} (h : OwnI w base v zs) (hr : RowV g t vs w) (ht : 3 ≠ t) : OwnI (w.setCell ⟨g, j, none⟩ u) base v zs := by
  refine ⟨h.1, ?_⟩
  rcases h.2 with hn | ⟨g', cap, cur, rfl, hg', hgg, rest⟩
  · exact .inl hn
  · refine .inr ⟨g', cap, cur, rfl, hg', ?_, rest⟩
    rw [heap_setCell_other _ _ _ _ (by
      show g' ≠ g
      intro e
      subst e
      unfold RowV at hr
      rw [hgg] at hr
      injection hr with hr
      injection hr with _ h3 _
      exact ht h3)]
    exact hgg
theorem own_store3 {w : World} {base g : Nat} {t : TypeId} {vs : List Value} {v x y z : Value} {zs : List Int} (h : OwnI w base v zs) (hr : RowV g t vs w) (ht : 3 ≠ t) : OwnI (((w.setCell ⟨g, 0, none⟩ x).setCell ⟨g, 1, none⟩ y).setCell ⟨g, 2, none⟩ z) base v zs :=
  own_store (own_store (own_store h hr ht) (hr.set 0 x) ht) ((hr.set 0 x).set 1 y) ht
theorem own_store6 {w : World} {base g : Nat} {t : TypeId} {vs : List Value} {v x y z p q r : Value} {zs : List Int} (h : OwnI w base v zs) (hr : RowV g t vs w) (ht : 3 ≠ t) : OwnI ((((((w.setCell ⟨g, 0, none⟩ x).setCell ⟨g, 1, none⟩ y).setCell ⟨g, 2, none⟩ z).setCell ⟨g, 3, none⟩ p).setCell ⟨g, 4, none⟩ q).setCell ⟨g, 5, none⟩ r) base v zs :=
  own_store (own_store (own_store (own_store3 h hr ht) (((hr.set 0 x).set 1 y).set 2 z) ht) ((((hr.set 0 x).set 1 y).set 2 z).set 3 p) ht) (((((hr.set 0 x).set 1 y).set 2 z).set 3 p).set 4 q) ht
theorem tk_fields : (Tryd.prog.fieldsOf 42).toList.map (fun f => (f.name, f.type, f.offset)) = [("Steal", 4, 0), ("At", 3, 1), ("Top", 3, 2), ("Bottom", 3, 3), ("Got", 3, 4), ("End", 40, 5)] := by kernel_rfl
theorem tk_self (st : Bool) (a b c d e : Int) (W : World) : (Op.equalIn 10000 42 (.agg #[.bool st, .int .i64 a, .int .i64 b, .int .i64 c, .int .i64 d, .int .i64 e]) (.agg #[.bool st, .int .i64 a, .int .i64 b, .int .i64 c, .int .i64 d, .int .i64 e])).run Tryd.prog W = .ok true W := by
  have hf := tk_fields
  rw [run_equalIn_agg (d := 9999) W 42 _ _ (by kernel_rfl) (by kernel_rfl)]
  generalize (Tryd.prog.fieldsOf 42).toList = fs at hf
  have e1 := fun a b W => run_equalIn_int (P := Tryd.prog) W 9998 3 .i64 .i64 a b Tryd.underlying3
  have e2 := fun a b W => run_equalIn_int (P := Tryd.prog) W 9998 40 .i64 .i64 a b Tryd.underlying40
  have e3 := fun a b W => run_equalIn_bool' (P := Tryd.prog) W 9998 4 a b Tryd.underlying4
  have p0 : ∀ W, (part 4 #[.bool st, .int .i64 a, .int .i64 b, .int .i64 c, .int .i64 d, .int .i64 e] 0).run Tryd.prog W = .ok (.bool st) W := fun W => by kernel_rfl
  have p1 : ∀ W, (part 3 #[.bool st, .int .i64 a, .int .i64 b, .int .i64 c, .int .i64 d, .int .i64 e] 1).run Tryd.prog W = .ok (.int .i64 a) W := fun W => by kernel_rfl
  have p2 : ∀ W, (part 3 #[.bool st, .int .i64 a, .int .i64 b, .int .i64 c, .int .i64 d, .int .i64 e] 2).run Tryd.prog W = .ok (.int .i64 b) W := fun W => by kernel_rfl
  have p3 : ∀ W, (part 3 #[.bool st, .int .i64 a, .int .i64 b, .int .i64 c, .int .i64 d, .int .i64 e] 3).run Tryd.prog W = .ok (.int .i64 c) W := fun W => by kernel_rfl
  have p4 : ∀ W, (part 3 #[.bool st, .int .i64 a, .int .i64 b, .int .i64 c, .int .i64 d, .int .i64 e] 4).run Tryd.prog W = .ok (.int .i64 d) W := fun W => by kernel_rfl
  have p5 : ∀ W, (part 40 #[.bool st, .int .i64 a, .int .i64 b, .int .i64 c, .int .i64 d, .int .i64 e] 5).run Tryd.prog W = .ok (.int .i64 e) W := fun W => by kernel_rfl
  match fs, hf with
  | [], hf => simp at hf
  | [_], hf => simp at hf
  | [_, _], hf => simp at hf
  | [_, _, _], hf => simp at hf
  | [_, _, _, _], hf => simp at hf
  | [_, _, _, _, _], hf => simp at hf
  | _ :: _ :: _ :: _ :: _ :: _ :: _ :: _, hf => simp at hf
  | [f0, f1, f2, f3, f4, f5], hf =>
    simp only [List.map_cons, List.map_nil, List.cons.injEq, Prod.mk.injEq, and_true] at hf
    obtain ⟨⟨n0, t0, o0⟩, ⟨n1, t1, o1⟩, ⟨n2, t2, o2⟩, ⟨n3, t3, o3⟩, ⟨n4, t4, o4⟩, n5, t5, o5⟩ := hf
    simp only [Op.eqFields, n0, n1, n2, n3, n4, n5, t0, t1, t2, t3, t4, t5, o0, o1, o2, o3, o4, o5]
    simp [p0, p1, p2, p3, p4, p5, e1, e2, e3]
theorem tk_eql_self (st : Bool) (a b c d e : Int) (W : World) : (binOp .eql 42 (.agg #[.bool st, .int .i64 a, .int .i64 b, .int .i64 c, .int .i64 d, .int .i64 e]) (.agg #[.bool st, .int .i64 a, .int .i64 b, .int .i64 c, .int .i64 d, .int .i64 e])).run Tryd.prog W = .ok (.bool true) W := by
  rw [run_eql_struct, tk_self]
  rfl
def rowsL (A : Option Addr) (n c : Nat) (T B : Int) (t : Tkr) : List (TypeId × List Value) := [(27, [.slice A n c, .int .i64 T, .int .i64 B]), (42, cT t)]
/-- What the reference hands out, as a ring. -/
theorem got_ringD {w : World} {A : Option Addr} {n c : Nat} {R : List Int} (h : IsQ w A n c R) (z : Int) : ∃ A3 n3 c3, (if z = 0 then Value.slice A n c else .slice none 0 0) = .slice A3 n3 c3 ∧ IsQ w A3 n3 c3 (if z = 0 then R else []) := by
  by_cases hz : z = 0
  · rw [if_pos hz, if_pos hz]; exact ⟨_, _, _, rfl, h⟩
  · rw [if_neg hz, if_neg hz]; exact ⟨_, _, _, rfl, noQ w⟩
def PhiS1 (b : Nat) (s : Int × Int × Int × Tkr) (R2 : List Int) (A : Option Addr) (n c : Nat) (R : List Int) (T B : Int) (t0 : Tkr) (g1 : Nat) : Nat → Value → World → Prop
  | 0, v, w => v = .agg #[.slice A n c, .int .i64 T, .int .i64 B]
  | 1, v, w => ∃ A1 c1, v = .agg #[.slice A1 n c1, .int .i64 T, .int .i64 B] ∧ IsQ w A1 n c1 R
  | 2, v, w => v = vT t0
  | 3, v, w => ∃ A2 n2 c2, v = .tuple #[.agg #[.slice A2 n2 c2, .int .i64 s.2.1, .int .i64 s.2.2.1], vT s.2.2.2, .int .i64 s.1] ∧ OwnI w b (.slice A2 n2 c2) R2 ∧ R2.length = n2 ∧ n2 ≤ 1000
  | 4, v, w => ∃ A2 n2 c2, v = .tuple #[.agg #[.slice A2 n2 c2, .int .i64 s.2.1, .int .i64 s.2.2.1], vT s.2.2.2, .int .i64 s.1] ∧ OwnI w b (.slice A2 n2 c2) R2 ∧ R2.length = n2 ∧ n2 ≤ 1000
  | 5, v, w => ∃ A2 n2 c2, v = .agg #[.slice A2 n2 c2, .int .i64 s.2.1, .int .i64 s.2.2.1] ∧ OwnI w b (.slice A2 n2 c2) R2 ∧ R2.length = n2 ∧ n2 ≤ 1000
  | 6, v, w => True
  | 7, v, w => True
  | 8, v, w => ∃ x, v = .pointer (some ⟨x, 0, none⟩) ∧ RowV x 27 [.slice none 0 0, .int .i64 0, .int .i64 0] w ∧ b ≤ x
  | 9, v, w => ∃ x, v = .pointer (some ⟨x, 0, none⟩) ∧ RowV x 42 (cT (newTk false)) w ∧ b ≤ x
  | _, _, _ => True
theorem phiS1_below {b : Nat} {s : Int × Int × Int × Tkr} {R2 : List Int} {A : Option Addr} {n c : Nat} {R : List Int} {T B : Int} {t0 : Tkr} {g1 : Nat} : ∀ kq v w w', PhiS1 b s R2 A n c R T B t0 g1 kq v w → Below w.heap.size w w' → PhiS1 b s R2 A n c R T B t0 g1 kq v w' := by
  intro kq v w w' h hb
  match kq, h with
  | 0, h => exact h
  | 1, h => exact (by obtain ⟨A1, c1, e, hq⟩ := h; exact ⟨A1, c1, e, hq.below hb⟩)
  | 2, h => exact h
  | 3, h => exact (by obtain ⟨A2, n2, c2, e, ho, q⟩ := h; exact ⟨A2, n2, c2, e, OwnI.below ho hb, q⟩)
  | 4, h => exact (by obtain ⟨A2, n2, c2, e, ho, q⟩ := h; exact ⟨A2, n2, c2, e, OwnI.below ho hb, q⟩)
  | 5, h => exact (by obtain ⟨A2, n2, c2, e, ho, q⟩ := h; exact ⟨A2, n2, c2, e, OwnI.below ho hb, q⟩)
  | 6, h => exact h
  | 7, h => exact h
  | 8, h => exact (by obtain ⟨x, e, hr, hx⟩ := h; exact ⟨x, e, hr.below hb hr.lt, hx⟩)
  | 9, h => exact (by obtain ⟨x, e, hr, hx⟩ := h; exact ⟨x, e, hr.below hb hr.lt, hx⟩)
  | kq + 10, h => exact trivial
def PhiS2 (b : Nat) (s : Int × Int × Int × Tkr) (R2 : List Int) (A : Option Addr) (n c : Nat) (R : List Int) (T B : Int) (t0 : Tkr) (g1 : Nat) : Nat → Value → World → Prop
  | 0, v, w => v = .agg #[.slice A n c, .int .i64 T, .int .i64 B]
  | 1, v, w => ∃ A1 c1, v = .agg #[.slice A1 n c1, .int .i64 T, .int .i64 B] ∧ IsQ w A1 n c1 R
  | 2, v, w => v = .pointer (some ⟨g1, 0, none⟩)
  | 3, v, w => v = .bool t0.steal
  | 4, v, w => ∃ A2 n2 c2, v = .tuple #[.agg #[.slice A2 n2 c2, .int .i64 s.2.1, .int .i64 s.2.2.1], vT s.2.2.2, .int .i64 s.1] ∧ OwnI w b (.slice A2 n2 c2) R2 ∧ R2.length = n2 ∧ n2 ≤ 1000
  | 5, v, w => ∃ A2 n2 c2, v = .tuple #[.agg #[.slice A2 n2 c2, .int .i64 s.2.1, .int .i64 s.2.2.1], vT s.2.2.2, .int .i64 s.1] ∧ OwnI w b (.slice A2 n2 c2) R2 ∧ R2.length = n2 ∧ n2 ≤ 1000
  | 6, v, w => ∃ A2 n2 c2, v = .agg #[.slice A2 n2 c2, .int .i64 s.2.1, .int .i64 s.2.2.1] ∧ OwnI w b (.slice A2 n2 c2) R2 ∧ R2.length = n2 ∧ n2 ≤ 1000
  | 7, v, w => True
  | 8, v, w => True
  | 9, v, w => ∃ x, v = .pointer (some ⟨x, 0, none⟩) ∧ RowV x 27 [.slice none 0 0, .int .i64 0, .int .i64 0] w ∧ b ≤ x
  | 10, v, w => ∃ x, v = .pointer (some ⟨x, 0, none⟩) ∧ RowV x 42 (cT (newTk false)) w ∧ b ≤ x
  | _, _, _ => True
theorem phiS2_below {b : Nat} {s : Int × Int × Int × Tkr} {R2 : List Int} {A : Option Addr} {n c : Nat} {R : List Int} {T B : Int} {t0 : Tkr} {g1 : Nat} : ∀ kq v w w', PhiS2 b s R2 A n c R T B t0 g1 kq v w → Below w.heap.size w w' → PhiS2 b s R2 A n c R T B t0 g1 kq v w' := by
  intro kq v w w' h hb
  match kq, h with
  | 0, h => exact h
  | 1, h => exact (by obtain ⟨A1, c1, e, hq⟩ := h; exact ⟨A1, c1, e, hq.below hb⟩)
  | 2, h => exact h
  | 3, h => exact h
  | 4, h => exact (by obtain ⟨A2, n2, c2, e, ho, q⟩ := h; exact ⟨A2, n2, c2, e, OwnI.below ho hb, q⟩)
  | 5, h => exact (by obtain ⟨A2, n2, c2, e, ho, q⟩ := h; exact ⟨A2, n2, c2, e, OwnI.below ho hb, q⟩)
  | 6, h => exact (by obtain ⟨A2, n2, c2, e, ho, q⟩ := h; exact ⟨A2, n2, c2, e, OwnI.below ho hb, q⟩)
  | 7, h => exact h
  | 8, h => exact h
  | 9, h => exact (by obtain ⟨x, e, hr, hx⟩ := h; exact ⟨x, e, hr.below hb hr.lt, hx⟩)
  | 10, h => exact (by obtain ⟨x, e, hr, hx⟩ := h; exact ⟨x, e, hr.below hb hr.lt, hx⟩)
  | kq + 11, h => exact trivial
def ThtS1 (b : Nat) (wr : World) (s : Int × Int × Int × Tkr) (R2 : List Int) (t : Nat) (f : Nat → Value) (w : World) : Prop :=
  10 ≤ t ∧ t ≤ 13 ∧ Below b wr w ∧ ∃ A2 n2 c2 x8 x9, f 31 = .agg #[.slice A2 n2 c2, .int .i64 s.2.1, .int .i64 s.2.2.1] ∧ f 5 = .pointer (some ⟨x8, 0, none⟩) ∧ f 6 = .pointer (some ⟨x9, 0, none⟩) ∧ b ≤ x8 ∧ b ≤ x9 ∧
    OwnI w b (.slice A2 n2 c2) R2 ∧ R2.length = n2 ∧ n2 ≤ 1000 ∧ (t = 10 → RowV x8 27 [.slice none 0 0, .int .i64 0, .int .i64 0] w) ∧ (11 ≤ t → RowV x8 27 [.slice A2 n2 c2, .int .i64 s.2.1, .int .i64 s.2.2.1] w) ∧
    (t ≤ 11 → RowV x9 42 (cT (newTk false)) w) ∧ (12 ≤ t → RowV x9 42 (cT s.2.2.2) w) ∧ (t = 13 → f 7 = .int .i64 s.1)
def ThtS2 (b : Nat) (wr : World) (s : Int × Int × Int × Tkr) (R2 : List Int) (t : Nat) (f : Nat → Value) (w : World) : Prop :=
  11 ≤ t ∧ t ≤ 14 ∧ Below b wr w ∧ ∃ A2 n2 c2 x8 x9, f 47 = .agg #[.slice A2 n2 c2, .int .i64 s.2.1, .int .i64 s.2.2.1] ∧ f 11 = .pointer (some ⟨x8, 0, none⟩) ∧ f 12 = .pointer (some ⟨x9, 0, none⟩) ∧ b ≤ x8 ∧ b ≤ x9 ∧
    OwnI w b (.slice A2 n2 c2) R2 ∧ R2.length = n2 ∧ n2 ≤ 1000 ∧ (t = 11 → RowV x8 27 [.slice none 0 0, .int .i64 0, .int .i64 0] w) ∧ (12 ≤ t → RowV x8 27 [.slice A2 n2 c2, .int .i64 s.2.1, .int .i64 s.2.2.1] w) ∧
    (t ≤ 12 → RowV x9 42 (cT (newTk false)) w) ∧ (13 ≤ t → RowV x9 42 (cT s.2.2.2) w) ∧ (t = 14 → f 13 = .int .i64 s.1)
section
variable {A : Option Addr} {n c : Nat} {R : List Int}
end
end Go.Proofs.YtcjmljpfhabmnaaDoor
set_option linter.unusedVariables false
namespace Go.Proofs.YtcjmljpfhabmnaaDoor
open Go Go.RowKit

/-- rr: the result's row; gq: the deque's; ga: the takers'. vr: the ring, vg: what was got. -/
structure StP (wf : World) (rr gq ga : Nat) (vr : Value) (R : List Int) (T B : Int) (tk : Nat → Tkr) (vg : Value) (got : List Int) (w : World) : Prop where
  bel : Below wf.heap.size wf w
  hr : wf.heap.size ≤ rr
  hq : wf.heap.size ≤ gq
  ha : wf.heap.size ≤ ga
  ne : rr ≠ gq
  res : RowV rr 27 [.slice none 0 0, .int .i64 0, .int .i64 0] w
  q : RowV gq 27 [vr, .int .i64 T, .int .i64 B] w
  ta : RowV ga 50 (arrC tk) w
  ring : OwnI w wf.heap.size vr R
  list : OwnI w wf.heap.size vg got
  apart : ∀ k, vr.ownBlock = some k → vg.ownBlock ≠ some k
section
variable {wf w w' : World} {rr gq ga : Nat} {vr vg : Value} {R got : List Int} {T B : Int} {tk : Nat → Tkr}
theorem StP.size (h : StP wf rr gq ga vr R T B tk vg got w) : wf.heap.size ≤ w.heap.size := h.bel.size
theorem StP.next (h : StP wf rr gq ga vr R T B tk vg got w) (hb : Below w.heap.size w w') : StP wf rr gq ga vr R T B tk vg got w' :=
  ⟨h.bel.trans (hb.mono h.size), h.hr, h.hq, h.ha, h.ne, h.res.below hb h.res.lt, h.q.below hb h.q.lt, h.ta.below hb h.ta.lt, h.ring.below hb, h.list.below hb, h.apart⟩
theorem StP.blockLt (h : StP wf rr gq ga vr R T B tk vg got w) : ∀ k, vg.ownBlock = some k → k < w.heap.size := fun k e => (row_lts h.list k e).2.1
/-- A new ring is put into the deque's row. -/
theorem StP.putQ (h : StP wf rr gq ga vr R T B tk vg got w) {vr' : Value} {R' : List Int} (T' B' : Int) (ho : OwnI w wf.heap.size vr' R') (hap : ∀ k, vr'.ownBlock = some k → vg.ownBlock ≠ some k) :
    StP wf rr gq ga vr' R' T' B' tk vg got (((w.setCell ⟨gq, 0, none⟩ vr').setCell ⟨gq, 1, none⟩ (.int .i64 T')).setCell ⟨gq, 2, none⟩ (.int .i64 B')) :=
  have hne : ga ≠ gq := fun e => rowV_types (e ▸ h.ta) h.q (by decide)
  ⟨((h.bel.setCell h.hq _).setCell h.hq _).setCell h.hq _, h.hr, h.hq, h.ha, h.ne, ((h.res.far h.ne).far h.ne).far h.ne, ((h.q.set 0 _).set 1 _).set 2 _, ((h.ta.far hne).far hne).far hne, own_store3 ho h.q (by decide), own_store3 h.list h.q (by decide), hap⟩
/-- A taker is put into the array. -/
theorem StP.putT (h : StP wf rr gq ga vr R T B tk vg got w) {k : Nat} (hk : k < 4) (t : Tkr) :
    StP wf rr gq ga vr R T B (setT tk k t) vg got ((((((w.setCell ⟨ga, 6 * k, none⟩ (.bool t.steal)).setCell ⟨ga, 6 * k + 1, none⟩ (.int .i64 t.at_)).setCell ⟨ga, 6 * k + 2, none⟩ (.int .i64 t.top)).setCell ⟨ga, 6 * k + 3, none⟩ (.int .i64 t.bot)).setCell ⟨ga, 6 * k + 4, none⟩ (.int .i64 t.got)).setCell ⟨ga, 6 * k + 5, none⟩ (.int .i64 t.end_)) := by
  have hq : gq ≠ ga := fun e => rowV_types (e ▸ h.ta) h.q (by decide)
  have hr : rr ≠ ga := fun e => rowV_types (e ▸ h.ta) h.res (by decide)
  have r1 := h.ta.set (6 * k) (.bool t.steal)
  have r2 := r1.set (6 * k + 1) (.int .i64 t.at_)
  have r3 := r2.set (6 * k + 2) (.int .i64 t.top)
  have r4 := r3.set (6 * k + 3) (.int .i64 t.bot)
  have r5 := r4.set (6 * k + 4) (.int .i64 t.got)
  have r6 := r5.set (6 * k + 5) (.int .i64 t.end_)
  have ow : ∀ {v : Value} {zs : List Int}, OwnI w wf.heap.size v zs → OwnI ((((((w.setCell ⟨ga, 6 * k, none⟩ (.bool t.steal)).setCell ⟨ga, 6 * k + 1, none⟩ (.int .i64 t.at_)).setCell ⟨ga, 6 * k + 2, none⟩ (.int .i64 t.top)).setCell ⟨ga, 6 * k + 3, none⟩ (.int .i64 t.bot)).setCell ⟨ga, 6 * k + 4, none⟩ (.int .i64 t.got)).setCell ⟨ga, 6 * k + 5, none⟩ (.int .i64 t.end_)) wf.heap.size v zs := fun ho =>
    own_store (own_store (own_store (own_store (own_store (own_store ho h.ta (by decide)) r1 (by decide)) r2 (by decide)) r3 (by decide)) r4 (by decide)) r5 (by decide)
  rw [arrC_set tk t hk] at r6
  exact ⟨(((((h.bel.setCell h.ha _).setCell h.ha _).setCell h.ha _).setCell h.ha _).setCell h.ha _).setCell h.ha _, h.hr, h.hq, h.ha, h.ne,
    (((((h.res.far hr).far hr).far hr).far hr).far hr).far hr, (((((h.q.far hq).far hq).far hq).far hq).far hq).far hq, r6, ow h.ring, ow h.list, h.apart⟩
theorem RXs.ownFarP {t u : TypeId} {base base' : Nat} {row : Option Nat} {x y : World} (h : RXs u base row x y) {s k : Nat} {v : Value} {xs : List Value} (ho : x.ownsRow base' t s v k xs) (hne : v.ownBlock = none ∨ v.ownBlock ≠ row) : y.ownsRow base' t s v k xs := by
  rcases h with h | ⟨h, _⟩
  · exact own_below ho h
  · exact ho.kept h hne
/-- One number more was got. -/
theorem StP.push (h : StP wf rr gq ga vr R T B tk vg got w) {vg' : Value} {got' : List Int} (ho : OwnI w' wf.heap.size vg' got') (hx : RXs 3 wf.heap.size vg.ownBlock w w') (hat : ∀ k, vg'.ownBlock = some k → vg.ownBlock = some k ∨ w.heap.size ≤ k) :
    StP wf rr gq ga vr R T B tk vg' got' w' := by
  refine ⟨h.bel.trans (hx.below h.size), h.hr, h.hq, h.ha, h.ne, hx.heap h.res (by decide), hx.heap h.q (by decide), hx.heap h.ta (by decide), hx.ownFarP h.ring ?_, ho, fun k e1 e2 => ?_⟩
  · cases hv : vr.ownBlock with
    | none => exact .inl rfl
    | some q => exact .inr fun e => h.apart q hv e.symm
  · rcases hat k e2 with h1 | h1
    · exact h.apart k e1 h1
    · have := (row_lts h.ring k e1).2.1
      omega
/-- A ring that is new. -/
theorem StP.fresh (h : StP wf rr gq ga vr R T B tk vg got w) {vr' : Value} {R' : List Int} {b : Nat} {y : World} (ho : OwnI y b vr' R') (hb : w.heap.size ≤ b) : ∀ k, vr'.ownBlock = some k → vg.ownBlock ≠ some k := fun k e1 e2 => by
  have h1 := (row_lts ho k e1).1
  have h2 := h.blockLt k e2
  omega
end
end Go.Proofs.YtcjmljpfhabmnaaDoor
set_option linter.unusedVariables false
namespace Go.Proofs.YtcjmljpfhabmnaaDoor
open Go Go.RowKit

/-- Ahead of turn j: m acts are Ks; then each goes on to its end. -/
structure PlayAt (N : Nat) (Ks : List Int) (j P : Nat) (R : List Int) (T B : Int) (tk : Nat → Tkr) (got : List Int) : Prop where
  inv : PlayInv N R T B tk got P
  pj : P ≤ j
  pm : P ≤ Ks.length
  gl : got.length ≤ j
  fin : Ks.length ≤ j → FinInv tk (j - Ks.length)
  st : (∀ K ∈ Ks, kOf K ≠ 0) → StealInv R T B tk got P
section
variable {N : Nat} {Ks : List Int} {j P : Nat} {R : List Int} {T B : Int} {tk : Nat → Tkr} {got : List Int}
theorem PlayAt.start {N : Nat} (h : 1 ≤ N) (Ks : List Int) : PlayAt N Ks 0 0 (List.replicate N 0) 0 0 startT [] :=
  ⟨PlayInv.start h, Nat.le_refl _, Nat.zero_le _, Nat.le_refl _, fun _ => by rw [Nat.zero_sub]; exact FinInv.start (PlayInv.start h), fun _ => StealInv.start N⟩
theorem PlayAt.fin' (h : PlayInv N R T B tk got P) (hj : j < Ks.length) : Ks.length ≤ j + 1 → FinInv tk (j + 1 - Ks.length) := fun h1 => by
  rw [show j + 1 - Ks.length = 0 by omega]
  exact FinInv.start h
/-- Nothing can be pushed just now. -/
theorem PlayAt.on (h : PlayAt N Ks j P R T B tk got) (hj : j < Ks.length) : PlayAt N Ks (j + 1) P R T B tk got :=
  ⟨h.inv, Nat.le_succ_of_le h.pj, h.pm, Nat.le_succ_of_le h.gl, PlayAt.fin' h.inv hj, h.st⟩
theorem PlayAt.push (h : PlayAt N Ks j P R T B tk got) (hj : j < Ks.length) (hi : (tk 0).at_ = 0) (hr : B - T < N) : PlayAt N Ks (j + 1) (P + 1) (R.set (B.toNat % R.length) ((P : Int) + 1)) T (B + 1) tk got :=
  have hp := h.inv.push hi hr
  ⟨hp, Nat.succ_le_succ h.pj, by have := h.pj; omega, Nat.le_succ_of_le h.gl, PlayAt.fin' hp hj, fun hs => (h.st hs).push h.inv hr⟩
theorem kOf_mem {Ks : List Int} {j : Nat} (hj : j < Ks.length) : Ks.getD j 0 ∈ Ks := by
  rw [List.getD_eq_getElem?_getD, List.getElem?_eq_getElem hj]
  exact List.getElem_mem hj
/-- A step of taker k. -/
theorem PlayAt.step (h : PlayAt N Ks j P R T B tk got) {k : Nat} (hk : k < 4) (h1 : j < Ks.length → kOf (Ks.getD j 0) = k) (h2 : Ks.length ≤ j → k = (j - Ks.length) % 4 ∧ (tk k).at_ ≠ 0) :
    PlayAt N Ks (j + 1) P R (moveD R T B (tk k)).1 (moveD R T B (tk k)).2.1 (setT tk k (nextT (moveD R T B (tk k)).2.2)) (nextG got (moveD R T B (tk k)).2.2) := by
  have hm := h.inv.move hk
  refine ⟨hm, Nat.le_succ_of_le h.pj, h.pm, Nat.le_trans (nextG_len _) (Nat.succ_le_succ h.gl), ?_, fun hs => ?_⟩
  · by_cases hj : j < Ks.length
    · exact PlayAt.fin' hm hj
    · intro _
      obtain ⟨e, ha⟩ := h2 (by omega)
      have hf := h.fin (by omega)
      rw [show j + 1 - Ks.length = (j - Ks.length) + 1 by omega]
      subst e
      exact hf.move h.inv ha
  · have hs2 := h.st hs
    by_cases h0 : k = 0
    · subst h0
      by_cases hj : j < Ks.length
      · exact absurd (h1 hj) (hs _ (kOf_mem hj))
      · exact absurd hs2.idle (h2 (by omega)).2
    · exact hs2.steal h.inv (by omega) hk
/-- At the end: who is at nothing stays so. -/
theorem PlayAt.rest (h : PlayAt N Ks j P R T B tk got) (hj : Ks.length ≤ j) (ha : (tk ((j - Ks.length) % 4)).at_ = 0) : PlayAt N Ks (j + 1) P R T B tk got :=
  ⟨h.inv, Nat.le_succ_of_le h.pj, h.pm, Nat.le_succ_of_le h.gl, fun _ => by
    rw [show j + 1 - Ks.length = (j - Ks.length) + 1 by omega]
    exact (h.fin hj).skip ha, h.st⟩
/-- At the end nobody is on the way. -/
theorem PlayAt.over (h : PlayAt N Ks j P R T B tk got) (hj : Ks.length + 16 ≤ j) : ∀ k, k < 4 → (tk k).at_ = 0 :=
  (h.fin (by omega)).end_ h.inv (by omega)
end
end Go.Proofs.YtcjmljpfhabmnaaDoor
set_option linter.unusedVariables false
set_option linter.unusedSimpArgs false
namespace Go.Proofs.YtcjmljpfhabmnaaDoor
open Go Go.RowKit
theorem takers_info : (Tryd.prog.info? 50).map (fun i => (i.zero, i.size)) = some (some (.agg #[.bool false, .int .i64 0, .int .i64 0, .int .i64 0, .int .i64 0, .int .i64 0, .bool false, .int .i64 0, .int .i64 0, .int .i64 0, .int .i64 0, .int .i64 0, .bool false, .int .i64 0, .int .i64 0, .int .i64 0, .int .i64 0, .int .i64 0, .bool false, .int .i64 0, .int .i64 0, .int .i64 0, .int .i64 0, .int .i64 0]), 24) := by kernel_rfl
set_option maxRecDepth 100000 in
set_option maxHeartbeats 4000000 in
theorem takers_region {Q : Exit → Act → World → Prop} {a : Act} {w : World} {id : Nat} {o0 o1 o2 o3 o4 o5 o6 : Oper} (hs : 31 ≤ a.tmps.size)
    (g0 : o0.guard = none) (g1 : o1.guard = none) (g2 : o2.guard = none) (g3 : o3.guard = none) (g4 : o4.guard = none) (g5 : o5.guard = none) (g6 : o6.guard = none)
    (d0 : o0.dst = some 26) (d1 : o1.dst = some 27) (d2 : o2.dst = some 28) (d3 : o3.dst = some 29) (d4 : o4.dst = some 30) (d5 : o5.dst = some 12) (d6 : o6.dst = none)
    (h0 : o0.op = .build 42 #[]) (h1 : o1.op = .build 42 #[(0, .const (.bool true))]) (h2 : o2.op = .build 42 #[(0, .const (.bool true))]) (h3 : o3.op = .build 42 #[(0, .const (.bool true))])
    (h4 : o4.op = .build 50 #[(0, .tmp 26), (1, .tmp 27), (2, .tmp 28), (3, .tmp 29)]) (h5 : o5.op = .alloc 50) (h6 : o6.op = .store 50 (.tmp 12) (.tmp 30))
    (h : Q .normal ((((((a.put (some 26) (vT (newTk false))).put (some 27) (vT (newTk true))).put (some 28) (vT (newTk true))).put (some 29) (vT (newTk true))).put (some 30) (.agg (arrC startT).toArray)).put (some 12) (.pointer (some ⟨w.heap.size, 0, none⟩))) (w.alloc (.cells (arrC startT).toArray 50))) :
    (Code.region id #[o0, o1, o2, o3, o4, o5, o6] false).wp Tryd.prog Q a w := by
  refine wp_region_lit (l := [o0, o1, o2, o3, o4, o5, o6]) ?_
  refine wpList_plain g0 fun K hK => ?_
  unfold Oper.wp
  rw [show (execOp a.eval o0).run Tryd.prog w = .ok (.value (vT (newTk false))) w from by simp [execOp, h0, vT, newTk, go_sem], Oper.upon_value, d0]
  refine hK _ _ ?_
  generalize ha1 : a.put (some 26) (vT (newTk false)) = a1 at h ⊢
  refine wpList_plain g1 fun K hK => ?_
  unfold Oper.wp
  rw [show (execOp a1.eval o1).run Tryd.prog w = .ok (.value (vT (newTk true))) w from by simp [execOp, h1, vT, newTk, go_sem], Oper.upon_value, d1]
  refine hK _ _ ?_
  generalize ha2 : a1.put (some 27) (vT (newTk true)) = a2 at h ⊢
  refine wpList_plain g2 fun K hK => ?_
  unfold Oper.wp
  rw [show (execOp a2.eval o2).run Tryd.prog w = .ok (.value (vT (newTk true))) w from by simp [execOp, h2, vT, newTk, go_sem], Oper.upon_value, d2]
  refine hK _ _ ?_
  generalize ha3 : a2.put (some 28) (vT (newTk true)) = a3 at h ⊢
  refine wpList_plain g3 fun K hK => ?_
  unfold Oper.wp
  rw [show (execOp a3.eval o3).run Tryd.prog w = .ok (.value (vT (newTk true))) w from by simp [execOp, h3, vT, newTk, go_sem], Oper.upon_value, d3]
  refine hK _ _ ?_
  generalize ha4 : a3.put (some 29) (vT (newTk true)) = a4 at h ⊢
  have s1 : a1.tmps.size = a.tmps.size := by rw [← ha1]; exact Array.size_setIfInBounds
  have s2 : a2.tmps.size = a.tmps.size := by rw [← ha2, ← s1]; exact Array.size_setIfInBounds
  have s3 : a3.tmps.size = a.tmps.size := by rw [← ha3, ← s2]; exact Array.size_setIfInBounds
  have s4 : a4.tmps.size = a.tmps.size := by rw [← ha4, ← s3]; exact Array.size_setIfInBounds
  have e26 : a4.eval (.tmp 26) = vT (newTk false) := by
    rw [← ha4, eval_put_other _ _ _ _ (by decide), ← ha3, eval_put_other _ _ _ _ (by decide), ← ha2, eval_put_other _ _ _ _ (by decide), ← ha1, eval_put_same _ _ _ (by omega)]
  have e27 : a4.eval (.tmp 27) = vT (newTk true) := by
    rw [← ha4, eval_put_other _ _ _ _ (by decide), ← ha3, eval_put_other _ _ _ _ (by decide), ← ha2, eval_put_same _ _ _ (by omega)]
  have e28 : a4.eval (.tmp 28) = vT (newTk true) := by
    rw [← ha4, eval_put_other _ _ _ _ (by decide), ← ha3, eval_put_same _ _ _ (by omega)]
  have e29 : a4.eval (.tmp 29) = vT (newTk true) := by
    rw [← ha4, eval_put_same _ _ _ (by omega)]
  refine wpList_plain g4 fun K hK => ?_
  unfold Oper.wp
  obtain ⟨ρ, hρ⟩ : ∃ ρ, a4.eval = ρ := ⟨_, rfl⟩
  rw [hρ] at e26 e27 e28 e29 ⊢
  unfold vT newTk at e26 e27 e28 e29
  rw [show (execOp ρ o4).run Tryd.prog w = .ok (.value (.agg (arrC startT).toArray)) w from by
    simp [execOp, h4, e26, e27, e28, e29, go_sem, arrC_start], Oper.upon_value, d4]
  refine hK _ _ ?_
  generalize ha5 : a4.put (some 30) (.agg (arrC startT).toArray) = a5 at h ⊢
  have s5 : a5.tmps.size = a.tmps.size := by rw [← ha5, ← s4]; exact Array.size_setIfInBounds
  refine wpList_plain g5 fun K hK => ?_
  unfold Oper.wp
  rw [show (execOp a5.eval o5).run Tryd.prog w = .ok (.value (.pointer (some ⟨w.heap.size, 0, none⟩))) (w.alloc (.cells #[.bool false, .int .i64 0, .int .i64 0, .int .i64 0, .int .i64 0, .int .i64 0, .bool false, .int .i64 0, .int .i64 0, .int .i64 0, .int .i64 0, .int .i64 0, .bool false, .int .i64 0, .int .i64 0, .int .i64 0, .int .i64 0, .int .i64 0, .bool false, .int .i64 0, .int .i64 0, .int .i64 0, .int .i64 0, .int .i64 0] 50)) from by
    simp [execOp, h5, go_sem], Oper.upon_value, d5]
  refine hK _ _ ?_
  generalize ha6 : a5.put (some 12) (.pointer (some ⟨w.heap.size, 0, none⟩)) = a6 at h ⊢
  have s6 : a6.tmps.size = a.tmps.size := by rw [← ha6, ← s5]; exact Array.size_setIfInBounds
  have e12 : a6.eval (.tmp 12) = .pointer (some ⟨w.heap.size, 0, none⟩) := by rw [← ha6, eval_put_same _ _ _ (by omega)]
  have e30 : a6.eval (.tmp 30) = .agg (arrC startT).toArray := by
    rw [← ha6, eval_put_other _ _ _ _ (by decide), ← ha5, eval_put_same _ _ _ (by omega)]
  refine wpList_plain g6 fun K hK => ?_
  unfold Oper.wp
  have hz := Go.run_storeAt_new (P := Tryd.prog) w 50 #[.bool false, .int .i64 0, .int .i64 0, .int .i64 0, .int .i64 0, .int .i64 0, .bool false, .int .i64 0, .int .i64 0, .int .i64 0, .int .i64 0, .int .i64 0, .bool false, .int .i64 0, .int .i64 0, .int .i64 0, .int .i64 0, .int .i64 0, .bool false, .int .i64 0, .int .i64 0, .int .i64 0, .int .i64 0, .int .i64 0] (arrC startT).toArray (zero_of_info takers_info).2 rfl (by decide +kernel)
  rw [show (execOp a6.eval o6).run Tryd.prog _ = .ok .skip (w.alloc (.cells (arrC startT).toArray 50)) from by
    simp only [execOp, h6, e12, e30, hz, Sem.run_bind, Result.andThen_ok, Sem.run_pure], Oper.upon_skip, d6]
  refine hK _ _ ?_
  exact wpList_nil h
end Go.Proofs.YtcjmljpfhabmnaaDoor
