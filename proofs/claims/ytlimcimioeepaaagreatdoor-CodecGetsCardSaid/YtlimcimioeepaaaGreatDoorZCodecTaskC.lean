/- The contract of codec.task over a reader's method value, in the seat YtlimcimioeepaaaGreatDoor (printed by codec/mk_task.py). No statement is proved here. -/
import Derived.Test.YtlimcimioeepaaaGreatDoorZG11
set_option linter.unusedVariables false
namespace Go.Proofs.YtlimcimioeepaaaGreatDoor
open Go.RowKit

def T1 (b : List UInt8) (s : Nat × Bool) : Nat × Bool := (numS b 1 s).2
def T2 (b : List UInt8) (s : Nat × Bool) : Nat × Bool := (numS b 1 (T1 b s)).2
def T3 (b : List UInt8) (s : Nat × Bool) : Nat × Bool := (numS b 1 (T2 b s)).2
def T4 (b : List UInt8) (s : Nat × Bool) : Nat × Bool := (numS b 1 (T3 b s)).2
def T5 (b : List UInt8) (s : Nat × Bool) : Nat × Bool := (numS b 4 (T4 b s)).2
def T6 (b : List UInt8) (s : Nat × Bool) : Nat × Bool := (numS b 4 (T5 b s)).2
def N1 (b : List UInt8) (s : Nat × Bool) : Nat := (numS b 1 s).1.toNat
def N2 (b : List UInt8) (s : Nat × Bool) : Nat := (numS b 1 (T1 b s)).1.toNat
def N3 (b : List UInt8) (s : Nat × Bool) : Nat := (numS b 1 (T2 b s)).1.toNat
def N4 (b : List UInt8) (s : Nat × Bool) : Nat := (numS b 1 (T3 b s)).1.toNat
def U1 (b : List UInt8) (s : Nat × Bool) : Nat × Bool := (rowS (partS b) (N1 b s) (T6 b s)).2
def U2 (b : List UInt8) (s : Nat × Bool) : Nat × Bool := (rowS (edgeS b) (N2 b s) (U1 b s)).2
def U3 (b : List UInt8) (s : Nat × Bool) : Nat × Bool := (rowS (futS b) (N3 b s) (U2 b s)).2
theorem T1_le {b : List UInt8} {s : Nat × Bool} (h : s.1 ≤ b.length) : (T1 b s).1 ≤ b.length := numS_le b _ _ h
theorem T2_le {b : List UInt8} {s : Nat × Bool} (h : s.1 ≤ b.length) : (T2 b s).1 ≤ b.length := numS_le b _ _ (T1_le h)
theorem T3_le {b : List UInt8} {s : Nat × Bool} (h : s.1 ≤ b.length) : (T3 b s).1 ≤ b.length := numS_le b _ _ (T2_le h)
theorem T4_le {b : List UInt8} {s : Nat × Bool} (h : s.1 ≤ b.length) : (T4 b s).1 ≤ b.length := numS_le b _ _ (T3_le h)
theorem T5_le {b : List UInt8} {s : Nat × Bool} (h : s.1 ≤ b.length) : (T5 b s).1 ≤ b.length := numS_le b _ _ (T4_le h)
theorem T6_le {b : List UInt8} {s : Nat × Bool} (h : s.1 ≤ b.length) : (T6 b s).1 ≤ b.length := numS_le b _ _ (T5_le h)
theorem partS_le (b : List UInt8) (s : Nat × Bool) (h : s.1 ≤ b.length) : (partS b s).2.1 ≤ b.length := numS_le b _ _ (numS_le b _ _ (numS_le b _ _ h))
theorem edgeS_le (b : List UInt8) (s : Nat × Bool) (h : s.1 ≤ b.length) : (edgeS b s).2.1 ≤ b.length := numS_le b _ _ (numS_le b _ _ h)
theorem futS_le (b : List UInt8) (s : Nat × Bool) (h : s.1 ≤ b.length) : (futS b s).2.1 ≤ b.length := numS_le b _ _ (numS_le b _ _ (numS_le b _ _ h))
theorem barS_le (b : List UInt8) (s : Nat × Bool) (h : s.1 ≤ b.length) : (barS b s).2.1 ≤ b.length := SB2_le b s h 2
theorem U1_le {b : List UInt8} {s : Nat × Bool} (h : s.1 ≤ b.length) : (U1 b s).1 ≤ b.length := rowS_le (partS_le b) _ _ (T6_le h)
theorem U2_le {b : List UInt8} {s : Nat × Bool} (h : s.1 ≤ b.length) : (U2 b s).1 ≤ b.length := rowS_le (edgeS_le b) _ _ (U1_le h)
theorem U3_le {b : List UInt8} {s : Nat × Bool} (h : s.1 ≤ b.length) : (U3 b s).1 ≤ b.length := rowS_le (futS_le b) _ _ (U2_le h)
theorem taskS_is (b : List UInt8) (s : Nat × Bool) : taskS b s = (⟨(numS b 4 (T4 b s)).1, (numS b 4 (T5 b s)).1, (rowS (partS b) (N1 b s) (T6 b s)).1, (rowS (edgeS b) (N2 b s) (U1 b s)).1, (rowS (futS b) (N3 b s) (U2 b s)).1, (rowS (barS b) (N4 b s) (U3 b s)).1⟩, (rowS (barS b) (N4 b s) (U3 b s)).2) := rfl

def VT (g : Nat) (b : List UInt8) (s : Nat × Bool) : Nat → Value
  | 0 => numF g
  | 1 => .int .i64 (numS b 1 s).1
  | 2 => numF g
  | 3 => .int .i64 (numS b 1 (T1 b s)).1
  | 4 => numF g
  | 5 => .int .i64 (numS b 1 (T2 b s)).1
  | 6 => numF g
  | 7 => .int .i64 (numS b 1 (T3 b s)).1
  | 8 => .int .i64 (numS b 1 s).1
  | 9 => .int .i64 (numS b 1 (T1 b s)).1
  | 10 => .int .i64 (numS b 1 (T2 b s)).1
  | 11 => .int .i64 (numS b 1 (T3 b s)).1
  | _ => undef
def ST (b : List UInt8) (s : Nat × Bool) : Nat → Nat × Bool
  | 0 => s
  | 1 => T1 b s
  | 2 => T2 b s
  | 3 => T3 b s
  | _ => T4 b s
theorem ST_le (b : List UInt8) (s : Nat × Bool) (h : s.1 ≤ b.length) : ∀ i, (ST b s i).1 ≤ b.length
  | 0 => h
  | 1 => T1_le h
  | 2 => T2_le h
  | 3 => T3_le h
  | _ + 4 => T4_le h
def SU (b : List UInt8) (s : Nat × Bool) : Nat → Nat × Bool
  | 0 => T4 b s
  | 1 => T5 b s
  | 2 => T6 b s
  | 3 => U1 b s
  | 4 => U2 b s
  | 5 => U3 b s
  | _ => (taskS b s).2
theorem SU_le (b : List UInt8) (s : Nat × Bool) (h : s.1 ≤ b.length) : ∀ i, (SU b s i).1 ≤ b.length
  | 0 => T4_le h
  | 1 => T5_le h
  | 2 => T6_le h
  | 3 => U1_le h
  | 4 => U2_le h
  | 5 => U3_le h
  | _ + 6 => rowS_le (barS_le b) _ _ (U3_le h)
@[reducible] def cloF (f : FuncId) (nb : Nat) : Value := .func (.func f) #[] #[.pointer (some ⟨nb, 0, none⟩)]
@[reducible] def barF (nb pb : Nat) : Value := .func (.func 104) #[] #[.pointer (some ⟨nb, 0, none⟩), .pointer (some ⟨pb, 0, none⟩)]
/-- A task's four lists, of the call's own. -/
def OwnD (base : Nat) (T : Task) (v : Value) (w : World) : Prop := ∃ A1 c1 A2 c2 A3 c3 A4 c4, v = .agg #[.int .i64 T.period, .int .i64 T.deadline, .slice A1 T.parts.length c1, .slice A2 T.edges.length c2, .slice A3 T.futures.length c3, .slice A4 T.bars.length c4] ∧
  OwnT 52 w base (.slice A1 T.parts.length c1) T.parts ∧ OwnE w base (.slice A2 T.edges.length c2) T.edges ∧ OwnT 58 w base (.slice A3 T.futures.length c3) T.futures ∧ OwnB w base (.slice A4 T.bars.length c4) T.bars
def PhiT (g nb pb base : Nat) (b : List UInt8) (s : Nat × Bool) : Nat → Value → World → Prop
  | 0, v, w => v = numF g
  | 1, v, w => v = .int .i64 (numS b 4 (T4 b s)).1
  | 2, v, w => v = numF g
  | 3, v, w => v = .int .i64 (numS b 4 (T5 b s)).1
  | 4, v, w => v = .int .i64 (N1 b s)
  | 5, v, w => v = cloF 98 nb
  | 6, v, w => ∃ A c, v = .slice A (N1 b s) c ∧ OwnT 52 w base (.slice A (N1 b s) c) (taskS b s).1.parts
  | 7, v, w => v = .int .i64 (N2 b s)
  | 8, v, w => v = cloF 100 nb
  | 9, v, w => ∃ A c, v = .slice A (N2 b s) c ∧ OwnE w base (.slice A (N2 b s) c) (taskS b s).1.edges
  | 10, v, w => v = .int .i64 (N3 b s)
  | 11, v, w => v = cloF 102 nb
  | 12, v, w => ∃ A c, v = .slice A (N3 b s) c ∧ OwnT 58 w base (.slice A (N3 b s) c) (taskS b s).1.futures
  | 13, v, w => v = .int .i64 (N4 b s)
  | 14, v, w => v = barF nb pb
  | 15, v, w => ∃ A c, v = .slice A (N4 b s) c ∧ OwnB w base (.slice A (N4 b s) c) (taskS b s).1.bars
  | 16, v, w => OwnD base (taskS b s).1 v w
  | _, _, _ => True
theorem phiT_grown {nb pb base g : Nat} {b : List UInt8} {s : Nat × Bool} (hgb : g < base) : ∀ k v w w', PhiT g nb pb base b s k v w → w.grownBy w' (some g) → PhiT g nb pb base b s k v w' := by
  intro k v w w' h hg
  match k, h with
  | 0, h => exact h
  | 1, h => exact h
  | 2, h => exact h
  | 3, h => exact h
  | 4, h => exact h
  | 5, h => exact h
  | 6, h =>
    obtain ⟨A, c, e, hO⟩ := h
    exact ⟨A, c, e, hO.grown hg hgb⟩
  | 7, h => exact h
  | 8, h => exact h
  | 9, h =>
    obtain ⟨A, c, e, hO⟩ := h
    exact ⟨A, c, e, hO.grown hg hgb⟩
  | 10, h => exact h
  | 11, h => exact h
  | 12, h =>
    obtain ⟨A, c, e, hO⟩ := h
    exact ⟨A, c, e, hO.grown hg hgb⟩
  | 13, h => exact h
  | 14, h => exact h
  | 15, h =>
    obtain ⟨A, c, e, hO⟩ := h
    exact ⟨A, c, e, hO.grown hg hgb⟩
  | 16, h =>
    obtain ⟨A1, c1, A2, c2, A3, c3, A4, c4, e, h1, h2, h3, h4⟩ := h
    exact ⟨A1, c1, A2, c2, A3, c3, A4, c4, e, h1.grown hg hgb, h2.grown hg hgb, h3.grown hg hgb, h4.grown hg hgb⟩
  | k + 17, h => exact trivial
theorem eg_row_part : ∀ args w, (callFunc 97 args).run Tryz.prog w = .ok (.enter 97 args) w := eg_of Tryz.func97 (by kernel_rfl) rfl
theorem eg_row_edge : ∀ args w, (callFunc 99 args).run Tryz.prog w = .ok (.enter 99 args) w := eg_of Tryz.func99 (by kernel_rfl) rfl
theorem eg_row_fut : ∀ args w, (callFunc 101 args).run Tryz.prog w = .ok (.enter 101 args) w := eg_of Tryz.func101 (by kernel_rfl) rfl
theorem eg_row_bar : ∀ args w, (callFunc 103 args).run Tryz.prog w = .ok (.enter 103 args) w := eg_of Tryz.func103 (by kernel_rfl) rfl
theorem eg_clo_part : ∀ args w, (callFunc 98 args).run Tryz.prog w = .ok (.enter 98 args) w := eg_of Tryz.func98 (by kernel_rfl) rfl
theorem eg_clo_edge : ∀ args w, (callFunc 100 args).run Tryz.prog w = .ok (.enter 100 args) w := eg_of Tryz.func100 (by kernel_rfl) rfl
theorem eg_clo_fut : ∀ args w, (callFunc 102 args).run Tryz.prog w = .ok (.enter 102 args) w := eg_of Tryz.func102 (by kernel_rfl) rfl
theorem eg_clo_bar : ∀ args w, (callFunc 104 args).run Tryz.prog w = .ok (.enter 104 args) w := eg_of Tryz.func104 (by kernel_rfl) rfl
set_option maxRecDepth 100000 in
set_option maxHeartbeats 8000000 in
theorem task_any (g : Nat) (b : List UInt8) (s : Nat × Bool) (w : World) (hl : b.length ≤ 1000) (hs : s.1 ≤ b.length) (hR : Rd g b s w) :
    Calls Tryz.prog 61 #[numF g] w fun e w' => ∃ v, e = .returned v ∧ OwnD w.heap.size (taskS b s).1 v w' ∧ Rd g b (taskS b s).2 w' ∧ w.grownBy w' (some g) := by
  obtain ⟨wA, hwA⟩ : ∃ wA, wA = (w.alloc (.cells #[numF g] 107)).alloc (.cells #[.int .i64 0, .int .i64 0, .slice none 0 0, .slice none 0 0, .slice none 0 0, .slice none 0 0] 27) := ⟨_, rfl⟩
  have hbA : Below w.heap.size w wA := by rw [hwA]; exact (below_alloc _).alloc (by simp) _
  have hgA : w.grownBy wA (some g) := Below.grows hbA _
  have hsA : wA.heap.size = w.heap.size + 2 := by rw [hwA]; simp
  have hqA : wA.heap[w.heap.size + 1]? = some (.cells #[.int .i64 0, .int .i64 0, .slice none 0 0, .slice none 0 0, .slice none 0 0, .slice none 0 0] 27 (0, 0)) := by
    rw [hwA]
    have h := heap_alloc_new (w.alloc (.cells #[numF g] 107)) (.cells #[.int .i64 0, .int .i64 0, .slice none 0 0, .slice none 0 0, .slice none 0 0, .slice none 0 0] 27)
    simpa using h
  have hgl := hR.lt
  have hEA : Env g w.heap.size wA := by
    refine ⟨?_, by omega⟩
    rw [hwA, Below.heap_alloc _ _ _ (by simp)]
    exact heap_alloc_new w _
  have hRA : Rd g b s wA := hR.below hbA hgl
  have HS := Lib.hid (ST_le b s hs)
  have HSU := Lib.hid (SU_le b s hs)
  have hz : ∀ w, (sizeOf 27).run Tryz.prog w = .ok 6 w := fun w => by kernel_rfl
  clear hR hs hbA
  go_enter Tryz.func61, Tryz.ntmps61
  go_wp2_with fail
  rw [← hwA]
  refine wp_region_chain 12 [8, 9, 10, 11, 12, 13, 14, 15, 3, 4, 5, 6] [1, 3, 5, 7] (by kernel_rfl) (by kernel_rfl) (by intro d hd; simp at hd ⊢; omega) (fun j x => wA.grownBy x (some g) ∧ Rd g b (ST b s j) x) (fun x y => x.grownBy y (some g)) (fun k v _ => v = VT g b s k)
    (fun x y h => Below.grows h _) (fun j x y h hb => ⟨grown_trans h.1 (Below.grows hb _), h.2.below hb h.2.lt⟩) (fun k v x y h _ => h) ⟨⟨rfl, rfl, rfl, Nat.le_refl _, fun _ _ _ => rfl⟩, ⟨hRA.box⟩⟩ ?hstep ?hcall ?hend (fun o ho => by cases ho)
  case hstep =>
    intro k o hk hkc ho ρ j x hJ hA hd
    have hc := (hEA.grown hJ.1).cell
    match k, hk, hkc, ho with
    | 0, _, _, ho =>
      have hoo := Option.some.inj ho
      subst hoo
      exact ⟨numF g, x, run_load_cell _ rfl ⟨w.heap.size, 0, none⟩ _ x (hA.tmp 1 (by decide)) noAgg_num hc, rfl, Below.refl _ _⟩
    | 1, _, hkc, _ => exact absurd (by decide) hkc
    | 2, _, _, ho =>
      have hoo := Option.some.inj ho
      subst hoo
      exact ⟨numF g, x, run_load_cell _ rfl ⟨w.heap.size, 0, none⟩ _ x (hA.tmp 1 (by decide)) noAgg_num hc, rfl, Below.refl _ _⟩
    | 3, _, hkc, _ => exact absurd (by decide) hkc
    | 4, _, _, ho =>
      have hoo := Option.some.inj ho
      subst hoo
      exact ⟨numF g, x, run_load_cell _ rfl ⟨w.heap.size, 0, none⟩ _ x (hA.tmp 1 (by decide)) noAgg_num hc, rfl, Below.refl _ _⟩
    | 5, _, hkc, _ => exact absurd (by decide) hkc
    | 6, _, _, ho =>
      have hoo := Option.some.inj ho
      subst hoo
      exact ⟨numF g, x, run_load_cell _ rfl ⟨w.heap.size, 0, none⟩ _ x (hA.tmp 1 (by decide)) noAgg_num hc, rfl, Below.refl _ _⟩
    | 7, _, hkc, _ => exact absurd (by decide) hkc
    | 8, _, _, ho =>
      have hoo := Option.some.inj ho
      subst hoo
      have f1 : ρ (.tmp 9) = .int .i64 (numS b 1 s).1 := hd ⟨1, .data⟩ (by simp) (by rfl)
      exact ⟨.int .i64 (numS b 1 s).1, x, by simp [execOp, f1, go_sem], rfl, Below.refl _ _⟩
    | 9, _, _, ho =>
      have hoo := Option.some.inj ho
      subst hoo
      have f1 : ρ (.tmp 11) = .int .i64 (numS b 1 (T1 b s)).1 := hd ⟨3, .data⟩ (by simp) (by rfl)
      exact ⟨.int .i64 (numS b 1 (T1 b s)).1, x, by simp [execOp, f1, go_sem], rfl, Below.refl _ _⟩
    | 10, _, _, ho =>
      have hoo := Option.some.inj ho
      subst hoo
      have f1 : ρ (.tmp 13) = .int .i64 (numS b 1 (T2 b s)).1 := hd ⟨5, .data⟩ (by simp) (by rfl)
      exact ⟨.int .i64 (numS b 1 (T2 b s)).1, x, by simp [execOp, f1, go_sem], rfl, Below.refl _ _⟩
    | 11, _, _, ho =>
      have hoo := Option.some.inj ho
      subst hoo
      have f1 : ρ (.tmp 15) = .int .i64 (numS b 1 (T3 b s)).1 := hd ⟨7, .data⟩ (by simp) (by rfl)
      exact ⟨.int .i64 (numS b 1 (T3 b s)).1, x, by simp [execOp, f1, go_sem], rfl, Below.refl _ _⟩
  case hcall =>
    intro i o hi ho a x hJ hA hd K hK
    match i, hi, ho with
    | 0, _, ho =>
      have hoo := Option.some.inj ho
      subst hoo
      exact clo_num 8 _ 1 256 (.inl ⟨rfl, rfl⟩) hl rfl (hd ⟨0, .data⟩ (by simp) (by rfl)) (HS.out 0) hJ.2 (fun w' R G => hK _ w' rfl G ⟨grown_trans hJ.1 G, R⟩)
    | 1, _, ho =>
      have hoo := Option.some.inj ho
      subst hoo
      exact clo_num 10 _ 1 256 (.inl ⟨rfl, rfl⟩) hl rfl (hd ⟨2, .data⟩ (by simp) (by rfl)) (HS.out 1) hJ.2 (fun w' R G => hK _ w' rfl G ⟨grown_trans hJ.1 G, R⟩)
    | 2, _, ho =>
      have hoo := Option.some.inj ho
      subst hoo
      exact clo_num 12 _ 1 256 (.inl ⟨rfl, rfl⟩) hl rfl (hd ⟨4, .data⟩ (by simp) (by rfl)) (HS.out 2) hJ.2 (fun w' R G => hK _ w' rfl G ⟨grown_trans hJ.1 G, R⟩)
    | 3, _, ho =>
      have hoo := Option.some.inj ho
      subst hoo
      exact clo_num 14 _ 1 256 (.inl ⟨rfl, rfl⟩) hl rfl (hd ⟨6, .data⟩ (by simp) (by rfl)) (HS.out 3) hJ.2 (fun w' R G => hK _ w' rfl G ⟨grown_trans hJ.1 G, R⟩)
  case hend =>
    intro _ vals x hJ hF
    have f0 : vals 3 = .int .i64 (N1 b s) := by
      have h : vals 3 = .int .i64 (numS b 1 s).1 := hF 8 (by decide)
      rw [h, N1, nat_numS]
    have f1 : vals 4 = .int .i64 (N2 b s) := by
      have h : vals 4 = .int .i64 (numS b 1 (T1 b s)).1 := hF 9 (by decide)
      rw [h, N2, nat_numS]
    have f2 : vals 5 = .int .i64 (N3 b s) := by
      have h : vals 5 = .int .i64 (numS b 1 (T2 b s)).1 := hF 10 (by decide)
      rw [h, N3, nat_numS]
    have f3 : vals 6 = .int .i64 (N4 b s) := by
      have h : vals 6 = .int .i64 (numS b 1 (T3 b s)).1 := hF 11 (by decide)
      rw [h, N4, nat_numS]
    have hRx : Rd g b (SU b s 0) x := hJ.2
    have hgx := grown_trans hgA hJ.1
    have hEx := hEA.grown hJ.1
    have hqx : x.heap[w.heap.size + 1]? = some (.cells #[.int .i64 0, .int .i64 0, .slice none 0 0, .slice none 0 0, .slice none 0 0, .slice none 0 0] 27 (0, 0)) := by rw [hJ.1.block _ (by omega) (fun e => by have := Option.some.inj e; omega)]; exact hqA
    have hsx : w.heap.size + 2 ≤ x.heap.size := by have := hJ.1.size; omega
    simp only [fillA, fillL, List.contains_cons, List.contains_nil, Nat.reduceBEq, Bool.or_false, Bool.false_or, Bool.or_true, Bool.true_or, cond_true, cond_false, Nat.zero_add, Nat.reduceAdd]
    rw [f0, f1, f2, f3]
    clear f0 f1 f2 f3 hF hJ hEA hRA hqA hwA hgA hsA HS
    obtain ⟨y, hy⟩ : ∃ y, y = x.alloc (.cells #[placeF w.heap.size] 146) := ⟨_, rfl⟩
    have hby : Below x.heap.size x y := by rw [hy]; exact below_alloc _
    have hEy : Env2 g w.heap.size x.heap.size y := ⟨hEx.grown (Below.grows hby _), by rw [hy]; exact heap_alloc_new x _, by omega⟩
    have hRy : Rd g b (SU b s 0) y := hRx.below hby hRx.lt
    have hgy := grown_trans hgx (Below.grows hby _)
    have hqy : y.heap[w.heap.size + 1]? = some (.cells #[.int .i64 0, .int .i64 0, .slice none 0 0, .slice none 0 0, .slice none 0 0, .slice none 0 0] 27 (0, 0)) := by rw [hby.block _ (by omega)]; exact hqx
    have hsy : w.heap.size + 2 ≤ y.heap.size := by have := hby.size; omega
    have hst : (store ⟨x.heap.size, 0, none⟩ (placeF w.heap.size)).run Tryz.prog (x.alloc (.cells #[.nilFunc] 146)) = .ok () (x.alloc (.cells #[placeF w.heap.size] 146)) := by
      rw [run_store Tryz.prog _ _ _ _ (by rfl)]
      simp
      rw [World.setCell_alloc_new]
      rfl
    go_wp2_with fail
    rw [← hy]
    clear hEx hqx hgx hRx hby hy
    refine wp_region_chain 17 [17, 18, 19, 20, 21, 22, 23, 24, 25, 26, 27, 28, 29, 30, 31, 32, 33] [1, 3, 6, 9, 12, 15] (by kernel_rfl) (by kernel_rfl) (by intro d hd; simp at hd ⊢; omega) (fun j z => y.grownBy z (some g) ∧ Rd g b (SU b s j) z) (fun x y => x.grownBy y (some g)) (PhiT g w.heap.size x.heap.size y.heap.size b s)
      (fun x y h => Below.grows h _) (fun j x y h hb => ⟨grown_trans h.1 (Below.grows hb _), h.2.below hb h.2.lt⟩) (phiT_grown (by omega)) ⟨⟨rfl, rfl, rfl, Nat.le_refl _, fun _ _ _ => rfl⟩, ⟨hRy.box⟩⟩ ?hstep2 ?hcall2 (fun e => absurd e (by decide)) ?hlast2
    case hstep2 =>
      intro k o hk hkc ho ρ j z hJ hA hd
      have hc := (hEy.grown hJ.1).num.cell
      have h1 : ρ (.tmp 1) = .pointer (some ⟨w.heap.size, 0, none⟩) := hA.tmp 1 (by decide)
      have h7 : ρ (.tmp 7) = .pointer (some ⟨x.heap.size, 0, none⟩) := hA.tmp 7 (by decide)
      match k, hk, hkc, ho with
      | 0, _, _, ho =>
        have hoo := Option.some.inj ho
        subst hoo
        exact ⟨numF g, z, run_load_cell _ rfl ⟨w.heap.size, 0, none⟩ _ z h1 noAgg_num hc, rfl, Below.refl _ _⟩
      | 1, _, hkc, _ => exact absurd (by decide) hkc
      | 2, _, _, ho =>
        have hoo := Option.some.inj ho
        subst hoo
        exact ⟨numF g, z, run_load_cell _ rfl ⟨w.heap.size, 0, none⟩ _ z h1 noAgg_num hc, rfl, Below.refl _ _⟩
      | 3, _, hkc, _ => exact absurd (by decide) hkc
      | 4, _, _, ho =>
        have hoo := Option.some.inj ho
        subst hoo
        have f : ρ (.tmp 3) = .int .i64 (N1 b s) := hA.tmp 3 (by decide)
        exact ⟨.int .i64 (N1 b s), z, by simp [execOp, f, go_sem], rfl, Below.refl _ _⟩
      | 5, _, _, ho =>
        have hoo := Option.some.inj ho
        subst hoo
        exact ⟨cloF 98 w.heap.size, z, by simp [execOp, h1, go_sem], rfl, Below.refl _ _⟩
      | 6, _, hkc, _ => exact absurd (by decide) hkc
      | 7, _, _, ho =>
        have hoo := Option.some.inj ho
        subst hoo
        have f : ρ (.tmp 4) = .int .i64 (N2 b s) := hA.tmp 4 (by decide)
        exact ⟨.int .i64 (N2 b s), z, by simp [execOp, f, go_sem], rfl, Below.refl _ _⟩
      | 8, _, _, ho =>
        have hoo := Option.some.inj ho
        subst hoo
        exact ⟨cloF 100 w.heap.size, z, by simp [execOp, h1, go_sem], rfl, Below.refl _ _⟩
      | 9, _, hkc, _ => exact absurd (by decide) hkc
      | 10, _, _, ho =>
        have hoo := Option.some.inj ho
        subst hoo
        have f : ρ (.tmp 5) = .int .i64 (N3 b s) := hA.tmp 5 (by decide)
        exact ⟨.int .i64 (N3 b s), z, by simp [execOp, f, go_sem], rfl, Below.refl _ _⟩
      | 11, _, _, ho =>
        have hoo := Option.some.inj ho
        subst hoo
        exact ⟨cloF 102 w.heap.size, z, by simp [execOp, h1, go_sem], rfl, Below.refl _ _⟩
      | 12, _, hkc, _ => exact absurd (by decide) hkc
      | 13, _, _, ho =>
        have hoo := Option.some.inj ho
        subst hoo
        have f : ρ (.tmp 6) = .int .i64 (N4 b s) := hA.tmp 6 (by decide)
        exact ⟨.int .i64 (N4 b s), z, by simp [execOp, f, go_sem], rfl, Below.refl _ _⟩
      | 14, _, _, ho =>
        have hoo := Option.some.inj ho
        subst hoo
        exact ⟨barF w.heap.size x.heap.size, z, by simp [execOp, h1, h7, go_sem], rfl, Below.refl _ _⟩
      | 15, _, hkc, _ => exact absurd (by decide) hkc
      | 16, _, _, ho =>
        have hoo := Option.some.inj ho
        subst hoo
        have f1 : ρ (.tmp 18) = .int .i64 (numS b 4 (T4 b s)).1 := hd ⟨1, .data⟩ (by simp) (by rfl)
        have f3 : ρ (.tmp 20) = .int .i64 (numS b 4 (T5 b s)).1 := hd ⟨3, .data⟩ (by simp) (by rfl)
        obtain ⟨A1, c1, e1, q1⟩ : ∃ A c, ρ (.tmp 23) = .slice A (N1 b s) c ∧ OwnT 52 z y.heap.size (.slice A (N1 b s) c) (taskS b s).1.parts := hd ⟨6, .data⟩ (by simp) (by rfl)
        obtain ⟨A2, c2, e2, q2⟩ : ∃ A c, ρ (.tmp 26) = .slice A (N2 b s) c ∧ OwnE z y.heap.size (.slice A (N2 b s) c) (taskS b s).1.edges := hd ⟨9, .data⟩ (by simp) (by rfl)
        obtain ⟨A3, c3, e3, q3⟩ : ∃ A c, ρ (.tmp 29) = .slice A (N3 b s) c ∧ OwnT 58 z y.heap.size (.slice A (N3 b s) c) (taskS b s).1.futures := hd ⟨12, .data⟩ (by simp) (by rfl)
        obtain ⟨A4, c4, e4, q4⟩ : ∃ A c, ρ (.tmp 32) = .slice A (N4 b s) c ∧ OwnB z y.heap.size (.slice A (N4 b s) c) (taskS b s).1.bars := hd ⟨15, .data⟩ (by simp) (by rfl)
        have l1 : N1 b s = (taskS b s).1.parts.length := (rowS_length _ _ _).symm
        have l2 : N2 b s = (taskS b s).1.edges.length := (rowS_length _ _ _).symm
        have l3 : N3 b s = (taskS b s).1.futures.length := (rowS_length _ _ _).symm
        have l4 : N4 b s = (taskS b s).1.bars.length := (rowS_length _ _ _).symm
        refine ⟨.agg #[.int .i64 (numS b 4 (T4 b s)).1, .int .i64 (numS b 4 (T5 b s)).1, .slice A1 (N1 b s) c1, .slice A2 (N2 b s) c2, .slice A3 (N3 b s) c3, .slice A4 (N4 b s) c4], z, by simp [execOp, f1, f3, e1, e2, e3, e4, go_sem], ?_, Below.refl _ _⟩
        rw [l1] at q1 ⊢
        rw [l2] at q2 ⊢
        rw [l3] at q3 ⊢
        rw [l4] at q4 ⊢
        exact ⟨A1, c1, A2, c2, A3, c3, A4, c4, rfl, q1, q2, q3, q4⟩
      | k + 17, hk, _, _ => exact absurd hk (by omega)
    case hcall2 =>
      intro i o hi ho a z hJ hA hd K hK
      match i, hi, ho with
      | 0, _, ho =>
        have hoo := Option.some.inj ho
        subst hoo
        exact clo_num 17 _ 4 4294967296 (.inr (.inr ⟨rfl, rfl⟩)) hl rfl (hd ⟨0, .data⟩ (by simp) (by rfl)) (HSU.out 0) hJ.2 (fun w' R G => hK _ w' rfl G ⟨grown_trans hJ.1 G, R⟩)
      | 1, _, ho =>
        have hoo := Option.some.inj ho
        subst hoo
        exact clo_num 19 _ 4 4294967296 (.inr (.inr ⟨rfl, rfl⟩)) hl rfl (hd ⟨2, .data⟩ (by simp) (by rfl)) (HSU.out 1) hJ.2 (fun w' R G => hK _ w' rfl G ⟨grown_trans hJ.1 G, R⟩)
      | 2, _, ho =>
        have hoo := Option.some.inj ho
        subst hoo
        have f0 : a.eval (.tmp 21) = .int .i64 (N1 b s) := hd ⟨4, .data⟩ (by simp) (by rfl)
        have f1 : a.eval (.tmp 22) = cloF 98 w.heap.size := hd ⟨5, .data⟩ (by simp) (by rfl)
        refine cx_fun rfl 97 _ _ #[.int .i64 (N1 b s), cloF 98 w.heap.size] rfl (by rw [← f0, ← f1]; simp only [List.map_toArray, List.map_cons, List.map_nil]) eg_row_part ?_
        refine (row_part g b 98 #[.pointer (some ⟨w.heap.size, 0, none⟩)] eg_clo_part (partS b) (N1 b s) (by have := lt_numS b s; unfold N1; omega) (partS_le b) (SU b s 2) z (HSU.out 2) hJ.2 (fun s' W hs' hg' hR' => part_any g w.heap.size b s' W hl hs' ((hEy.grown hJ.1).num.grown hg') hR')).mono ?_
        rintro e z' ⟨A, c, rfl, hO, hR', hg'⟩
        exact ⟨_, rfl, hK _ z' ⟨A, c, rfl, hO.less hJ.1.size⟩ hg' ⟨grown_trans hJ.1 hg', hR'⟩⟩
      | 3, _, ho =>
        have hoo := Option.some.inj ho
        subst hoo
        have f0 : a.eval (.tmp 24) = .int .i64 (N2 b s) := hd ⟨7, .data⟩ (by simp) (by rfl)
        have f1 : a.eval (.tmp 25) = cloF 100 w.heap.size := hd ⟨8, .data⟩ (by simp) (by rfl)
        refine cx_fun rfl 99 _ _ #[.int .i64 (N2 b s), cloF 100 w.heap.size] rfl (by rw [← f0, ← f1]; simp only [List.map_toArray, List.map_cons, List.map_nil]) eg_row_edge ?_
        refine (row_edge g b 100 #[.pointer (some ⟨w.heap.size, 0, none⟩)] eg_clo_edge (edgeS b) (N2 b s) (by have := lt_numS b (T1 b s); unfold N2; omega) (edgeS_le b) (SU b s 3) z (HSU.out 3) hJ.2 (fun s' W hs' hg' hR' => edge_any g w.heap.size b s' W hl hs' ((hEy.grown hJ.1).num.grown hg') hR')).mono ?_
        rintro e z' ⟨A, c, rfl, hO, hR', hg'⟩
        exact ⟨_, rfl, hK _ z' ⟨A, c, rfl, hO.less hJ.1.size⟩ hg' ⟨grown_trans hJ.1 hg', hR'⟩⟩
      | 4, _, ho =>
        have hoo := Option.some.inj ho
        subst hoo
        have f0 : a.eval (.tmp 27) = .int .i64 (N3 b s) := hd ⟨10, .data⟩ (by simp) (by rfl)
        have f1 : a.eval (.tmp 28) = cloF 102 w.heap.size := hd ⟨11, .data⟩ (by simp) (by rfl)
        refine cx_fun rfl 101 _ _ #[.int .i64 (N3 b s), cloF 102 w.heap.size] rfl (by rw [← f0, ← f1]; simp only [List.map_toArray, List.map_cons, List.map_nil]) eg_row_fut ?_
        refine (row_fut g b 102 #[.pointer (some ⟨w.heap.size, 0, none⟩)] eg_clo_fut (futS b) (N3 b s) (by have := lt_numS b (T2 b s); unfold N3; omega) (futS_le b) (SU b s 4) z (HSU.out 4) hJ.2 (fun s' W hs' hg' hR' => fut_any g w.heap.size b s' W hl hs' ((hEy.grown hJ.1).num.grown hg') hR')).mono ?_
        rintro e z' ⟨A, c, rfl, hO, hR', hg'⟩
        exact ⟨_, rfl, hK _ z' ⟨A, c, rfl, hO.less hJ.1.size⟩ hg' ⟨grown_trans hJ.1 hg', hR'⟩⟩
      | 5, _, ho =>
        have hoo := Option.some.inj ho
        subst hoo
        have f0 : a.eval (.tmp 30) = .int .i64 (N4 b s) := hd ⟨13, .data⟩ (by simp) (by rfl)
        have f1 : a.eval (.tmp 31) = barF w.heap.size x.heap.size := hd ⟨14, .data⟩ (by simp) (by rfl)
        refine cx_fun rfl 103 _ _ #[.int .i64 (N4 b s), barF w.heap.size x.heap.size] rfl (by rw [← f0, ← f1]; simp only [List.map_toArray, List.map_cons, List.map_nil]) eg_row_bar ?_
        refine (row_bar g b 104 #[.pointer (some ⟨w.heap.size, 0, none⟩), .pointer (some ⟨x.heap.size, 0, none⟩)] eg_clo_bar (barS b) (N4 b s) (by have := lt_numS b (T3 b s); unfold N4; omega) (barS_le b) (SU b s 5) z (HSU.out 5) hJ.2 (fun s' W hs' hg' hR' => (bar_any g w.heap.size x.heap.size b s' W hl hs' ((hEy.grown hJ.1).grown hg') hR').mono (by
          rintro e w' ⟨v1, v2, he, q1, q2, q3, q4⟩
          exact ⟨v1, v2, he, q1.less hg'.size, q2.less hg'.size, q3, q4⟩))).mono ?_
        rintro e z' ⟨A, c, rfl, hO, hR', hg'⟩
        exact ⟨_, rfl, hK _ z' ⟨A, c, rfl, hO.less hJ.1.size⟩ hg' ⟨grown_trans hJ.1 hg', hR'⟩⟩
    case hlast2 =>
      intro o ho vals2 z hJ hF
      have hoo := Option.some.inj ho
      subst hoo
      obtain ⟨A1, c1, A2, c2, A3, c3, A4, c4, fv, q1, q2, q3, q4⟩ : OwnD y.heap.size (taskS b s).1 (vals2 33) z := hF 16 (by decide)
      have hqz : z.heap[w.heap.size + 1]? = some (.cells #[.int .i64 0, .int .i64 0, .slice none 0 0, .slice none 0 0, .slice none 0 0, .slice none 0 0] 27 (0, 0)) := by rw [hJ.1.block _ (by omega) (fun e => by have := Option.some.inj e; omega)]; exact hqy
      simp only [fillA, fillL, List.contains_cons, List.contains_nil, Nat.reduceBEq, Bool.or_false, Bool.false_or, Bool.or_true, Bool.true_or, cond_true, cond_false, Nat.zero_add, Nat.reduceAdd]
      refine ox_skip rfl rfl (run_store_box (.tmp 2) (.tmp 33) rfl (w.heap.size + 1) _ #[.int .i64 (taskS b s).1.period, .int .i64 (taskS b s).1.deadline, .slice A1 (taskS b s).1.parts.length c1, .slice A2 (taskS b s).1.edges.length c2, .slice A3 (taskS b s).1.futures.length c3, .slice A4 (taskS b s).1.bars.length c4] _ z rfl fv hz hqz rfl (by simp [Value.oneCell'])) ?_
      have hq2 := setRow_at (cs := #[.int .i64 (taskS b s).1.period, .int .i64 (taskS b s).1.deadline, .slice A1 (taskS b s).1.parts.length c1, .slice A2 (taskS b s).1.edges.length c2, .slice A3 (taskS b s).1.futures.length c3, .slice A4 (taskS b s).1.bars.length c4]) hqz
      have hb2 := setRow_below (w := z) (q := w.heap.size + 1) #[.int .i64 (taskS b s).1.period, .int .i64 (taskS b s).1.deadline, .slice A1 (taskS b s).1.parts.length c1, .slice A2 (taskS b s).1.edges.length c2, .slice A3 (taskS b s).1.futures.length c3, .slice A4 (taskS b s).1.bars.length c4] (Nat.le_succ w.heap.size)
      have hfar : ∀ k, k ≠ w.heap.size + 1 → (z.setRow (w.heap.size + 1) #[.int .i64 (taskS b s).1.period, .int .i64 (taskS b s).1.deadline, .slice A1 (taskS b s).1.parts.length c1, .slice A2 (taskS b s).1.edges.length c2, .slice A3 (taskS b s).1.futures.length c3, .slice A4 (taskS b s).1.bars.length c4]).heap[k]? = z.heap[k]? := fun k hk => setRow_far _ _ _ hk
      obtain ⟨w2, hw2⟩ : ∃ w2, w2 = z.setRow (w.heap.size + 1) #[.int .i64 (taskS b s).1.period, .int .i64 (taskS b s).1.deadline, .slice A1 (taskS b s).1.parts.length c1, .slice A2 (taskS b s).1.edges.length c2, .slice A3 (taskS b s).1.futures.length c3, .slice A4 (taskS b s).1.bars.length c4] := ⟨_, rfl⟩
      rw [← hw2] at hq2 hb2 hfar ⊢
      clear hw2
      have HR2 : Hid (Rd g b (taskS b s).2 w2) := Lib.hid (hJ.2.below hb2 hgl)
      have HG2 := Lib.hid (grown_below (grown_trans hgy hJ.1) hb2)
      have HO1 := Lib.hid (OwnT.less (base' := w.heap.size) (other_own q1 hqz (by decide) hfar) (by omega))
      have HO2 := Lib.hid (OwnE.less (base' := w.heap.size) (other_own q2 hqz (by decide) hfar) (by omega))
      have HO3 := Lib.hid (OwnT.less (base' := w.heap.size) (other_own q3 hqz (by decide) hfar) (by omega))
      have HO4 := Lib.hid (OwnB.less (base' := w.heap.size) (q4.other hqz (by decide) (by decide) hfar) (by omega))
      have k0 := cell_of_row w2 (w.heap.size + 1) 0 _ _ _ hq2
      have k1 := cell_of_row w2 (w.heap.size + 1) 1 _ _ _ hq2
      have k2 := cell_of_row w2 (w.heap.size + 1) 2 _ _ _ hq2
      have k3 := cell_of_row w2 (w.heap.size + 1) 3 _ _ _ hq2
      have k4 := cell_of_row w2 (w.heap.size + 1) 4 _ _ _ hq2
      have k5 := cell_of_row w2 (w.heap.size + 1) 5 _ _ _ hq2
      simp at k0 k1 k2 k3 k4 k5
      clear hq2 hb2 hJ hF hqz hz q1 q2 q3 q4 hfar hqy
      go_wp2
      refine bodyPost_ret (v := .agg #[.int .i64 (taskS b s).1.period, .int .i64 (taskS b s).1.deadline, .slice A1 (taskS b s).1.parts.length c1, .slice A2 (taskS b s).1.edges.length c2, .slice A3 (taskS b s).1.futures.length c3, .slice A4 (taskS b s).1.bars.length c4]) ?_ rfl ⟨_, rfl, ⟨_, _, _, _, _, _, _, _, rfl, HO1.out, HO2.out, HO3.out, HO4.out⟩, HR2.out, HG2.out⟩
      simp [results, Tryz.results61, go_sem, k0, k1, k2, k3, k4, k5]
end Go.Proofs.YtlimcimioeepaaaGreatDoor
