/- What layer 12 tells (plain), in the seat YtcjmljpfhabmnaaDoor: which deques may be, which takers are at an end, a step, all steps; the loop that goes as long as it may.
   Words for memory in the seat YtcjmljpfhabmnaaDoor: a block of cells that are all known, one of them written.
   Words for memory in the seat YtcjmljpfhabmnaaDoor: a list of integers of the call's own, that grows one by one.
   Words for memory in the seat YtcjmljpfhabmnaaDoor: a slice of edges that came in.
   Words for memory in the seat YtcjmljpfhabmnaaDoor: a list of edges of the call's own; 'append([]T{}, l...)' leaves all that was there.
   Words for memory in the seat YtcjmljpfhabmnaaDoor: deques; blocks that a call makes one behind the other.
   No statement is proved here. -/
import Derived.Test.YtcjmljpfhabmnaaDoorZDequeMath
import Derived.Test.YtcjmljpfhabmnaaDoorChecked
import Derived.WalkKit
import Derived.WalkSmall
import Derived.Below
import Derived.Laws.Rows
import Derived.Laws.OwnMore
import Derived.Laws.MakeOwn
import Derived.Test.YtcjmljpfhabmnaaDoorZM1
import Derived.Handy
import Derived.KernelRfl
import Derived.BigQuiet
import Derived.Deep.QuietTactic
import Derived.Lib.Hide
import Derived.ArgAppend
import Derived.OwnWalk
import Derived.Laws.ResultCell
set_option linter.unusedSimpArgs false
set_option linter.unusedVariables false
namespace Go.Proofs.YtcjmljpfhabmnaaDoor

def SizeOk (n : Int) : Prop := n = 1 ∨ n = 2 ∨ n = 4 ∨ n = 8 ∨ n = 16 ∨ n = 32 ∨ n = 64
instance (n : Int) : Decidable (SizeOk n) := by unfold SizeOk; infer_instance
theorem SizeOk.of_pow {k : Nat} (h : k < 7) : SizeOk ((2 ^ k : Nat) : Int) := by
  obtain rfl | rfl | rfl | rfl | rfl | rfl | rfl : k = 0 ∨ k = 1 ∨ k = 2 ∨ k = 3 ∨ k = 4 ∨ k = 5 ∨ k = 6 := by omega
  all_goals (unfold SizeOk; decide)
theorem SizeOk.pow {n : Int} (h : SizeOk n) : ∃ k : Nat, k < 7 ∧ n = ((2 ^ k : Nat) : Int) := by
  rcases h with rfl | rfl | rfl | rfl | rfl | rfl | rfl
  · exact ⟨0, by omega, rfl⟩
  · exact ⟨1, by omega, rfl⟩
  · exact ⟨2, by omega, rfl⟩
  · exact ⟨3, by omega, rfl⟩
  · exact ⟨4, by omega, rfl⟩
  · exact ⟨5, by omega, rfl⟩
  · exact ⟨6, by omega, rfl⟩
theorem SizeOk.bounds {n : Int} (h : SizeOk n) : 1 ≤ n ∧ n ≤ 64 := by unfold SizeOk at h; omega
def ChkQ (n T B : Int) : Prop := SizeOk n ∧ 0 ≤ T ∧ T ≤ 1099511627775 ∧ T - 1 ≤ B ∧ B ≤ T + n
instance (n T B : Int) : Decidable (ChkQ n T B) := by unfold ChkQ; infer_instance
def chkQE (n T B : Int) : Int := if ChkQ n T B then 0 else 120
def WildT (t : Tkr) : Prop := t.top < -1 ∨ 1099511627775 < t.top ∨ t.bot < -1 ∨ 1099511627775 < t.bot
def OverT (t : Tkr) : Prop := t.end_ ≠ 0 ∨ t.at_ < 0 ∨ (if t.steal = true then 3 else 4) < t.at_ ∨ (t.at_ ≠ 0 ∧ WildT t)
instance (t : Tkr) : Decidable (WildT t) := by unfold WildT; infer_instance
instance (t : Tkr) : Decidable (OverT t) := by unfold OverT; infer_instance
/-- A step: the error, the top, the bottom, the taker. -/
def stepQ (R : List Int) (T B : Int) (t : Tkr) : Int × Int × Int × Tkr :=
  if ¬ ChkQ R.length T B then (120, 0, 0, newTk false)
  else if OverT t then (122, 0, 0, newTk false)
  else if ¬ ChkQ R.length (moveD R T B t).1 (moveD R T B t).2.1 then (120, 0, 0, newTk false)
  else (0, moveD R T B t)
/-- All steps, as the document counts them. -/
def takeN (R : List Int) : Nat → Int → Int → Tkr → Int × Int × Int × Tkr
  | 0, T, B, t => (0, T, B, t)
  | f + 1, T, B, t => if t.end_ ≠ 0 then (0, T, B, t) else
    if (stepQ R T B t).1 ≠ 0 then ((stepQ R T B t).1, 0, 0, newTk false) else takeN R f (stepQ R T B t).2.1 (stepQ R T B t).2.2.1 (stepQ R T B t).2.2.2
def takeQ (R : List Int) (T B : Int) (st : Bool) : Int × Int × Int × Tkr := takeN R 6 T B (newTk st)
/-- May it go on? -/
def StopT (one b : Bool) (t : Tkr) : Prop := b = true ∧ (one = true ∨ t.end_ ≠ 0)
instance (one b : Bool) (t : Tkr) : Decidable (StopT one b t) := by unfold StopT; infer_instance
/-- The loop that goes as long as it may. -/
def goD (R : List Int) (one : Bool) : Nat → Bool → Int → Int → Tkr → Int × Int × Int × Tkr
  | 0, _, T, B, t => (0, T, B, t)
  | f + 1, b, T, B, t => if ¬ ChkQ R.length T B then (120, 0, 0, newTk false) else
    if StopT one b t then (0, T, B, t) else if OverT t then (122, 0, 0, newTk false) else
    goD R one f true (moveD R T B t).1 (moveD R T B t).2.1 (moveD R T B t).2.2
def muT (t : Tkr) : Nat := if t.end_ ≠ 0 then 0 else (5 - t.at_).toNat + 1
def Enough (one b : Bool) (t : Tkr) (f : Nat) : Prop := 1 ≤ f ∧ ((one = true ∧ (b = false → 2 ≤ f)) ∨ (one = false ∧ muT t + 1 ≤ f))
theorem mu_move {R : List Int} {T B : Int} {t : Tkr} (h : ¬ OverT t) : muT (moveD R T B t).2.2 + 1 ≤ muT t := by
  obtain ⟨st, a, top, bot, gt, en⟩ := t
  unfold OverT at h
  simp only [not_or] at h
  obtain ⟨h1, h2, h3, h4⟩ := h
  have he : en = 0 := Classical.byContradiction h1
  subst he
  have hm : muT ⟨st, a, top, bot, gt, 0⟩ = (5 - a).toNat + 1 := rfl
  rw [hm]
  unfold moveD
  cases st
  · simp only [Bool.false_eq_true, if_false] at h3 ⊢
    unfold ownerD
    simp only
    by_cases a0 : a = 0
    · rw [if_pos a0]; show (5 - 1 : Int).toNat + 1 + 1 ≤ _; omega
    rw [if_neg a0]
    by_cases a1 : a = 1
    · rw [if_pos a1]
      split
      · show 0 + 1 ≤ _; omega
      · split
        · show (5 - 2 : Int).toNat + 1 + 1 ≤ _; omega
        · show (5 - 3 : Int).toNat + 1 + 1 ≤ _; omega
    rw [if_neg a1]
    by_cases a2 : a = 2
    · rw [if_pos a2]
      split
      · show (5 - 4 : Int).toNat + 1 + 1 ≤ _; omega
      · show (5 - 3 : Int).toNat + 1 + 1 ≤ _; omega
    rw [if_neg a2]
    by_cases a3 : a = 3
    · rw [if_pos a3]; show 0 + 1 ≤ _; omega
    · rw [if_neg a3]; show 0 + 1 ≤ _; omega
  · simp only [if_true] at h3 ⊢
    unfold thiefD
    simp only
    by_cases a0 : a = 0
    · rw [if_pos a0]; show (5 - 1 : Int).toNat + 1 + 1 ≤ _; omega
    rw [if_neg a0]
    by_cases a1 : a = 1
    · rw [if_pos a1]
      split
      · show 0 + 1 ≤ _; omega
      · show (5 - 2 : Int).toNat + 1 + 1 ≤ _; omega
    rw [if_neg a1]
    by_cases a2 : a = 2
    · rw [if_pos a2]; show (5 - 3 : Int).toNat + 1 + 1 ≤ _; omega
    rw [if_neg a2]
    split
    · show 0 + 1 ≤ _; omega
    · show 0 + 1 ≤ _; omega
theorem Enough.next {R : List Int} {T B : Int} {one b : Bool} {t : Tkr} {f : Nat} (h : Enough one b t (f + 1)) (h1 : ¬ StopT one b t) (h2 : ¬ OverT t) : Enough one true (moveD R T B t).2.2 f := by
  obtain ⟨h3, h4⟩ := h
  rcases h4 with ⟨rfl, h5⟩ | ⟨rfl, h5⟩
  · have hb : b = false := by
      cases b
      · rfl
      · exact absurd ⟨rfl, .inl rfl⟩ h1
    have := h5 hb
    exact ⟨by omega, .inl ⟨rfl, fun q => by cases q⟩⟩
  · have := mu_move (R := R) (T := T) (B := B) h2
    exact ⟨by omega, .inr ⟨rfl, by omega⟩⟩
theorem go_step (R : List Int) (T B : Int) (t : Tkr) : goD R true 2 false T B t = stepQ R T B t := by
  unfold goD stepQ
  by_cases h1 : ChkQ R.length T B
  · have e1 : ¬ ¬ ChkQ R.length T B := fun q => q h1
    have e0 : ¬ StopT true false t := fun q => by cases q.1
    rw [if_neg e1, if_neg e0, if_neg e1]
    by_cases h2 : OverT t
    · rw [if_pos h2, if_pos h2]
    · rw [if_neg h2, if_neg h2]
      unfold goD
      by_cases h3 : ChkQ R.length (moveD R T B t).1 (moveD R T B t).2.1
      · have e3 : ¬ ¬ ChkQ R.length (moveD R T B t).1 (moveD R T B t).2.1 := fun q => q h3
        have e4 : StopT true true (moveD R T B t).2.2 := ⟨rfl, .inl rfl⟩
        rw [if_neg e3, if_neg e3, if_pos e4]
      · rw [if_pos h3, if_pos h3]
  · rw [if_pos h1, if_pos h1]
theorem go_takeN (R : List Int) : ∀ (f : Nat) (T B : Int) (t : Tkr), muT t ≤ f → ChkQ R.length T B → goD R false (f + 1) true T B t = takeN R f T B t := by
  intro f
  induction f with
  | zero =>
    intro T B t hm hc
    have he : t.end_ ≠ 0 := fun q => by unfold muT at hm; rw [if_neg (fun h => h q)] at hm; omega
    unfold goD takeN
    have e1 : ¬ ¬ ChkQ R.length T B := fun q => q hc
    have e2 : StopT false true t := ⟨rfl, .inr he⟩
    rw [if_neg e1, if_pos e2]
  | succ f ih =>
    intro T B t hm hc
    unfold goD takeN
    have e1 : ¬ ¬ ChkQ R.length T B := fun q => q hc
    rw [if_neg e1]
    by_cases he : t.end_ ≠ 0
    · have e2 : StopT false true t := ⟨rfl, .inr he⟩
      rw [if_pos e2, if_pos he]
    have e3 : ¬ StopT false true t := fun q => by
      rcases q.2 with q | q
      · cases q
      · exact he q
    rw [if_neg e3, if_neg he]
    by_cases h2 : OverT t
    · have hs : stepQ R T B t = (122, 0, 0, newTk false) := by unfold stepQ; rw [if_neg (show ¬ ¬ ChkQ R.length T B from fun q => q hc), if_pos h2]
      rw [if_pos h2, hs, if_pos (by decide)]
    rw [if_neg h2]
    by_cases h3 : ChkQ R.length (moveD R T B t).1 (moveD R T B t).2.1
    · have hs : stepQ R T B t = (0, moveD R T B t) := by unfold stepQ; rw [if_neg (show ¬ ¬ ChkQ R.length T B from fun q => q hc), if_neg h2, if_neg (show ¬ ¬ ChkQ R.length (moveD R T B t).1 (moveD R T B t).2.1 from fun q => q h3)]
      rw [hs, if_neg (fun q => q rfl)]
      have := mu_move (R := R) (T := T) (B := B) h2
      exact ih _ _ _ (by omega) h3
    · have hs : stepQ R T B t = (120, 0, 0, newTk false) := by unfold stepQ; rw [if_neg (show ¬ ¬ ChkQ R.length T B from fun q => q hc), if_neg h2, if_pos h3]
      rw [hs, if_pos (by decide)]
      unfold goD
      rw [if_pos h3]
theorem not_over_new (st : Bool) : ¬ OverT (newTk st) := by
  unfold OverT newTk
  cases st <;> simp
theorem go_take (R : List Int) (T B : Int) (st : Bool) : goD R false 7 false T B (newTk st) = takeQ R T B st := by
  have e0 : ¬ StopT false false (newTk st) := fun q => by cases q.1
  have e1 : ¬ (newTk st).end_ ≠ 0 := fun q => q rfl
  unfold goD takeQ takeN
  rw [if_neg e0, if_neg (not_over_new st), if_neg e1]
  by_cases hc : ChkQ R.length T B
  · have e2 : ¬ ¬ ChkQ R.length T B := fun q => q hc
    rw [if_neg e2]
    by_cases h3 : ChkQ R.length (moveD R T B (newTk st)).1 (moveD R T B (newTk st)).2.1
    · have hs : stepQ R T B (newTk st) = (0, moveD R T B (newTk st)) := by unfold stepQ; rw [if_neg e2, if_neg (not_over_new st), if_neg (show ¬ ¬ ChkQ R.length (moveD R T B (newTk st)).1 (moveD R T B (newTk st)).2.1 from fun q => q h3)]
      rw [hs, if_neg (fun q => q rfl)]
      have h5 := mu_move (R := R) (T := T) (B := B) (not_over_new st)
      have h6 : muT (newTk st) = 6 := rfl
      exact go_takeN R 5 _ _ _ (by omega) h3
    · have hs : stepQ R T B (newTk st) = (120, 0, 0, newTk false) := by unfold stepQ; rw [if_neg e2, if_neg (not_over_new st), if_pos h3]
      rw [hs, if_pos (by decide)]
      unfold goD
      rw [if_pos h3]
  · have hs : stepQ R T B (newTk st) = (120, 0, 0, newTk false) := by unfold stepQ; rw [if_pos hc]
    rw [if_pos hc, hs, if_pos (by decide)]
theorem move_steal (R : List Int) (T B : Int) (t : Tkr) : (moveD R T B t).2.2.steal = t.steal := by
  obtain ⟨st, a, top, bot, gt, en⟩ := t
  unfold moveD ownerD thiefD
  cases st <;> (simp only; repeat' split) <;> rfl
/-- What is pushed. -/
def pushE (n T B : Int) : Int := if ¬ ChkQ n T B then 120 else if B < T ∨ B = T + n then 121 else 0
end Go.Proofs.YtcjmljpfhabmnaaDoor
set_option linter.unusedVariables false
namespace Go.Proofs.YtcjmljpfhabmnaaDoor
open Go.RowKit

def RowV (g : Nat) (t : TypeId) (vs : List Value) (w : World) : Prop := w.heap[g]? = some (.cells vs.toArray t (0, 0))
theorem RowV.lt {g : Nat} {t : TypeId} {vs : List Value} {w : World} (h : RowV g t vs w) : g < w.heap.size := (Array.getElem?_eq_some_iff.1 h).1
theorem RowV.new (w : World) (t : TypeId) (vs : List Value) : RowV w.heap.size t vs (w.alloc (.cells vs.toArray t)) := heap_alloc_new w _
theorem RowV.cell {g : Nat} {t : TypeId} {vs : List Value} {w : World} (h : RowV g t vs w) {j : Nat} {v : Value} (hj : vs[j]? = some v) : w.cell? ⟨g, j, none⟩ = some v := by
  rw [cell_of_row _ _ _ _ _ _ h]
  simpa using hj
theorem RowV.frozen {g : Nat} {t : TypeId} {vs : List Value} {w : World} (h : RowV g t vs w) (j : Nat) : w.frozen? ⟨g, j, none⟩ = false := frozen_of_row _ _ _ _ _ h
theorem RowV.set {g : Nat} {t : TypeId} {vs : List Value} {w : World} (h : RowV g t vs w) (j : Nat) (v : Value) : RowV g t (vs.set j v) (w.setCell ⟨g, j, none⟩ v) := by
  have := heap_setCell_same w g j _ t v h
  unfold RowV
  rw [this]
  simp
theorem RowV.below {g : Nat} {t : TypeId} {vs : List Value} {w w' : World} {B : Nat} (h : RowV g t vs w) (hb : Below B w w') (hB : g < B) : RowV g t vs w' := by
  unfold RowV
  rw [hb.block g hB]
  exact h
theorem RowV.alloc {g : Nat} {t : TypeId} {vs : List Value} {w : World} (h : RowV g t vs w) (o : Obj) : RowV g t vs (w.alloc o) := by
  unfold RowV
  rw [Below.heap_alloc w o g h.lt]
  exact h
theorem bool_cell_info : (Tryd.prog.info? 4).map (fun i => (i.zero, i.size, i.bytes)) = some (some (.bool false), 1, 1) := by kernel_rfl
end Go.Proofs.YtcjmljpfhabmnaaDoor
set_option linter.unusedVariables false
namespace Go.Proofs.YtcjmljpfhabmnaaDoor
open Go.RowKit

/-- A list of integers in a block of the call's own (from base on). -/
def OwnI (w : World) (base : Nat) (v : Value) (zs : List Int) : Prop := w.ownsRow base 3 1 v zs.length (zs.map (Value.int .i64))
theorem OwnI.new (w : World) (base : Nat) (hb : base ≤ w.heap.size) : OwnI (w.alloc (.cells #[] 3)) base (.slice (some ⟨w.heap.size, 0, none⟩) 0 0) [] :=
  ⟨rfl, .inr ⟨w.heap.size, 0, #[], rfl, hb, heap_alloc_new w _, Nat.le_refl _, by simp [maxLen], rfl, rfl⟩⟩
theorem OwnI.below {w w' : World} {base : Nat} {v : Value} {zs : List Int} (h : OwnI w base v zs) (hb : Below w.heap.size w w') : OwnI w' base v zs := by
  refine ⟨h.1, ?_⟩
  rcases h.2 with hn | ⟨g, cap, cur, rfl, hg, hgg, rest⟩
  · exact .inl hn
  · exact .inr ⟨g, cap, cur, rfl, hg, by rw [hb.block g (Array.getElem?_eq_some_iff.1 hgg).1]; exact hgg, rest⟩
theorem OwnI.alloc {w : World} {base : Nat} {v : Value} {zs : List Int} (h : OwnI w base v zs) (o : Obj) : OwnI (w.alloc o) base v zs := h.below (below_alloc o)
theorem OwnI.slice {w : World} {base : Nat} {v : Value} {zs : List Int} (h : OwnI w base v zs) : ∃ A c, v = .slice A zs.length c ∧ Ints w w.heap.size A zs := Ints.of_own h
theorem int_cell_info : (Tryd.prog.info? 3).map (fun i => (i.zero, i.size, i.bytes)) = some (some (.int .i64 0), 1, 8) := by kernel_rfl
/-- 'append(l, n)': the integer lies in a block of its own, laid just ahead. -/
theorem wpList_push {ops : Array Oper} {rest : List Oper} {o : Oper} {a : Act} {Q : Exit → Act → World → Prop} (hgd : o.guard = none) (s x : Operand)
    (ho : o.op = .call { callee := .builtin .append, args := #[s, x], argTypes := #[25, 25] })
    (w1 : World) (base : Nat) (v : Value) (zs : List Int) (n : Int) (len : Nat) (hlen : zs.length = len) (hl : len ≤ 1000) (hO : OwnI w1 base v zs) (hB : base ≤ w1.heap.size)
    (hs : a.eval s = v) (hx : a.eval x = .slice (some ⟨w1.heap.size, 0, none⟩) 1 1)
    (h : ∀ A' c' w', OwnI w' base (.slice A' (len + 1) c') (zs ++ [n]) → Below base w1 w' → wpList Tryd.prog ops Q rest (a.put o.dst (.slice A' (len + 1) c')) w') : wpList Tryd.prog ops Q (o :: rest) a (w1.alloc (.cells #[.int .i64 n] 3)) := by
  obtain ⟨i0, hi0, hz0, hz1, hz2⟩ : ∃ i, Tryd.prog.info? 3 = some i ∧ i.zero = some (.int .i64 0) ∧ i.size = 1 ∧ i.bytes = 8 := by
    have h := int_cell_info
    cases hi : Tryd.prog.info? 3 with
    | none => rw [hi] at h; cases h
    | some i =>
      rw [hi] at h
      simp at h
      exact ⟨i, rfl, h.1, h.2.1, h.2.2⟩
  subst hlen
  refine wpList_append_own _ hgd s x 25 ho base 3 i0 (.int .i64 0) 1 8 Tryd.underlying25 hi0 hz0 hz1 hz2 rfl (by omega) v zs.length (zs.map (Value.int .i64)) hs (hO.alloc _) ⟨w1.heap.size, 0, none⟩ 1 1 [.int .i64 n] hx rfl ?_ ?_
    (by unfold maxLen; omega) (by omega) (by simp; omega) ?_
  · intro j u hu
    match j with
    | 0 =>
      obtain rfl : Value.int .i64 n = u := by simpa using hu
      rw [addr_add, World.cell?_alloc_at _ _ _ _ rfl]
      rfl
    | j + 1 => simp at hu
  · intro u hu
    obtain rfl : u = .int .i64 n := by simpa using hu
    rfl
  · intro v' w' hown' hg _
    have hO' : OwnI w' base v' (zs ++ [n]) := by
      unfold OwnI
      rw [List.length_append, List.length_singleton, List.map_append]
      exact hown'
    obtain ⟨A', c', rfl, _⟩ := hO'.slice
    rw [show (zs ++ [n]).length = zs.length + 1 by simp] at hO' ⊢
    refine h A' c' w' hO' (((Below.refl base w1).alloc hB _).grown hg (by simp; omega) (fun k hk => ?_))
    exact (hO.lt k hk).1
end Go.Proofs.YtcjmljpfhabmnaaDoor
set_option linter.unusedVariables false
namespace Go.Proofs.YtcjmljpfhabmnaaDoor
open Go.RowKit

/-- A slice of edges (its address A, its length that of es) reads as these edges, below block B. -/
def Pairs (w : World) (B : Nat) (A : Option Addr) (es : List (Int × Int)) : Prop :=
  0 < es.length → ∃ b off, A = some ⟨b, off, none⟩ ∧ b < B ∧ ∀ k e, es[k]? = some e → w.cell? ⟨b, off + k * 2, none⟩ = some (.int .i64 e.1) ∧ w.cell? ⟨b, off + k * 2 + 1, none⟩ = some (.int .i64 e.2)
theorem Pairs.at_ {w : World} {B : Nat} {A : Option Addr} {es : List (Int × Int)} {k : Nat} (h : Pairs w B A es) (hk : k < es.length) :
    ∃ b off e, A = some ⟨b, off, none⟩ ∧ b < B ∧ es[k]? = some e ∧ w.cell? ⟨b, off + k * 2, none⟩ = some (.int .i64 e.1) ∧ w.cell? ⟨b, off + k * 2 + 1, none⟩ = some (.int .i64 e.2) := by
  obtain ⟨b, off, e, hb, hc⟩ := h (by omega)
  have he : es[k]? = some es[k] := List.getElem?_eq_getElem hk
  exact ⟨b, off, es[k], e, hb, he, (hc k _ he).1, (hc k _ he).2⟩
theorem Pairs.keep {w w' : World} {B : Nat} {A : Option Addr} {es : List (Int × Int)} (h : Pairs w B A es) (hk : ∀ p : Addr, p.block < B → w'.cell? p = w.cell? p) : Pairs w' B A es := fun hn => by
  obtain ⟨b, off, e, hb, hc⟩ := h hn
  exact ⟨b, off, e, hb, fun k x hx => ⟨(hk _ hb).trans (hc k x hx).1, (hk _ hb).trans (hc k x hx).2⟩⟩
theorem Pairs.more {w : World} {B B' : Nat} {A : Option Addr} {es : List (Int × Int)} (h : Pairs w B A es) (hB : B ≤ B') : Pairs w B' A es := fun hn => by
  obtain ⟨b, off, e, hb, hc⟩ := h hn
  exact ⟨b, off, e, by omega, hc⟩
theorem Pairs.below {w w' : World} {B : Nat} {A : Option Addr} {es : List (Int × Int)} (h : Pairs w B A es) (hb : Below B w w') : Pairs w' B A es := h.keep fun _ hp => hb.cell hp
theorem Pairs.alloc {w : World} {B : Nat} {A : Option Addr} {es : List (Int × Int)} (h : Pairs w B A es) (hB : B ≤ w.heap.size) (o : Obj) : Pairs (w.alloc o) B A es :=
  h.keep fun p hp => World.cell?_alloc_lt w o p (by omega)
end Go.Proofs.YtcjmljpfhabmnaaDoor
set_option linter.unusedVariables false
namespace Go.Proofs.YtcjmljpfhabmnaaDoor
open Go.RowKit

def flatE (es : List (Int × Int)) : List Value := es.flatMap fun e => [.int .i64 e.1, .int .i64 e.2]
theorem flatE_length (es : List (Int × Int)) : (flatE es).length = es.length * 2 := by
  induction es with
  | nil => rfl
  | cons e es ih =>
    rw [show flatE (e :: es) = .int .i64 e.1 :: .int .i64 e.2 :: flatE es from rfl, List.length_cons, List.length_cons, List.length_cons, ih]
    omega
theorem flatE_append (a b : List (Int × Int)) : flatE (a ++ b) = flatE a ++ flatE b := by unfold flatE; rw [List.flatMap_append]
theorem flatE_at : ∀ {es : List (Int × Int)} {k : Nat} {e : Int × Int}, es[k]? = some e → (flatE es)[k * 2]? = some (.int .i64 e.1) ∧ (flatE es)[k * 2 + 1]? = some (.int .i64 e.2)
  | [], k, e, h => by simp at h
  | x :: es, 0, e, h => by
    obtain rfl : x = e := by simpa using h
    exact ⟨rfl, rfl⟩
  | x :: es, k + 1, e, h => by
    have ih := flatE_at (es := es) (k := k) (e := e) (by simpa using h)
    have e1 : flatE (x :: es) = .int .i64 x.1 :: .int .i64 x.2 :: flatE es := rfl
    rw [e1, show (k + 1) * 2 = k * 2 + 1 + 1 by omega]
    simp only [List.getElem?_cons_succ]
    exact ih
theorem flatE_cell {es : List (Int × Int)} {j : Nat} {u : Value} (h : (flatE es)[j]? = some u) : ∃ e, es[j / 2]? = some e ∧ ((j % 2 = 0 ∧ u = .int .i64 e.1) ∨ (j % 2 = 1 ∧ u = .int .i64 e.2)) := by
  have hj : j < es.length * 2 := by
    rw [← flatE_length]
    rcases Nat.lt_or_ge j (flatE es).length with h1 | h1
    · exact h1
    · rw [List.getElem?_eq_none h1] at h; cases h
  have hk : es[j / 2]? = some es[j / 2] := List.getElem?_eq_getElem (by omega)
  refine ⟨_, hk, ?_⟩
  obtain ⟨h1, h2⟩ := flatE_at hk
  rcases Nat.mod_two_eq_zero_or_one j with h0 | h0
  · rw [show j / 2 * 2 = j by omega, h] at h1
    exact .inl ⟨h0, Option.some.inj h1⟩
  · rw [show j / 2 * 2 + 1 = j by omega, h] at h2
    exact .inr ⟨h0, Option.some.inj h2⟩
theorem flatE_one (es : List (Int × Int)) : ∀ u ∈ flatE es, u.oneCell' = true := by
  intro u hu
  unfold flatE at hu
  obtain ⟨e, _, h⟩ := List.mem_flatMap.mp hu
  rcases (by simpa using h : u = .int .i64 e.1 ∨ u = .int .i64 e.2) with rfl | rfl <;> rfl
theorem Pairs.news {w : World} {B : Nat} {ad : Addr} {es : List (Int × Int)} (h : Pairs w B (some ad) es) : ∀ j u, (flatE es)[j]? = some u → w.cell? (ad.add j) = some u := by
  intro j u hu
  obtain ⟨e, he, hu2⟩ := flatE_cell hu
  have hl : 0 < es.length := by
    cases es with
    | nil => simp at he
    | cons _ _ => simp
  obtain ⟨b, off, hA, _, hc⟩ := h hl
  injection hA with hA
  subst hA
  rw [addr_add]
  obtain ⟨c1, c2⟩ := hc _ _ he
  rcases hu2 with ⟨h0, rfl⟩ | ⟨h0, rfl⟩
  · rw [show off + j = off + j / 2 * 2 by omega]
    exact c1
  · rw [show off + j = off + j / 2 * 2 + 1 by omega]
    exact c2
theorem Pairs.none_nil {w : World} {B : Nat} {es : List (Int × Int)} (h : Pairs w B none es) : es = [] := by
  rcases Nat.eq_zero_or_pos es.length with h0 | h0
  · exact List.eq_nil_of_length_eq_zero h0
  · obtain ⟨_, _, e, _⟩ := h h0
    cases e
theorem own_below {w w' : World} {base : Nat} {e : TypeId} {s n : Nat} {v : Value} {xs : List Value} (h : w.ownsRow base e s v n xs) (hb : Below w.heap.size w w') : w'.ownsRow base e s v n xs := by
  refine ⟨h.1, ?_⟩
  rcases h.2 with hn | ⟨g, cap, cur, rfl, hg, hgg, rest⟩
  · exact .inl hn
  · exact .inr ⟨g, cap, cur, rfl, hg, by rw [hb.block g (Array.getElem?_eq_some_iff.1 hgg).1]; exact hgg, rest⟩
theorem own_less {w : World} {base base' : Nat} {e : TypeId} {s n : Nat} {v : Value} {xs : List Value} (h : w.ownsRow base e s v n xs) (hb : base' ≤ base) : w.ownsRow base' e s v n xs := by
  refine ⟨h.1, ?_⟩
  rcases h.2 with hn | ⟨g, cap, cur, rfl, hg, rest⟩
  · exact .inl hn
  · exact .inr ⟨g, cap, cur, rfl, by omega, rest⟩
/-- 'append([]T{}, l...)': a new row; all that was there is as it was. -/
theorem fresh_append {P : Program} (w : World) (t ty e : TypeId) (i : TypeInfo) (z : Value) (size bytes : Nat) (ht : P.underlying t = some (.slice e)) (hi : P.info? e = some i) (hz : i.zero = some z)
    (hsize : i.size = size) (hby : i.bytes = bytes) (hzs : z.cells.size = size) (hsz : 0 < size) (base g : Nat) (hg : w.heap[g]? = some (.cells #[] e (0, 0))) (hbg : base ≤ g) (hbw : base ≤ w.heap.size)
    (A : Option Addr) (len c : Nat) (news : List Value) (hl : news.length = len * size) (hA : A = none → len = 0 ∧ c = 0) (hnews : ∀ ad, A = some ad → ∀ j u, news[j]? = some u → w.cell? (ad.add j) = some u) (h1 : ∀ u ∈ news, u.oneCell' = true)
    (h63 : len ≤ maxLen) (hbytes : len * bytes ≤ 140737488355328) :
    ∃ v' w', (Builtin.append_ #[t, t] ty #[.slice (some ⟨g, 0, none⟩) 0 0, .slice A len c]).run P w = .ok v' w' ∧ w'.ownsRow base e size v' len news ∧ Below w.heap.size w w' := by
  have hown : w.ownsRow base e size (.slice (some ⟨g, 0, none⟩) 0 0) 0 [] := ⟨by simp, .inr ⟨g, 0, #[], rfl, hbg, hg, Nat.le_refl _, by simp [maxLen], by simp, by simp⟩⟩
  cases A with
  | none =>
    obtain ⟨rfl, rfl⟩ := hA rfl
    obtain rfl : news = [] := List.eq_nil_of_length_eq_zero (by simpa using hl)
    exact ⟨_, w, run_append_owned_none w base t ty e i size ht hi _ 0 [] hown, hown, Below.refl _ _⟩
  | some ad =>
    rcases Nat.eq_zero_or_pos len with h0 | h0
    · subst h0
      obtain rfl : news = [] := List.eq_nil_of_length_eq_zero (by simpa using hl)
      have hr := run_append_room (P := P) w t ty e i ht hi g 0 0 #[] hg ad 0 c [] (by simp) (fun j u h => by simp at h) (fun u h => by simp at h) (by omega) (by simp)
      refine ⟨_, _, hr, ?_, ?_⟩
      · exact ⟨by simp, .inr ⟨g, 0, _, rfl, hbg, setRow_heap w g _ _ e _ hg, Nat.le_refl _, by simp [maxLen], by simp, by simp⟩⟩
      · refine ⟨rfl, rfl, rfl, by simp, fun k _ => ?_⟩
        by_cases hk : k = g
        · subst hk
          rw [setRow_heap w k _ _ e _ hg, hg]
          simp
        · exact setRow_other w g k _ hk
    · obtain ⟨v', w', hr, ho, hgr⟩ := run_append_arg_grows (P := P) w t ty e i z size bytes ht hi hz hsize hby hzs hsz ⟨g, 0, none⟩ 0 0 [] (by simp) (fun j u h => by simp at h) ad len c news hl (hnews ad rfl) (by omega) (by omega) (by simpa using hbytes)
      rw [Nat.zero_add, List.nil_append] at ho
      exact ⟨v', w', hr, own_less ho hbw, ⟨hgr.os, hgr.tape, hgr.output, hgr.size, fun k hk => hgr.block k hk (by simp)⟩⟩
end Go.Proofs.YtcjmljpfhabmnaaDoor
set_option linter.unusedVariables false
namespace Go.Proofs.YtcjmljpfhabmnaaDoor
open Go Go.RowKit

/-- A deque's ring, as it is handed over. -/
structure IsQ (w : World) (A : Option Addr) (n c : Nat) (R : List Int) : Prop where
  hn : R.length = n
  ln : n ≤ 1000
  ints : Ints w w.heap.size A R
  hA : A = none → n = 0 ∧ c = 0
theorem IsQ.below {w w' : World} {A : Option Addr} {n c : Nat} {R : List Int} (h : IsQ w A n c R) (hb : Below w.heap.size w w') : IsQ w' A n c R := ⟨h.hn, h.ln, (h.ints.below hb).more hb.size, h.hA⟩
theorem noQ (w : World) : IsQ w none 0 0 [] := ⟨rfl, by decide, Ints.nil_ _ _ _, fun _ => ⟨rfl, rfl⟩⟩
/-- Rows that a call made one behind the other, over the world where it began. -/
structure Rws (w0 : World) (L : List (TypeId × List Value)) (w : World) : Prop where
  bel : Below w0.heap.size w0 w
  row : ∀ (i : Nat) (t : TypeId) (vs : List Value), L[i]? = some (t, vs) → RowV (w0.heap.size + i) t vs w
def allocs (w : World) : List (TypeId × List Value) → World
  | [] => w
  | (t, vs) :: L => allocs (w.alloc (.cells vs.toArray t)) L
theorem allocs_snoc (t : TypeId) (vs : List Value) : ∀ (L : List (TypeId × List Value)) (w : World), allocs w (L ++ [(t, vs)]) = (allocs w L).alloc (.cells vs.toArray t)
  | [], w => rfl
  | (t', vs') :: L, w => allocs_snoc t vs L _
theorem allocs_size : ∀ (L : List (TypeId × List Value)) (w : World), (allocs w L).heap.size = w.heap.size + L.length
  | [], w => rfl
  | (t, vs) :: L, w => by
    show (allocs (w.alloc _) L).heap.size = _
    rw [allocs_size L]
    simp
    omega
theorem Rws.next {w0 w w' : World} {L : List (TypeId × List Value)} (h : Rws w0 L w) (hb : Below w.heap.size w w') : Rws w0 L w' := by
  refine ⟨h.bel.trans (hb.mono h.bel.size), fun i t vs hi => ?_⟩
  have := h.row i t vs hi
  exact this.below hb this.lt
theorem Rws.start (w : World) (L : List (TypeId × List Value)) : Rws w L (allocs w L) := by
  obtain ⟨k, hk⟩ : ∃ k, k = L.length := ⟨_, rfl⟩
  induction k generalizing L with
  | zero =>
    obtain rfl : L = [] := List.eq_nil_of_length_eq_zero hk.symm
    exact ⟨Below.refl _ _, fun i t vs hi => by simp at hi⟩
  | succ k ih =>
    obtain ⟨L', x, rfl⟩ : ∃ L' x, L = L' ++ [x] := ⟨L.dropLast, L.getLast (by intro h; subst h; simp at hk), (List.dropLast_concat_getLast _).symm⟩
    obtain ⟨t, vs⟩ := x
    have h := ih L' (by simp at hk; omega)
    rw [allocs_snoc]
    have h2 := h.next (below_alloc (.cells vs.toArray t))
    refine ⟨h2.bel, fun i t' vs' hi => ?_⟩
    rcases Nat.lt_or_ge i L'.length with hl | hl
    · rw [List.getElem?_append_left hl] at hi
      exact h2.row i t' vs' hi
    · rw [List.getElem?_append_right hl] at hi
      have h0 : i - L'.length = 0 := by
        rcases Nat.eq_zero_or_pos (i - L'.length) with e | e
        · exact e
        · rw [List.getElem?_eq_none (by simp; omega)] at hi; cases hi
      rw [h0] at hi
      injection hi with hi
      injection hi with e1 e2
      subst e1 e2
      have e3 : w.heap.size + i = (allocs w L').heap.size := by rw [allocs_size]; omega
      rw [e3]
      exact RowV.new _ _ _
theorem Rws.cell {w0 w : World} {L : List (TypeId × List Value)} (h : Rws w0 L w) (i j : Nat) {t : TypeId} {vs : List Value} {v : Value} (hi : L[i]? = some (t, vs)) (hj : vs[j]? = some v) : w.cell? ⟨w0.heap.size + i, j, none⟩ = some v := (h.row i t vs hi).cell hj
theorem Rws.frozen {w0 w : World} {L : List (TypeId × List Value)} (h : Rws w0 L w) (i j : Nat) {t : TypeId} {vs : List Value} (hi : L[i]? = some (t, vs)) : w.frozen? ⟨w0.heap.size + i, j, none⟩ = false := (h.row i t vs hi).frozen j
theorem Rws.set {w0 w : World} {L : List (TypeId × List Value)} (h : Rws w0 L w) (i j : Nat) {t : TypeId} {vs : List Value} (hi : L[i]? = some (t, vs)) (v : Value) : Rws w0 (L.set i (t, vs.set j v)) (w.setCell ⟨w0.heap.size + i, j, none⟩ v) := by
  refine ⟨h.bel.setCell (by show w0.heap.size ≤ w0.heap.size + i; omega) v, fun k t' vs' hk => ?_⟩
  by_cases e : i = k
  · subst e
    have hl : i < L.length := (List.getElem?_eq_some_iff.mp hi).1
    rw [List.getElem?_set_self hl] at hk
    injection hk with hk
    injection hk with e1 e2
    subst e1 e2
    exact (h.row i t vs hi).set j v
  · rw [List.getElem?_set_ne e] at hk
    have := h.row k t' vs' hk
    unfold RowV at this ⊢
    rw [heap_setCell_other _ _ _ _ (by show w0.heap.size + k ≠ w0.heap.size + i; omega)]
    exact this
theorem Rws.setQ {w0 w : World} {L : List (TypeId × List Value)} (h : Rws w0 L w) (i : Nat) {t : TypeId} {a b c : Value} (hi : L[i]? = some (t, [a, b, c])) (x y z : Value) :
    Rws w0 (L.set i (t, [x, y, z])) (((w.setCell ⟨w0.heap.size + i, 0, none⟩ x).setCell ⟨w0.heap.size + i, 1, none⟩ y).setCell ⟨w0.heap.size + i, 2, none⟩ z) := by
  have hl : i < L.length := (List.getElem?_eq_some_iff.mp hi).1
  have h1 := h.set i 0 hi x
  have h2 := h1.set i 1 (List.getElem?_set_self hl) y
  rw [List.set_set] at h2
  have h3 := h2.set i 2 (List.getElem?_set_self hl) z
  rw [List.set_set] at h3
  exact h3
theorem Rws.setT {w0 w : World} {L : List (TypeId × List Value)} (h : Rws w0 L w) (i : Nat) {t : TypeId} {a b c d e f : Value} (hi : L[i]? = some (t, [a, b, c, d, e, f])) (u v x y z r : Value) :
    Rws w0 (L.set i (t, [u, v, x, y, z, r])) ((((((w.setCell ⟨w0.heap.size + i, 0, none⟩ u).setCell ⟨w0.heap.size + i, 1, none⟩ v).setCell ⟨w0.heap.size + i, 2, none⟩ x).setCell ⟨w0.heap.size + i, 3, none⟩ y).setCell ⟨w0.heap.size + i, 4, none⟩ z).setCell ⟨w0.heap.size + i, 5, none⟩ r) := by
  have hl : i < L.length := (List.getElem?_eq_some_iff.mp hi).1
  have h1 := h.set i 0 hi u
  have h2 := h1.set i 1 (List.getElem?_set_self hl) v
  rw [List.set_set] at h2
  have h3 := h2.set i 2 (List.getElem?_set_self hl) x
  rw [List.set_set] at h3
  have h4 := h3.set i 3 (List.getElem?_set_self hl) y
  rw [List.set_set] at h4
  have h5 := h4.set i 4 (List.getElem?_set_self hl) z
  rw [List.set_set] at h5
  have h6 := h5.set i 5 (List.getElem?_set_self hl) r
  rw [List.set_set] at h6
  exact h6
theorem Rws.alloc {w0 w : World} {L : List (TypeId × List Value)} (h : Rws w0 L w) (o : Obj) : Rws w0 L (w.alloc o) := h.next (below_alloc o)
theorem Rws.drew {w0 w : World} {L : List (TypeId × List Value)} (h : Rws w0 L w) (N : Nat) : Rws w0 L (w.drewN N) := h.next (below_drewN (Below.refl _ _) N)
/-- Results of which two lie in cells, and of which one lies in a slot. -/
theorem results_cells3 {fn : Func} {p q u : Tmp} {ty tz : TypeId} (h : fn.results = #[.cell p ty, .cell q tz, .tmp u]) (tmps : Array Value) (P : Program) (w : World) :
    (results fn tmps).run P w =
      ((asAddr (tmps.getD p undef)).run P w).andThen fun a w₁ => ((loadVar ty a).run P w₁).andThen fun v w₂ => ((asAddr (tmps.getD q undef)).run P w₂).andThen fun b w₃ => ((loadVar tz b).run P w₃).andThen fun x w₄ => .ok (.tuple #[v, x, tmps.getD u undef]) w₄ := by
  simp only [results, h]
  simp [Sem.run_bind, Result.andThen]
theorem results_cells2 {fn : Func} {p q : Tmp} {ty tz : TypeId} (h : fn.results = #[.cell p ty, .cell q tz]) (tmps : Array Value) (P : Program) (w : World) :
    (results fn tmps).run P w =
      ((asAddr (tmps.getD p undef)).run P w).andThen fun a w₁ => ((loadVar ty a).run P w₁).andThen fun v w₂ => ((asAddr (tmps.getD q undef)).run P w₂).andThen fun b w₃ => ((loadVar tz b).run P w₃).andThen fun x w₄ => .ok (.tuple #[v, x]) w₄ := by
  simp only [results, h]
  simp [Sem.run_bind, Result.andThen]
theorem dq_info : (Tryd.prog.info? 27).map (·.size) = some 3 := by kernel_rfl
theorem tk_info : (Tryd.prog.info? 42).map (·.size) = some 6 := by kernel_rfl
theorem load_dq {w : World} {g : Nat} {cs : List Value} (h : RowV g 27 cs w) (hl : cs.length = 3) : (loadVar 27 ⟨g, 0, none⟩).run Tryd.prog w = .ok (.agg cs.toArray) w :=
  run_loadVar_row _ g _ _ _ _ _ h Tryd.underlying27 rfl (by rw [dq_info]; simp [hl])
theorem load_tk {w : World} {g : Nat} {cs : List Value} (h : RowV g 42 cs w) (hl : cs.length = 6) : (loadVar 42 ⟨g, 0, none⟩).run Tryd.prog w = .ok (.agg cs.toArray) w :=
  run_loadVar_row _ g _ _ _ _ _ h Tryd.underlying42 rfl (by rw [tk_info]; simp [hl])
/-- What is handed out: a deque and a taker; with an error; a deque and an error. -/
theorem ret_qt {fn : Func} {p q : Tmp} (h : fn.results = #[.cell p 27, .cell q 42]) {tmps : Array Value} {w : World} {g k : Nat} {cs ds : List Value} (hp : tmps.getD p undef = .pointer (some ⟨g, 0, none⟩)) (hq : tmps.getD q undef = .pointer (some ⟨k, 0, none⟩))
    (h1 : RowV g 27 cs w) (l1 : cs.length = 3) (h2 : RowV k 42 ds w) (l2 : ds.length = 6) : (results fn tmps).run Tryd.prog w = .ok (.tuple #[.agg cs.toArray, .agg ds.toArray]) w := by
  rw [results_cells2 h, hp, hq]
  simp [asAddr, load_dq h1 l1, load_tk h2 l2, Result.andThen]
theorem ret_qte {fn : Func} {p q u : Tmp} (h : fn.results = #[.cell p 27, .cell q 42, .tmp u]) {tmps : Array Value} {w : World} {g k : Nat} {cs ds : List Value} {e : Value} (hp : tmps.getD p undef = .pointer (some ⟨g, 0, none⟩)) (hq : tmps.getD q undef = .pointer (some ⟨k, 0, none⟩)) (hu : tmps.getD u undef = e)
    (h1 : RowV g 27 cs w) (l1 : cs.length = 3) (h2 : RowV k 42 ds w) (l2 : ds.length = 6) : (results fn tmps).run Tryd.prog w = .ok (.tuple #[.agg cs.toArray, .agg ds.toArray, e]) w := by
  rw [results_cells3 h, hp, hq, hu]
  simp [asAddr, load_dq h1 l1, load_tk h2 l2, Result.andThen]
theorem ret_qe {fn : Func} {p u : Tmp} (h : fn.results = #[.cell p 27, .tmp u]) {tmps : Array Value} {w : World} {g : Nat} {cs : List Value} {e : Value} (hp : tmps.getD p undef = .pointer (some ⟨g, 0, none⟩)) (hu : tmps.getD u undef = e)
    (h1 : RowV g 27 cs w) (l1 : cs.length = 3) : (results fn tmps).run Tryd.prog w = .ok (.tuple #[.agg cs.toArray, e]) w := by
  rw [results_cell_tmp h, hp, hu]
  simp [asAddr, load_dq h1 l1, Result.andThen]
theorem RowV.drewN {g : Nat} {t : TypeId} {vs : List Value} {w : World} (h : RowV g t vs w) (N : Nat) : RowV g t vs (w.drewN N) := h
theorem row3of4 (w : World) (o1 o2 o4 : Obj) (t : TypeId) (vs : List Value) (N : Nat) : RowV (w.heap.size + 1 + 1) t vs (((((w.alloc o1).alloc o2).alloc (.cells vs.toArray t)).alloc o4).drewN N) := by
  refine RowV.drewN (RowV.alloc ?_ _) N
  have := RowV.new ((w.alloc o1).alloc o2) t vs
  simpa using this
theorem row4of4 (w : World) (o1 o2 o3 : Obj) (t : TypeId) (vs : List Value) (N : Nat) : RowV (w.heap.size + 1 + 1 + 1) t vs (((((w.alloc o1).alloc o2).alloc o3).alloc (.cells vs.toArray t)).drewN N) := by
  refine RowV.drewN ?_ N
  have := RowV.new (((w.alloc o1).alloc o2).alloc o3) t vs
  simpa using this
/-- A taker as a value. -/
def vT (t : Tkr) : Value := .agg #[.bool t.steal, .int .i64 t.at_, .int .i64 t.top, .int .i64 t.bot, .int .i64 t.got, .int .i64 t.end_]
def cT (t : Tkr) : List Value := [.bool t.steal, .int .i64 t.at_, .int .i64 t.top, .int .i64 t.bot, .int .i64 t.got, .int .i64 t.end_]
end Go.Proofs.YtcjmljpfhabmnaaDoor
