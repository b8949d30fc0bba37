/- Words for memory in the seat YtohgdeddepfanaaDoor: blocks that a call makes one behind the other (DequeMem's Rws under another name, for seats without deques). No statement is proved here. -/
import Derived.Test.YtohgdeddepfanaaDoorMem
import Derived.Test.YtohgdeddepfanaaDoorRowV
import Derived.Test.YtohgdeddepfanaaDoorOwnE
import Derived.Laws.ResultCell
set_option linter.unusedVariables false
namespace Go.Proofs.YtohgdeddepfanaaDoor
open Go Go.RowKit

/-- Rows that a call made one behind the other, over the world where it began. -/
structure Rwk (w0 : World) (L : List (TypeId × List Value)) (w : World) : Prop where
  bel : Below w0.heap.size w0 w
  row : ∀ (i : Nat) (t : TypeId) (vs : List Value), L[i]? = some (t, vs) → RowV (w0.heap.size + i) t vs w
def allocsK (w : World) : List (TypeId × List Value) → World
  | [] => w
  | (t, vs) :: L => allocsK (w.alloc (.cells vs.toArray t)) L
theorem allocsK_snoc (t : TypeId) (vs : List Value) : ∀ (L : List (TypeId × List Value)) (w : World), allocsK w (L ++ [(t, vs)]) = (allocsK w L).alloc (.cells vs.toArray t)
  | [], w => rfl
  | (t', vs') :: L, w => allocsK_snoc t vs L _
theorem allocsK_size : ∀ (L : List (TypeId × List Value)) (w : World), (allocsK w L).heap.size = w.heap.size + L.length
  | [], w => rfl
  | (t, vs) :: L, w => by
    show (allocsK (w.alloc _) L).heap.size = _
    rw [allocsK_size L]
    simp
    omega
theorem Rwk.next {w0 w w' : World} {L : List (TypeId × List Value)} (h : Rwk w0 L w) (hb : Below w.heap.size w w') : Rwk w0 L w' := by
  refine ⟨h.bel.trans (hb.mono h.bel.size), fun i t vs hi => ?_⟩
  have := h.row i t vs hi
  exact this.below hb this.lt
theorem Rwk.start (w : World) (L : List (TypeId × List Value)) : Rwk w L (allocsK w L) := by
  obtain ⟨k, hk⟩ : ∃ k, k = L.length := ⟨_, rfl⟩
  induction k generalizing L with
  | zero =>
    obtain rfl : L = [] := List.eq_nil_of_length_eq_zero hk.symm
    exact ⟨Below.refl _ _, fun i t vs hi => by simp at hi⟩
  | succ k ih =>
    obtain ⟨L', x, rfl⟩ : ∃ L' x, L = L' ++ [x] := ⟨L.dropLast, L.getLast (by intro h; subst h; simp at hk), (List.dropLast_concat_getLast _).symm⟩
    obtain ⟨t, vs⟩ := x
    have h := ih L' (by simp at hk; omega)
    rw [allocsK_snoc]
    have h2 := h.next (below_alloc (.cells vs.toArray t))
    refine ⟨h2.bel, fun i t' vs' hi => ?_⟩
    rcases Nat.lt_or_ge i L'.length with hl | hl
    · rw [List.getElem?_append_left hl] at hi
      exact h2.row i t' vs' hi
    · rw [List.getElem?_append_right hl] at hi
      have h0 : i - L'.length = 0 := by
        rcases Nat.eq_zero_or_pos (i - L'.length) with e | e
        · exact e
        · rw [List.getElem?_eq_none (by simp; omega)] at hi; cases hi
      rw [h0] at hi
      injection hi with hi
      injection hi with e1 e2
      subst e1 e2
      have e3 : w.heap.size + i = (allocsK w L').heap.size := by rw [allocsK_size]; omega
      rw [e3]
      exact RowV.new _ _ _
theorem Rwk.cell {w0 w : World} {L : List (TypeId × List Value)} (h : Rwk w0 L w) (i j : Nat) {t : TypeId} {vs : List Value} {v : Value} (hi : L[i]? = some (t, vs)) (hj : vs[j]? = some v) : w.cell? ⟨w0.heap.size + i, j, none⟩ = some v := (h.row i t vs hi).cell hj
theorem Rwk.frozen {w0 w : World} {L : List (TypeId × List Value)} (h : Rwk w0 L w) (i j : Nat) {t : TypeId} {vs : List Value} (hi : L[i]? = some (t, vs)) : w.frozen? ⟨w0.heap.size + i, j, none⟩ = false := (h.row i t vs hi).frozen j
theorem Rwk.set {w0 w : World} {L : List (TypeId × List Value)} (h : Rwk w0 L w) (i j : Nat) {t : TypeId} {vs : List Value} (hi : L[i]? = some (t, vs)) (v : Value) : Rwk w0 (L.set i (t, vs.set j v)) (w.setCell ⟨w0.heap.size + i, j, none⟩ v) := by
  refine ⟨h.bel.setCell (by show w0.heap.size ≤ w0.heap.size + i; omega) v, fun k t' vs' hk => ?_⟩
  by_cases e : i = k
  · subst e
    have hl : i < L.length := (List.getElem?_eq_some_iff.mp hi).1
    rw [List.getElem?_set_self hl] at hk
    injection hk with hk
    injection hk with e1 e2
    subst e1 e2
    exact (h.row i t vs hi).set j v
  · rw [List.getElem?_set_ne e] at hk
    have := h.row k t' vs' hk
    unfold RowV at this ⊢
    rw [heap_setCell_other _ _ _ _ (by show w0.heap.size + k ≠ w0.heap.size + i; omega)]
    exact this
theorem Rwk.alloc {w0 w : World} {L : List (TypeId × List Value)} (h : Rwk w0 L w) (o : Obj) : Rwk w0 L (w.alloc o) := h.next (below_alloc o)
theorem Rwk.drew {w0 w : World} {L : List (TypeId × List Value)} (h : Rwk w0 L w) (N : Nat) : Rwk w0 L (w.drewN N) := h.next (below_drewN (Below.refl _ _) N)
theorem Rwk.set2 {w0 w : World} {L : List (TypeId × List Value)} (h : Rwk w0 L w) (i : Nat) {t : TypeId} {a b : Value} (hi : L[i]? = some (t, [a, b])) (x y : Value) :
    Rwk w0 (L.set i (t, [x, y])) ((w.setCell ⟨w0.heap.size + i, 0, none⟩ x).setCell ⟨w0.heap.size + i, 1, none⟩ y) := by
  have hl : i < L.length := (List.getElem?_eq_some_iff.mp hi).1
  have h1 := h.set i 0 hi x
  have h2 := h1.set i 1 (List.getElem?_set_self hl) y
  rw [List.set_set] at h2
  exact h2
end Go.Proofs.YtohgdeddepfanaaDoor
