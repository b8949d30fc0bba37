/- Words for memory in the seat YtmgfbpnphdkgiaaDoor: a graph in a box of the call's own, its edges one less ('append(l[:k], l[k+1:]...)'). No statement is proved here. -/
import Derived.Test.YtmgfbpnphdkgiaaDoorLongMath
import Derived.Laws.IdiomCopy
set_option linter.unusedVariables false
namespace Go.Proofs.YtmgfbpnphdkgiaaDoor
open Go.RowKit

def setArr : Array Value → Nat → List Value → Array Value
  | cur, _, [] => cur
  | cur, o, v :: r => setArr (cur.setIfInBounds o v) (o + 1) r
theorem setCells_row (g : Nat) (t : TypeId) : ∀ (vs : List Value) (o : Nat) (w : World) (cur : Array Value), w.heap[g]? = some (.cells cur t (0, 0)) → (w.setCells g o vs).heap[g]? = some (.cells (setArr cur o vs) t (0, 0))
  | [], _, _, _, h => h
  | v :: r, o, w, cur, h => by
    rw [World.setCells, setArr]
    refine setCells_row g t r (o + 1) _ _ ?_
    simp [World.setCell, Array.getElem?_modify, h]
theorem setCells_else (g : Nat) {k : Nat} (hk : k ≠ g) : ∀ (vs : List Value) (o : Nat) (w : World), (w.setCells g o vs).heap[k]? = w.heap[k]?
  | [], _, _ => rfl
  | v :: r, o, w => by
    rw [World.setCells, setCells_else g hk r (o + 1)]
    exact Below.heap_setCell _ _ _ _ hk
theorem setCells_below {B g : Nat} {a : World} (hg : B ≤ g) : ∀ (vs : List Value) (o : Nat) {w : World}, Below B a w → Below B a (w.setCells g o vs)
  | [], _, _, h => h
  | v :: r, o, w, h => by
    rw [World.setCells]
    exact setCells_below hg r (o + 1) (h.setCell hg v)
theorem setArr_list : ∀ (vs : List Value) (o : Nat) (cur : Array Value), o + vs.length ≤ cur.size → (setArr cur o vs).toList = cur.toList.take o ++ vs ++ cur.toList.drop (o + vs.length)
  | [], o, cur, h => by simp [setArr]
  | v :: r, o, cur, h => by
    have hl : o < cur.toList.length := by simp at h ⊢; omega
    have h1 : (cur.toList.set o v).take (o + 1) = cur.toList.take o ++ [v] := by
      apply List.ext_getElem?
      intro j
      by_cases hj : j < o
      · rw [List.getElem?_take_of_lt (by omega), List.getElem?_set_ne (by omega), List.getElem?_append_left (by simp at hl ⊢; omega), List.getElem?_take_of_lt hj]
      · by_cases hj2 : j = o
        · subst hj2
          rw [List.getElem?_take_of_lt (by omega), List.getElem?_set_self hl, List.getElem?_append_right (by simp; omega)]
          simp at hl
          simp [Nat.min_eq_left (Nat.le_of_lt hl)]
        · rw [List.getElem?_eq_none (by simp; omega), List.getElem?_eq_none (by simp; omega)]
    have h2 : (cur.toList.set o v).drop (o + 1 + r.length) = cur.toList.drop (o + 1 + r.length) := by
      apply List.ext_getElem?
      intro j
      rw [List.getElem?_drop, List.getElem?_drop, List.getElem?_set_ne (by omega)]
    rw [setArr, setArr_list r (o + 1) _ (by simp at h ⊢; omega), Array.toList_setIfInBounds, h1, h2, List.length_cons, show o + (r.length + 1) = o + 1 + r.length by omega]
    simp
theorem flatE_take : ∀ (es : List (Int × Int)) (k : Nat), (flatE es).take (k * 2) = flatE (es.take k)
  | [], k => by simp [flatE]
  | e :: es, 0 => by simp [flatE]
  | e :: es, k + 1 => by
    have ih := flatE_take es k
    rw [show flatE (e :: es) = .int .i64 e.1 :: .int .i64 e.2 :: flatE es from rfl, show (k + 1) * 2 = k * 2 + 1 + 1 by omega, List.take_succ_cons, List.take_succ_cons, ih]
    rfl
section
variable {w5 w6 : World} {u : Value} {g cap k m : Nat} {cur : Array Value} {W : List Int} {E : List (Int × Int)}
/-- What the region asks. -/
theorem pull_news (hg : w6.heap[g]? = some (.cells cur 40 (0, 0))) (ht : cur.toList.take (m * 2) = flatE E) (hm : E.length = m) (hk : k < m) (hmc : m ≤ cap) :
    ∃ A : Addr, (if cap = k + 1 then some (⟨g, 0, none⟩ : Addr) else some ⟨g, (k + 1) * 2, none⟩) = some A ∧
      ∀ (w : World), w.heap[g]? = w6.heap[g]? → ∀ j x, (flatE (E.drop (k + 1)))[j]? = some x → w.cell? (A.add j) = some x := by
  by_cases h : cap = k + 1
  · refine ⟨⟨g, 0, none⟩, by simp [h], fun w _ j x hx => ?_⟩
    have h0 : E.drop (k + 1) = [] := List.drop_eq_nil_of_le (by omega)
    rw [h0] at hx
    simp [flatE] at hx
  · refine ⟨⟨g, (k + 1) * 2, none⟩, by simp [h], fun w hw j x hx => ?_⟩
    have hj : j < (m - (k + 1)) * 2 := by
      have := (List.getElem?_eq_some_iff.1 hx).1
      rw [flatE_length, List.length_drop, hm] at this
      exact this
    have e1 : (flatE E)[(k + 1) * 2 + j]? = some x := by
      have e : flatE E = flatE (E.take (k + 1)) ++ flatE (E.drop (k + 1)) := by rw [← flatE_append, List.take_append_drop]
      have hl : (flatE (E.take (k + 1))).length = (k + 1) * 2 := by rw [flatE_length, List.length_take]; congr 1; omega
      rw [e, List.getElem?_append_right (by omega), hl]
      rw [show (k + 1) * 2 + j - (k + 1) * 2 = j by omega]
      exact hx
    rw [← ht, List.getElem?_take_of_lt (by omega), Array.getElem?_toList] at e1
    rw [addr_add, World.cell?_of_block (w := w6) (a := ⟨g, _, none⟩) hw]
    rw [cell_of_row w6 g _ _ _ _ hg]
    simpa using e1
theorem pull_spare (hg : w6.heap[g]? = some (.cells cur 40 (0, 0))) (hm : E.length = m) (hk : k < m) (hmc : m ≤ cap) (hcs : cur.size = cap * 2) (w : World) (hw : w.heap[g]? = w6.heap[g]?) :
    ∀ j, j < (flatE (E.drop (k + 1))).length → (w.cell? ⟨g, 0 + k * 2 + j, none⟩).isSome = true ∧ w.frozen? ⟨g, 0 + k * 2 + j, none⟩ = false := by
  intro j hj
  rw [flatE_length, List.length_drop, hm] at hj
  constructor
  · rw [World.cell?_of_block (w := w6) (a := ⟨g, _, none⟩) hw, cell_of_row w6 g _ _ _ _ hg]
    have : 0 + k * 2 + j < cur.size := by omega
    simp [show k * 2 + j < cur.size by omega]
  · rw [World.frozen?_of_block (w := w6) (a := ⟨g, _, none⟩) hw, frozen_of_row w6 g _ _ _ hg]
/-- What the region leaves. -/
theorem pull_after (b : Below w5.heap.size w5 w6) (hu : OwnI w6 w5.heap.size u W) (hv : OwnE w6 w5.heap.size (.slice (some ⟨g, 0, none⟩) m cap) E) (hge : w5.heap.size ≤ g)
    (hg : w6.heap[g]? = some (.cells cur 40 (0, 0))) (ht : cur.toList.take (m * 2) = flatE E) (hm : E.length = m) (hk : k < m) (hmc : m ≤ cap) (hcm : cap ≤ maxLen) (hcs : cur.size = cap * 2)
    (w7 w8 : World) (h7 : w7 = ((w6.alloc (.cells #[u, .slice (some ⟨g, 0, none⟩) m cap] 25)).drew).setCells g (k * 2) (flatE (E.drop (k + 1)))) (h8 : w8 = w7.setCell ⟨w6.heap.size, 1, none⟩ (.slice (some ⟨g, 0, none⟩) (m - 1) cap)) :
    w7.heap[w6.heap.size]? = some (.cells #[u, .slice (some ⟨g, 0, none⟩) m cap] 25 (0, 0)) ∧
    Below w5.heap.size w5 w8 ∧ OwnI w8 w5.heap.size u W ∧ OwnE w8 w5.heap.size (.slice (some ⟨g, 0, none⟩) (m - 1) cap) (E.eraseIdx k) ∧
      w8.cell? ⟨w6.heap.size, 0, none⟩ = some u ∧ w8.cell? ⟨w6.heap.size, 1, none⟩ = some (.slice (some ⟨g, 0, none⟩) (m - 1) cap) := by
  have hs := b.size
  have hgl := (Array.getElem?_eq_some_iff.1 hg).1
  have hA : (w6.alloc (.cells #[u, .slice (some ⟨g, 0, none⟩) m cap] 25)).drew.heap[w6.heap.size]? = some (.cells #[u, .slice (some ⟨g, 0, none⟩) m cap] 25 (0, 0)) := heap_alloc_new w6 _
  have hB : (w6.alloc (.cells #[u, .slice (some ⟨g, 0, none⟩) m cap] 25)).drew.heap[g]? = some (.cells cur 40 (0, 0)) := ((below_alloc (w := w6) _).block g hgl).trans hg
  have h7A : w7.heap[w6.heap.size]? = some (.cells #[u, .slice (some ⟨g, 0, none⟩) m cap] 25 (0, 0)) := by
    rw [h7, setCells_else g (by omega)]
    exact hA
  have h7B : w7.heap[g]? = some (.cells (setArr cur (k * 2) (flatE (E.drop (k + 1)))) 40 (0, 0)) := by
    rw [h7]
    exact setCells_row g _ _ _ _ _ hB
  have h8B : w8.heap[g]? = some (.cells (setArr cur (k * 2) (flatE (E.drop (k + 1)))) 40 (0, 0)) := by
    rw [h8, Below.heap_setCell _ _ _ _ (show g ≠ w6.heap.size by omega)]
    exact h7B
  have hvl : (flatE (E.drop (k + 1))).length = (m - (k + 1)) * 2 := by rw [flatE_length, List.length_drop, hm]
  have hsl := setArr_list (flatE (E.drop (k + 1))) (k * 2) cur (by rw [hvl]; omega)
  have hul : u.ownBlock ≠ some g := by
    rcases own_apart hu hv with h | h
    · rw [h]; simp
    · simpa [Value.ownBlock] using h
  refine ⟨h7A, ?_, ?_, ?_, ?_, ?_⟩
  · rw [h8, h7]
    exact (setCells_below hge _ _ ((b.alloc hs _).drew)).setCell hs _
  · refine ⟨hu.1, ?_⟩
    rcases hu.2 with hn | ⟨g', cap', cur', rfl, hb', hgg', rest⟩
    · exact .inl hn
    · have hg'l := (Array.getElem?_eq_some_iff.1 hgg').1
      have hne : g' ≠ g := by simpa [Value.ownBlock] using hul
      refine .inr ⟨g', cap', cur', rfl, hb', ?_, rest⟩
      rw [h8, Below.heap_setCell _ _ _ _ (show g' ≠ w6.heap.size by omega), h7, setCells_else g hne]
      exact ((below_alloc (w := w6) _).block g' hg'l).trans hgg'
  · have hel : (E.eraseIdx k).length = m - 1 := by rw [List.length_eraseIdx, if_pos (by omega), hm]
    refine ⟨by rw [flatE_length], .inr ⟨g, cap, _, by rw [hel], hge, h8B, by omega, hcm, ?_, ?_⟩⟩
    · rw [← Array.length_toList, hsl]
      simp [hvl]
      omega
    · rw [hsl, hel, List.eraseIdx_eq_take_drop_succ, flatE_append, ← flatE_take, ← ht, List.take_take, Nat.min_eq_left (by omega)]
      rw [List.take_append_of_le_length (by simp [hvl]; omega), List.take_of_length_le (by simp [hvl]; omega)]
  · rw [h8]
    simp [World.cell?, World.setCell, Array.getElem?_modify, h7A]
  · rw [h8]
    simp [World.cell?, World.setCell, Array.getElem?_modify, h7A]
end
end Go.Proofs.YtmgfbpnphdkgiaaDoor
