/- Words for memory in the seat YtjngnejmgfncnaaDoor: a row of bytes that '[]byte(s)' lays, one of its cells written, the row as a string again. No statement is proved here. -/
import Derived.Test.YtjngnejmgfncnaaDoorChecked
import Derived.WalkKit
import Derived.WalkSmall
import Derived.Below
import Derived.Laws.Rows
import Derived.Laws.IdiomStrings
import Derived.Lib.BufferMore
set_option linter.unusedVariables false
namespace Go.Proofs.YtjngnejmgfncnaaDoor
open Go.RowKit

/-- Block g holds these bytes, at its head; its last cells may be more. -/
def Row8 (g : Nat) (B : List UInt8) (w : World) : Prop :=
  ∃ cur : Array Value, w.heap[g]? = some (.cells cur 5 (cur.size, cur.size + 1)) ∧ B.length ≤ cur.size ∧ ∀ (j : Nat) (hj : j < B.length), cur[j]? = some (.int .u8 (B[j].toNat : Int))
theorem to_row8 (s : ByteArray) (w : World) : ∃ (c : Nat) (W1 : World), (convert 9 32 (.string s)).run Tryd.prog w = .ok (.slice (some ⟨w.heap.size, 0, none⟩) s.size c) W1 ∧ s.size ≤ c ∧
    Row8 w.heap.size s.data.toList W1 ∧ Below w.heap.size w W1 := by
  refine ⟨grownCap w s.size 0 5, _, run_bytes_of_string w 9 32 5 s Tryd.underlying9 Tryd.underlying32 Tryd.underlying5, grownCap_ge _ _ _ _, ⟨bytesRow s (grownCap w s.size 0 5), heap_alloc_new w.drew _, ?_, ?_⟩, ?_⟩
  · unfold bytesRow
    rw [Array.size_append, Array.size_map]
    show s.data.size ≤ _
    omega
  · intro j hj
    unfold bytesRow
    have hj' : j < s.data.size := by simpa using hj
    rw [Array.getElem?_append_left (by simpa using hj'), Array.getElem?_map, Array.getElem?_eq_getElem hj']
    rfl
  · exact (Below.refl _ _).drew.alloc (Nat.le_refl _) _
theorem Row8.cell {g : Nat} {B : List UInt8} {w : World} (h : Row8 g B w) {j : Nat} (hj : j < B.length) : w.cell? ⟨g, j, none⟩ = some (.int .u8 ((B.getD j 0).toNat : Int)) := by
  obtain ⟨cur, hg, _, hc⟩ := h
  rw [cell_of_row _ _ _ _ _ _ hg, hc j hj, List.getD_eq_getElem?_getD, List.getElem?_eq_getElem hj]
  rfl
theorem Row8.frozen {g : Nat} {B : List UInt8} {w : World} (h : Row8 g B w) {j : Nat} (hj : j < B.length) : w.frozen? ⟨g, j, none⟩ = false := by
  obtain ⟨cur, hg, hs, hc⟩ := h
  unfold World.frozen?
  simp [hg]
  omega
theorem Row8.set {g : Nat} {B : List UInt8} {w : World} (h : Row8 g B w) (j : Nat) (hj : j < B.length) (b : UInt8) : Row8 g (B.set j b) (w.setCell ⟨g, j, none⟩ (.int .u8 (b.toNat : Int))) := by
  obtain ⟨cur, hg, hs, hc⟩ := h
  refine ⟨cur.setIfInBounds j (.int .u8 (b.toNat : Int)), ?_, by rw [List.length_set, Array.size_setIfInBounds]; exact hs, fun i hi => ?_⟩
  · rw [Array.size_setIfInBounds]
    exact Lib.heap_setCell_same hg _
  · rw [List.length_set] at hi
    by_cases e : j = i
    · subst e
      rw [Array.getElem?_setIfInBounds_self_of_lt (by omega), List.getElem_set_self]
    · rw [Array.getElem?_setIfInBounds_ne e, hc i hi, List.getElem_set_ne e]
theorem Row8.back {g : Nat} {B : List UInt8} {w : World} (h : Row8 g B w) (n c : Nat) (hn : B.length = n) :
    (convert 32 9 (.slice (some ⟨g, 0, none⟩) n c)).run Tryd.prog w = .ok (.string ⟨B.toArray⟩) w := by
  subst hn
  exact run_convert_bytes_back w 32 9 5 ⟨g, 0, none⟩ c B Tryd.underlying32 Tryd.underlying5 Tryd.underlying9 (fun j hj => by
    have e : (⟨g, 0, none⟩ : Addr).add j = ⟨g, j, none⟩ := by unfold Addr.add; by_cases h0 : j = 0 <;> simp [h0]
    rw [e, h.cell hj, List.getD_eq_getElem?_getD, List.getElem?_eq_getElem hj]
    rfl)
end Go.Proofs.YtjngnejmgfncnaaDoor
