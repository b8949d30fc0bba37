/- The contract of Own of trefoillaw04 in the seat YtmelgolnmnebpaaGreatDoor: a graph of its own memory. No statement is proved here. (Written by wip/dag/mk_own.py.) -/
import Derived.Test.YtmelgolnmnebpaaGreatDoorZM3
set_option linter.unusedSimpArgs false
set_option linter.unusedVariables false
namespace Go.Proofs.YtmelgolnmnebpaaGreatDoor
open Go.RowKit

/-- A graph handed out, in memory of the call's own. -/
def GotGr (W : List Int) (E : List (Int × Int)) (w : World) (e : Ending) (w' : World) : Prop :=
  ∃ u v, e = .returned (.agg #[u, v]) ∧ OwnI w' w.heap.size u W ∧ OwnE w' w.heap.size v E ∧ Below w.heap.size w w'
structure InvO (w0 : World) (A F : Option Addr) (n c m d : Nat) (W : List Int) (E : List (Int × Int)) (s3 s4 s5 s6 s7 s8 s9 s10 s11 : Value) (l : Array Bool) (w : World) : Prop where
  size : l.size = 10
  bel : Below (w0.heap.size + 1) (w0.alloc (.cells #[.slice A n c, .slice F m d] 32)) w
  cell : ∃ x y, w.heap[w0.heap.size + 1]? = some (.cells #[x, y] 32 (0, 0)) ∧ (l.getD 9 false = true → x = s6 ∧ y = s10)
  c8 : l.getD 8 false = true → l.getD 3 false = true ∧ l.getD 7 false = true
  c9 : l.getD 9 false = true → l.getD 3 false = true ∧ l.getD 7 false = true
  l0 : l.getD 0 false = true → ∃ g, s3 = .slice (some ⟨g, 0, none⟩) 0 0 ∧ w.heap[g]? = some (.cells #[] 3 (0, 0)) ∧ w0.heap.size + 2 ≤ g
  l1 : l.getD 1 false = true → s4 = .pointer (some ⟨w0.heap.size, 0, none⟩)
  l2 : l.getD 2 false = true → s5 = .slice A n c
  l3 : l.getD 3 false = true → OwnI w (w0.heap.size + 2) s6 W
  l4 : l.getD 4 false = true → ∃ g, s7 = .slice (some ⟨g, 0, none⟩) 0 0 ∧ w.heap[g]? = some (.cells #[] 69 (0, 0)) ∧ w0.heap.size + 2 ≤ g
  l5 : l.getD 5 false = true → s8 = .pointer (some ⟨w0.heap.size, 1, none⟩)
  l6 : l.getD 6 false = true → s9 = .slice F m d
  l7 : l.getD 7 false = true → OwnE w (w0.heap.size + 2) s10 E
  l8 : l.getD 8 false = true → s11 = .agg #[s6, s10]
theorem listed_keep {l : Array Bool} {i k : Nat} (h : l.getD k false = true) : (l.setIfInBounds i true).getD k false = true := getD_set_true h
theorem un_false {l : Array Bool} {i : Nat} (h : l.getD i true = false) (k : l.getD i false = true) : False := by
  rcases Nat.lt_or_ge i l.size with h' | h'
  · simp [h'] at h k; rw [h] at k; cases k
  · simp [Array.getElem?_eq_none h'] at k
section
variable {w0 : World} {A F : Option Addr} {n c m d : Nat} {W : List Int} {E : List (Int × Int)} {s3 s4 s5 s6 s7 s8 s9 s10 s11 : Value} {l : Array Bool} {w w' : World}
theorem InvO.lt (h : InvO w0 A F n c m d W E s3 s4 s5 s6 s7 s8 s9 s10 s11 l w) : w0.heap.size + 2 ≤ w.heap.size := by
  obtain ⟨x, y, hc, _⟩ := h.cell
  have := (Array.getElem?_eq_some_iff.1 hc).1
  omega
/-- New blocks turn nothing. -/
theorem InvO.mono (h : InvO w0 A F n c m d W E s3 s4 s5 s6 s7 s8 s9 s10 s11 l w) (hb : Below w.heap.size w w') : InvO w0 A F n c m d W E s3 s4 s5 s6 s7 s8 s9 s10 s11 l w' := by
  have hlt := h.lt
  refine { h with bel := h.bel.trans (hb.mono (by omega)), cell := ?_, l0 := ?_, l3 := fun hk => (h.l3 hk).below hb, l4 := ?_, l7 := fun hk => (h.l7 hk).below hb }
  · obtain ⟨x, y, hc, hh⟩ := h.cell
    exact ⟨x, y, by rw [hb.block _ (by omega)]; exact hc, hh⟩
  · intro hk
    obtain ⟨g, e, hg, hl⟩ := h.l0 hk
    exact ⟨g, e, by rw [hb.block _ (Array.getElem?_eq_some_iff.1 hg).1]; exact hg, hl⟩
  · intro hk
    obtain ⟨g, e, hg, hl⟩ := h.l4 hk
    exact ⟨g, e, by rw [hb.block _ (Array.getElem?_eq_some_iff.1 hg).1]; exact hg, hl⟩
theorem InvO.step0 (h : InvO w0 A F n c m d W E s3 s4 s5 s6 s7 s8 s9 s10 s11 l w) (hun : l.getD 0 true = false) {z : Value} (hz : ∃ g, z = .slice (some ⟨g, 0, none⟩) 0 0 ∧ w.heap[g]? = some (.cells #[] 3 (0, 0)) ∧ w0.heap.size + 2 ≤ g) : InvO w0 A F n c m d W E z s4 s5 s6 s7 s8 s9 s10 s11 (l.setIfInBounds 0 true) w where
  size := by rw [Array.size_setIfInBounds]; exact h.size
  bel := h.bel
  cell := by
    obtain ⟨x, y, hc, hh⟩ := h.cell
    exact ⟨x, y, hc, fun hk => hh ((listed_set hk).resolve_left (by decide))⟩
  c8 := fun hk => ⟨listed_keep (h.c8 ((listed_set hk).resolve_left (by decide))).1, listed_keep (h.c8 ((listed_set hk).resolve_left (by decide))).2⟩
  c9 := fun hk => ⟨listed_keep (h.c9 ((listed_set hk).resolve_left (by decide))).1, listed_keep (h.c9 ((listed_set hk).resolve_left (by decide))).2⟩
  l0 := fun _ => hz
  l1 := fun hk => h.l1 ((listed_set hk).resolve_left (by decide))
  l2 := fun hk => h.l2 ((listed_set hk).resolve_left (by decide))
  l3 := fun hk => h.l3 ((listed_set hk).resolve_left (by decide))
  l4 := fun hk => h.l4 ((listed_set hk).resolve_left (by decide))
  l5 := fun hk => h.l5 ((listed_set hk).resolve_left (by decide))
  l6 := fun hk => h.l6 ((listed_set hk).resolve_left (by decide))
  l7 := fun hk => h.l7 ((listed_set hk).resolve_left (by decide))
  l8 := fun hk => h.l8 ((listed_set hk).resolve_left (by decide))
theorem InvO.step1 (h : InvO w0 A F n c m d W E s3 s4 s5 s6 s7 s8 s9 s10 s11 l w) (hun : l.getD 1 true = false) {z : Value} (hz : z = .pointer (some ⟨w0.heap.size, 0, none⟩)) : InvO w0 A F n c m d W E s3 z s5 s6 s7 s8 s9 s10 s11 (l.setIfInBounds 1 true) w where
  size := by rw [Array.size_setIfInBounds]; exact h.size
  bel := h.bel
  cell := by
    obtain ⟨x, y, hc, hh⟩ := h.cell
    exact ⟨x, y, hc, fun hk => hh ((listed_set hk).resolve_left (by decide))⟩
  c8 := fun hk => ⟨listed_keep (h.c8 ((listed_set hk).resolve_left (by decide))).1, listed_keep (h.c8 ((listed_set hk).resolve_left (by decide))).2⟩
  c9 := fun hk => ⟨listed_keep (h.c9 ((listed_set hk).resolve_left (by decide))).1, listed_keep (h.c9 ((listed_set hk).resolve_left (by decide))).2⟩
  l0 := fun hk => h.l0 ((listed_set hk).resolve_left (by decide))
  l1 := fun _ => hz
  l2 := fun hk => h.l2 ((listed_set hk).resolve_left (by decide))
  l3 := fun hk => h.l3 ((listed_set hk).resolve_left (by decide))
  l4 := fun hk => h.l4 ((listed_set hk).resolve_left (by decide))
  l5 := fun hk => h.l5 ((listed_set hk).resolve_left (by decide))
  l6 := fun hk => h.l6 ((listed_set hk).resolve_left (by decide))
  l7 := fun hk => h.l7 ((listed_set hk).resolve_left (by decide))
  l8 := fun hk => h.l8 ((listed_set hk).resolve_left (by decide))
theorem InvO.step2 (h : InvO w0 A F n c m d W E s3 s4 s5 s6 s7 s8 s9 s10 s11 l w) (hun : l.getD 2 true = false) {z : Value} (hz : z = .slice A n c) : InvO w0 A F n c m d W E s3 s4 z s6 s7 s8 s9 s10 s11 (l.setIfInBounds 2 true) w where
  size := by rw [Array.size_setIfInBounds]; exact h.size
  bel := h.bel
  cell := by
    obtain ⟨x, y, hc, hh⟩ := h.cell
    exact ⟨x, y, hc, fun hk => hh ((listed_set hk).resolve_left (by decide))⟩
  c8 := fun hk => ⟨listed_keep (h.c8 ((listed_set hk).resolve_left (by decide))).1, listed_keep (h.c8 ((listed_set hk).resolve_left (by decide))).2⟩
  c9 := fun hk => ⟨listed_keep (h.c9 ((listed_set hk).resolve_left (by decide))).1, listed_keep (h.c9 ((listed_set hk).resolve_left (by decide))).2⟩
  l0 := fun hk => h.l0 ((listed_set hk).resolve_left (by decide))
  l1 := fun hk => h.l1 ((listed_set hk).resolve_left (by decide))
  l2 := fun _ => hz
  l3 := fun hk => h.l3 ((listed_set hk).resolve_left (by decide))
  l4 := fun hk => h.l4 ((listed_set hk).resolve_left (by decide))
  l5 := fun hk => h.l5 ((listed_set hk).resolve_left (by decide))
  l6 := fun hk => h.l6 ((listed_set hk).resolve_left (by decide))
  l7 := fun hk => h.l7 ((listed_set hk).resolve_left (by decide))
  l8 := fun hk => h.l8 ((listed_set hk).resolve_left (by decide))
theorem InvO.step3 (h : InvO w0 A F n c m d W E s3 s4 s5 s6 s7 s8 s9 s10 s11 l w) (hun : l.getD 3 true = false) {z : Value} (hz : OwnI w (w0.heap.size + 2) z W) : InvO w0 A F n c m d W E s3 s4 s5 z s7 s8 s9 s10 s11 (l.setIfInBounds 3 true) w where
  size := by rw [Array.size_setIfInBounds]; exact h.size
  bel := h.bel
  cell := by
    obtain ⟨x, y, hc, hh⟩ := h.cell
    exact ⟨x, y, hc, fun hk => (un_false hun (h.c9 ((listed_set hk).resolve_left (by decide))).1).elim⟩
  c8 := fun hk => ⟨listed_keep (h.c8 ((listed_set hk).resolve_left (by decide))).1, listed_keep (h.c8 ((listed_set hk).resolve_left (by decide))).2⟩
  c9 := fun hk => ⟨listed_keep (h.c9 ((listed_set hk).resolve_left (by decide))).1, listed_keep (h.c9 ((listed_set hk).resolve_left (by decide))).2⟩
  l0 := fun hk => h.l0 ((listed_set hk).resolve_left (by decide))
  l1 := fun hk => h.l1 ((listed_set hk).resolve_left (by decide))
  l2 := fun hk => h.l2 ((listed_set hk).resolve_left (by decide))
  l3 := fun _ => hz
  l4 := fun hk => h.l4 ((listed_set hk).resolve_left (by decide))
  l5 := fun hk => h.l5 ((listed_set hk).resolve_left (by decide))
  l6 := fun hk => h.l6 ((listed_set hk).resolve_left (by decide))
  l7 := fun hk => h.l7 ((listed_set hk).resolve_left (by decide))
  l8 := fun hk => (un_false hun (h.c8 ((listed_set hk).resolve_left (by decide))).1).elim
theorem InvO.step4 (h : InvO w0 A F n c m d W E s3 s4 s5 s6 s7 s8 s9 s10 s11 l w) (hun : l.getD 4 true = false) {z : Value} (hz : ∃ g, z = .slice (some ⟨g, 0, none⟩) 0 0 ∧ w.heap[g]? = some (.cells #[] 69 (0, 0)) ∧ w0.heap.size + 2 ≤ g) : InvO w0 A F n c m d W E s3 s4 s5 s6 z s8 s9 s10 s11 (l.setIfInBounds 4 true) w where
  size := by rw [Array.size_setIfInBounds]; exact h.size
  bel := h.bel
  cell := by
    obtain ⟨x, y, hc, hh⟩ := h.cell
    exact ⟨x, y, hc, fun hk => hh ((listed_set hk).resolve_left (by decide))⟩
  c8 := fun hk => ⟨listed_keep (h.c8 ((listed_set hk).resolve_left (by decide))).1, listed_keep (h.c8 ((listed_set hk).resolve_left (by decide))).2⟩
  c9 := fun hk => ⟨listed_keep (h.c9 ((listed_set hk).resolve_left (by decide))).1, listed_keep (h.c9 ((listed_set hk).resolve_left (by decide))).2⟩
  l0 := fun hk => h.l0 ((listed_set hk).resolve_left (by decide))
  l1 := fun hk => h.l1 ((listed_set hk).resolve_left (by decide))
  l2 := fun hk => h.l2 ((listed_set hk).resolve_left (by decide))
  l3 := fun hk => h.l3 ((listed_set hk).resolve_left (by decide))
  l4 := fun _ => hz
  l5 := fun hk => h.l5 ((listed_set hk).resolve_left (by decide))
  l6 := fun hk => h.l6 ((listed_set hk).resolve_left (by decide))
  l7 := fun hk => h.l7 ((listed_set hk).resolve_left (by decide))
  l8 := fun hk => h.l8 ((listed_set hk).resolve_left (by decide))
theorem InvO.step5 (h : InvO w0 A F n c m d W E s3 s4 s5 s6 s7 s8 s9 s10 s11 l w) (hun : l.getD 5 true = false) {z : Value} (hz : z = .pointer (some ⟨w0.heap.size, 1, none⟩)) : InvO w0 A F n c m d W E s3 s4 s5 s6 s7 z s9 s10 s11 (l.setIfInBounds 5 true) w where
  size := by rw [Array.size_setIfInBounds]; exact h.size
  bel := h.bel
  cell := by
    obtain ⟨x, y, hc, hh⟩ := h.cell
    exact ⟨x, y, hc, fun hk => hh ((listed_set hk).resolve_left (by decide))⟩
  c8 := fun hk => ⟨listed_keep (h.c8 ((listed_set hk).resolve_left (by decide))).1, listed_keep (h.c8 ((listed_set hk).resolve_left (by decide))).2⟩
  c9 := fun hk => ⟨listed_keep (h.c9 ((listed_set hk).resolve_left (by decide))).1, listed_keep (h.c9 ((listed_set hk).resolve_left (by decide))).2⟩
  l0 := fun hk => h.l0 ((listed_set hk).resolve_left (by decide))
  l1 := fun hk => h.l1 ((listed_set hk).resolve_left (by decide))
  l2 := fun hk => h.l2 ((listed_set hk).resolve_left (by decide))
  l3 := fun hk => h.l3 ((listed_set hk).resolve_left (by decide))
  l4 := fun hk => h.l4 ((listed_set hk).resolve_left (by decide))
  l5 := fun _ => hz
  l6 := fun hk => h.l6 ((listed_set hk).resolve_left (by decide))
  l7 := fun hk => h.l7 ((listed_set hk).resolve_left (by decide))
  l8 := fun hk => h.l8 ((listed_set hk).resolve_left (by decide))
theorem InvO.step6 (h : InvO w0 A F n c m d W E s3 s4 s5 s6 s7 s8 s9 s10 s11 l w) (hun : l.getD 6 true = false) {z : Value} (hz : z = .slice F m d) : InvO w0 A F n c m d W E s3 s4 s5 s6 s7 s8 z s10 s11 (l.setIfInBounds 6 true) w where
  size := by rw [Array.size_setIfInBounds]; exact h.size
  bel := h.bel
  cell := by
    obtain ⟨x, y, hc, hh⟩ := h.cell
    exact ⟨x, y, hc, fun hk => hh ((listed_set hk).resolve_left (by decide))⟩
  c8 := fun hk => ⟨listed_keep (h.c8 ((listed_set hk).resolve_left (by decide))).1, listed_keep (h.c8 ((listed_set hk).resolve_left (by decide))).2⟩
  c9 := fun hk => ⟨listed_keep (h.c9 ((listed_set hk).resolve_left (by decide))).1, listed_keep (h.c9 ((listed_set hk).resolve_left (by decide))).2⟩
  l0 := fun hk => h.l0 ((listed_set hk).resolve_left (by decide))
  l1 := fun hk => h.l1 ((listed_set hk).resolve_left (by decide))
  l2 := fun hk => h.l2 ((listed_set hk).resolve_left (by decide))
  l3 := fun hk => h.l3 ((listed_set hk).resolve_left (by decide))
  l4 := fun hk => h.l4 ((listed_set hk).resolve_left (by decide))
  l5 := fun hk => h.l5 ((listed_set hk).resolve_left (by decide))
  l6 := fun _ => hz
  l7 := fun hk => h.l7 ((listed_set hk).resolve_left (by decide))
  l8 := fun hk => h.l8 ((listed_set hk).resolve_left (by decide))
theorem InvO.step7 (h : InvO w0 A F n c m d W E s3 s4 s5 s6 s7 s8 s9 s10 s11 l w) (hun : l.getD 7 true = false) {z : Value} (hz : OwnE w (w0.heap.size + 2) z E) : InvO w0 A F n c m d W E s3 s4 s5 s6 s7 s8 s9 z s11 (l.setIfInBounds 7 true) w where
  size := by rw [Array.size_setIfInBounds]; exact h.size
  bel := h.bel
  cell := by
    obtain ⟨x, y, hc, hh⟩ := h.cell
    exact ⟨x, y, hc, fun hk => (un_false hun (h.c9 ((listed_set hk).resolve_left (by decide))).2).elim⟩
  c8 := fun hk => ⟨listed_keep (h.c8 ((listed_set hk).resolve_left (by decide))).1, listed_keep (h.c8 ((listed_set hk).resolve_left (by decide))).2⟩
  c9 := fun hk => ⟨listed_keep (h.c9 ((listed_set hk).resolve_left (by decide))).1, listed_keep (h.c9 ((listed_set hk).resolve_left (by decide))).2⟩
  l0 := fun hk => h.l0 ((listed_set hk).resolve_left (by decide))
  l1 := fun hk => h.l1 ((listed_set hk).resolve_left (by decide))
  l2 := fun hk => h.l2 ((listed_set hk).resolve_left (by decide))
  l3 := fun hk => h.l3 ((listed_set hk).resolve_left (by decide))
  l4 := fun hk => h.l4 ((listed_set hk).resolve_left (by decide))
  l5 := fun hk => h.l5 ((listed_set hk).resolve_left (by decide))
  l6 := fun hk => h.l6 ((listed_set hk).resolve_left (by decide))
  l7 := fun _ => hz
  l8 := fun hk => (un_false hun (h.c8 ((listed_set hk).resolve_left (by decide))).2).elim
theorem InvO.step8 (h : InvO w0 A F n c m d W E s3 s4 s5 s6 s7 s8 s9 s10 s11 l w) (hun : l.getD 8 true = false) (hp : l.getD 3 false = true ∧ l.getD 7 false = true) {z : Value} (hz : z = .agg #[s6, s10]) : InvO w0 A F n c m d W E s3 s4 s5 s6 s7 s8 s9 s10 z (l.setIfInBounds 8 true) w where
  size := by rw [Array.size_setIfInBounds]; exact h.size
  bel := h.bel
  cell := by
    obtain ⟨x, y, hc, hh⟩ := h.cell
    exact ⟨x, y, hc, fun hk => hh ((listed_set hk).resolve_left (by decide))⟩
  c8 := fun _ => ⟨listed_keep hp.1, listed_keep hp.2⟩
  c9 := fun hk => ⟨listed_keep (h.c9 ((listed_set hk).resolve_left (by decide))).1, listed_keep (h.c9 ((listed_set hk).resolve_left (by decide))).2⟩
  l0 := fun hk => h.l0 ((listed_set hk).resolve_left (by decide))
  l1 := fun hk => h.l1 ((listed_set hk).resolve_left (by decide))
  l2 := fun hk => h.l2 ((listed_set hk).resolve_left (by decide))
  l3 := fun hk => h.l3 ((listed_set hk).resolve_left (by decide))
  l4 := fun hk => h.l4 ((listed_set hk).resolve_left (by decide))
  l5 := fun hk => h.l5 ((listed_set hk).resolve_left (by decide))
  l6 := fun hk => h.l6 ((listed_set hk).resolve_left (by decide))
  l7 := fun hk => h.l7 ((listed_set hk).resolve_left (by decide))
  l8 := fun _ => hz
theorem own_from {base : Nat} {e : TypeId} {s k : Nat} {v : Value} {xs : List Value} (h : w.ownsRow base e s v k xs) (hk : ∀ g, base ≤ g → w'.heap[g]? = w.heap[g]?) : w'.ownsRow base e s v k xs := by
  refine ⟨h.1, ?_⟩
  rcases h.2 with hn | ⟨g, cap, cur, rfl, hg, hgg, rest⟩
  · exact .inl hn
  · exact .inr ⟨g, cap, cur, rfl, hg, by rw [hk g hg]; exact hgg, rest⟩
theorem InvO.step9 (h : InvO w0 A F n c m d W E s3 s4 s5 s6 s7 s8 s9 s10 s11 l w) (hun : l.getD 9 true = false) (hp : l.getD 3 false = true ∧ l.getD 7 false = true) :
    InvO w0 A F n c m d W E s3 s4 s5 s6 s7 s8 s9 s10 s11 (l.setIfInBounds 9 true) ((w.setCell ⟨w0.heap.size + 1, 0, none⟩ s6).setCell ⟨w0.heap.size + 1, 1, none⟩ s10) := by
  obtain ⟨x, y, hc, _⟩ := h.cell
  have hk : ∀ g, w0.heap.size + 2 ≤ g → ((w.setCell ⟨w0.heap.size + 1, 0, none⟩ s6).setCell ⟨w0.heap.size + 1, 1, none⟩ s10).heap[g]? = w.heap[g]? := fun g hg => by
    rw [Below.heap_setCell _ _ _ _ (by show g ≠ w0.heap.size + 1; omega), Below.heap_setCell _ _ _ _ (by show g ≠ w0.heap.size + 1; omega)]
  have h1 := heap_setCell_same w (w0.heap.size + 1) 0 _ _ s6 hc
  have h2 := heap_setCell_same _ (w0.heap.size + 1) 1 _ _ s10 h1
  exact {
    size := by rw [Array.size_setIfInBounds]; exact h.size
    bel := (h.bel.setCell (Nat.le_refl _) _).setCell (Nat.le_refl _) _
    cell := ⟨s6, s10, h2, fun _ => ⟨rfl, rfl⟩⟩
    c8 := fun hk => ⟨listed_keep hp.1, listed_keep hp.2⟩
    c9 := fun _ => ⟨listed_keep hp.1, listed_keep hp.2⟩
    l0 := fun hk' => by
      obtain ⟨g, e, hg, hl⟩ := h.l0 ((listed_set hk').resolve_left (by decide))
      exact ⟨g, e, by rw [hk g hl]; exact hg, hl⟩
    l1 := fun hk => h.l1 ((listed_set hk).resolve_left (by decide))
    l2 := fun hk => h.l2 ((listed_set hk).resolve_left (by decide))
    l3 := fun _ => own_from (h.l3 hp.1) hk
    l4 := fun hk' => by
      obtain ⟨g, e, hg, hl⟩ := h.l4 ((listed_set hk').resolve_left (by decide))
      exact ⟨g, e, by rw [hk g hl]; exact hg, hl⟩
    l5 := fun hk => h.l5 ((listed_set hk).resolve_left (by decide))
    l6 := fun hk => h.l6 ((listed_set hk).resolve_left (by decide))
    l7 := fun _ => own_from (h.l7 hp.2) hk
    l8 := fun hk => h.l8 ((listed_set hk).resolve_left (by decide)) }
theorem un_start {k : Nat} (h : (Array.replicate 10 false).getD k false = true) : False := by
  rcases Nat.lt_or_ge k 10 with h1 | h1
  · simp [h1] at h
  · simp [Array.getElem?_eq_none (show (Array.replicate 10 false).size ≤ k by simpa using h1)] at h
end

end Go.Proofs.YtmelgolnmnebpaaGreatDoor
