/- The contract of Own of trefoillaw04 in the seat YtjmledfmiljoiaaGreatDoor: a graph of its own memory. (Written by wip/dag/mk_own.py.)
   What the walks of layer 4's laws ask of the program's functions, in the seat YtjmledfmiljoiaaGreatDoor (proved elsewhere), and the contract of awake of trefoillaw04.
   dag.read in the seat YtjmledfmiljoiaaGreatDoor: its contracts.
   dag.Check, Order, Preds, Succs and Before in the seat YtjmledfmiljoiaaGreatDoor: their contracts.
   dag.Succs and dag.Before in the seat YtjmledfmiljoiaaGreatDoor: their contracts.
   dag.Before in the seat YtjmledfmiljoiaaGreatDoor: its contract.
   No statement is proved here. -/
import Derived.Test.YtjmledfmiljoiaaGreatDoorZM2
import Derived.Test.YtjmledfmiljoiaaGreatDoorZM3
import Derived.Test.YtjmledfmiljoiaaGreatDoorZM18
import Derived.Test.YtjmledfmiljoiaaGreatDoorZM1
import Derived.Laws.ResultCell
set_option linter.unusedSimpArgs false
set_option linter.unusedVariables false
namespace Go.Proofs.YtjmledfmiljoiaaGreatDoor
open Go.RowKit

/-- A graph handed out, in memory of the call's own. -/
def GotGr (W : List Int) (E : List (Int × Int)) (w : World) (e : Ending) (w' : World) : Prop :=
  ∃ u v, e = .returned (.agg #[u, v]) ∧ OwnI w' w.heap.size u W ∧ OwnE w' w.heap.size v E ∧ Below w.heap.size w w'
structure InvO (w0 : World) (A F : Option Addr) (n c m d : Nat) (W : List Int) (E : List (Int × Int)) (s3 s4 s5 s6 s7 s8 s9 s10 s11 : Value) (l : Array Bool) (w : World) : Prop where
  size : l.size = 10
  bel : Below (w0.heap.size + 1) (w0.alloc (.cells #[.slice A n c, .slice F m d] 62)) w
  cell : ∃ x y, w.heap[w0.heap.size + 1]? = some (.cells #[x, y] 62 (0, 0)) ∧ (l.getD 9 false = true → x = s6 ∧ y = s10)
  c8 : l.getD 8 false = true → l.getD 3 false = true ∧ l.getD 7 false = true
  c9 : l.getD 9 false = true → l.getD 3 false = true ∧ l.getD 7 false = true
  l0 : l.getD 0 false = true → ∃ g, s3 = .slice (some ⟨g, 0, none⟩) 0 0 ∧ w.heap[g]? = some (.cells #[] 3 (0, 0)) ∧ w0.heap.size + 2 ≤ g
  l1 : l.getD 1 false = true → s4 = .pointer (some ⟨w0.heap.size, 0, none⟩)
  l2 : l.getD 2 false = true → s5 = .slice A n c
  l3 : l.getD 3 false = true → OwnI w (w0.heap.size + 2) s6 W
  l4 : l.getD 4 false = true → ∃ g, s7 = .slice (some ⟨g, 0, none⟩) 0 0 ∧ w.heap[g]? = some (.cells #[] 86 (0, 0)) ∧ w0.heap.size + 2 ≤ g
  l5 : l.getD 5 false = true → s8 = .pointer (some ⟨w0.heap.size, 1, none⟩)
  l6 : l.getD 6 false = true → s9 = .slice F m d
  l7 : l.getD 7 false = true → OwnE w (w0.heap.size + 2) s10 E
  l8 : l.getD 8 false = true → s11 = .agg #[s6, s10]
theorem listed_keep {l : Array Bool} {i k : Nat} (h : l.getD k false = true) : (l.setIfInBounds i true).getD k false = true := getD_set_true h
theorem un_false {l : Array Bool} {i : Nat} (h : l.getD i true = false) (k : l.getD i false = true) : False := by
  rcases Nat.lt_or_ge i l.size with h' | h'
  · simp [h'] at h k; rw [h] at k; cases k
  · simp [Array.getElem?_eq_none h'] at k
section
variable {w0 : World} {A F : Option Addr} {n c m d : Nat} {W : List Int} {E : List (Int × Int)} {s3 s4 s5 s6 s7 s8 s9 s10 s11 : Value} {l : Array Bool} {w w' : World}
theorem InvO.lt (h : InvO w0 A F n c m d W E s3 s4 s5 s6 s7 s8 s9 s10 s11 l w) : w0.heap.size + 2 ≤ w.heap.size := by
  obtain ⟨x, y, hc, _⟩ := h.cell
  have := (Array.getElem?_eq_some_iff.1 hc).1
  omega
/-- New blocks turn nothing. -/
theorem InvO.mono (h : InvO w0 A F n c m d W E s3 s4 s5 s6 s7 s8 s9 s10 s11 l w) (hb : Below w.heap.size w w') : InvO w0 A F n c m d W E s3 s4 s5 s6 s7 s8 s9 s10 s11 l w' := by
  have hlt := h.lt
  refine { h with bel := h.bel.trans (hb.mono (by omega)), cell := ?_, l0 := ?_, l3 := fun hk => (h.l3 hk).below hb, l4 := ?_, l7 := fun hk => (h.l7 hk).below hb }
  · obtain ⟨x, y, hc, hh⟩ := h.cell
    exact ⟨x, y, by rw [hb.block _ (by omega)]; exact hc, hh⟩
  · intro hk
    obtain ⟨g, e, hg, hl⟩ := h.l0 hk
    exact ⟨g, e, by rw [hb.block _ (Array.getElem?_eq_some_iff.1 hg).1]; exact hg, hl⟩
  · intro hk
    obtain ⟨g, e, hg, hl⟩ := h.l4 hk
    exact ⟨g, e, by rw [hb.block _ (Array.getElem?_eq_some_iff.1 hg).1]; exact hg, hl⟩
theorem InvO.step0 (h : InvO w0 A F n c m d W E s3 s4 s5 s6 s7 s8 s9 s10 s11 l w) (hun : l.getD 0 true = false) {z : Value} (hz : ∃ g, z = .slice (some ⟨g, 0, none⟩) 0 0 ∧ w.heap[g]? = some (.cells #[] 3 (0, 0)) ∧ w0.heap.size + 2 ≤ g) : InvO w0 A F n c m d W E z s4 s5 s6 s7 s8 s9 s10 s11 (l.setIfInBounds 0 true) w where
  size := by rw [Array.size_setIfInBounds]; exact h.size
  bel := h.bel
  cell := by
    obtain ⟨x, y, hc, hh⟩ := h.cell
    exact ⟨x, y, hc, fun hk => hh ((listed_set hk).resolve_left (by decide))⟩
  c8 := fun hk => ⟨listed_keep (h.c8 ((listed_set hk).resolve_left (by decide))).1, listed_keep (h.c8 ((listed_set hk).resolve_left (by decide))).2⟩
  c9 := fun hk => ⟨listed_keep (h.c9 ((listed_set hk).resolve_left (by decide))).1, listed_keep (h.c9 ((listed_set hk).resolve_left (by decide))).2⟩
  l0 := fun _ => hz
  l1 := fun hk => h.l1 ((listed_set hk).resolve_left (by decide))
  l2 := fun hk => h.l2 ((listed_set hk).resolve_left (by decide))
  l3 := fun hk => h.l3 ((listed_set hk).resolve_left (by decide))
  l4 := fun hk => h.l4 ((listed_set hk).resolve_left (by decide))
  l5 := fun hk => h.l5 ((listed_set hk).resolve_left (by decide))
  l6 := fun hk => h.l6 ((listed_set hk).resolve_left (by decide))
  l7 := fun hk => h.l7 ((listed_set hk).resolve_left (by decide))
  l8 := fun hk => h.l8 ((listed_set hk).resolve_left (by decide))
theorem InvO.step1 (h : InvO w0 A F n c m d W E s3 s4 s5 s6 s7 s8 s9 s10 s11 l w) (hun : l.getD 1 true = false) {z : Value} (hz : z = .pointer (some ⟨w0.heap.size, 0, none⟩)) : InvO w0 A F n c m d W E s3 z s5 s6 s7 s8 s9 s10 s11 (l.setIfInBounds 1 true) w where
  size := by rw [Array.size_setIfInBounds]; exact h.size
  bel := h.bel
  cell := by
    obtain ⟨x, y, hc, hh⟩ := h.cell
    exact ⟨x, y, hc, fun hk => hh ((listed_set hk).resolve_left (by decide))⟩
  c8 := fun hk => ⟨listed_keep (h.c8 ((listed_set hk).resolve_left (by decide))).1, listed_keep (h.c8 ((listed_set hk).resolve_left (by decide))).2⟩
  c9 := fun hk => ⟨listed_keep (h.c9 ((listed_set hk).resolve_left (by decide))).1, listed_keep (h.c9 ((listed_set hk).resolve_left (by decide))).2⟩
  l0 := fun hk => h.l0 ((listed_set hk).resolve_left (by decide))
  l1 := fun _ => hz
  l2 := fun hk => h.l2 ((listed_set hk).resolve_left (by decide))
  l3 := fun hk => h.l3 ((listed_set hk).resolve_left (by decide))
  l4 := fun hk => h.l4 ((listed_set hk).resolve_left (by decide))
  l5 := fun hk => h.l5 ((listed_set hk).resolve_left (by decide))
  l6 := fun hk => h.l6 ((listed_set hk).resolve_left (by decide))
  l7 := fun hk => h.l7 ((listed_set hk).resolve_left (by decide))
  l8 := fun hk => h.l8 ((listed_set hk).resolve_left (by decide))
theorem InvO.step2 (h : InvO w0 A F n c m d W E s3 s4 s5 s6 s7 s8 s9 s10 s11 l w) (hun : l.getD 2 true = false) {z : Value} (hz : z = .slice A n c) : InvO w0 A F n c m d W E s3 s4 z s6 s7 s8 s9 s10 s11 (l.setIfInBounds 2 true) w where
  size := by rw [Array.size_setIfInBounds]; exact h.size
  bel := h.bel
  cell := by
    obtain ⟨x, y, hc, hh⟩ := h.cell
    exact ⟨x, y, hc, fun hk => hh ((listed_set hk).resolve_left (by decide))⟩
  c8 := fun hk => ⟨listed_keep (h.c8 ((listed_set hk).resolve_left (by decide))).1, listed_keep (h.c8 ((listed_set hk).resolve_left (by decide))).2⟩
  c9 := fun hk => ⟨listed_keep (h.c9 ((listed_set hk).resolve_left (by decide))).1, listed_keep (h.c9 ((listed_set hk).resolve_left (by decide))).2⟩
  l0 := fun hk => h.l0 ((listed_set hk).resolve_left (by decide))
  l1 := fun hk => h.l1 ((listed_set hk).resolve_left (by decide))
  l2 := fun _ => hz
  l3 := fun hk => h.l3 ((listed_set hk).resolve_left (by decide))
  l4 := fun hk => h.l4 ((listed_set hk).resolve_left (by decide))
  l5 := fun hk => h.l5 ((listed_set hk).resolve_left (by decide))
  l6 := fun hk => h.l6 ((listed_set hk).resolve_left (by decide))
  l7 := fun hk => h.l7 ((listed_set hk).resolve_left (by decide))
  l8 := fun hk => h.l8 ((listed_set hk).resolve_left (by decide))
theorem InvO.step3 (h : InvO w0 A F n c m d W E s3 s4 s5 s6 s7 s8 s9 s10 s11 l w) (hun : l.getD 3 true = false) {z : Value} (hz : OwnI w (w0.heap.size + 2) z W) : InvO w0 A F n c m d W E s3 s4 s5 z s7 s8 s9 s10 s11 (l.setIfInBounds 3 true) w where
  size := by rw [Array.size_setIfInBounds]; exact h.size
  bel := h.bel
  cell := by
    obtain ⟨x, y, hc, hh⟩ := h.cell
    exact ⟨x, y, hc, fun hk => (un_false hun (h.c9 ((listed_set hk).resolve_left (by decide))).1).elim⟩
  c8 := fun hk => ⟨listed_keep (h.c8 ((listed_set hk).resolve_left (by decide))).1, listed_keep (h.c8 ((listed_set hk).resolve_left (by decide))).2⟩
  c9 := fun hk => ⟨listed_keep (h.c9 ((listed_set hk).resolve_left (by decide))).1, listed_keep (h.c9 ((listed_set hk).resolve_left (by decide))).2⟩
  l0 := fun hk => h.l0 ((listed_set hk).resolve_left (by decide))
  l1 := fun hk => h.l1 ((listed_set hk).resolve_left (by decide))
  l2 := fun hk => h.l2 ((listed_set hk).resolve_left (by decide))
  l3 := fun _ => hz
  l4 := fun hk => h.l4 ((listed_set hk).resolve_left (by decide))
  l5 := fun hk => h.l5 ((listed_set hk).resolve_left (by decide))
  l6 := fun hk => h.l6 ((listed_set hk).resolve_left (by decide))
  l7 := fun hk => h.l7 ((listed_set hk).resolve_left (by decide))
  l8 := fun hk => (un_false hun (h.c8 ((listed_set hk).resolve_left (by decide))).1).elim
theorem InvO.step4 (h : InvO w0 A F n c m d W E s3 s4 s5 s6 s7 s8 s9 s10 s11 l w) (hun : l.getD 4 true = false) {z : Value} (hz : ∃ g, z = .slice (some ⟨g, 0, none⟩) 0 0 ∧ w.heap[g]? = some (.cells #[] 86 (0, 0)) ∧ w0.heap.size + 2 ≤ g) : InvO w0 A F n c m d W E s3 s4 s5 s6 z s8 s9 s10 s11 (l.setIfInBounds 4 true) w where
  size := by rw [Array.size_setIfInBounds]; exact h.size
  bel := h.bel
  cell := by
    obtain ⟨x, y, hc, hh⟩ := h.cell
    exact ⟨x, y, hc, fun hk => hh ((listed_set hk).resolve_left (by decide))⟩
  c8 := fun hk => ⟨listed_keep (h.c8 ((listed_set hk).resolve_left (by decide))).1, listed_keep (h.c8 ((listed_set hk).resolve_left (by decide))).2⟩
  c9 := fun hk => ⟨listed_keep (h.c9 ((listed_set hk).resolve_left (by decide))).1, listed_keep (h.c9 ((listed_set hk).resolve_left (by decide))).2⟩
  l0 := fun hk => h.l0 ((listed_set hk).resolve_left (by decide))
  l1 := fun hk => h.l1 ((listed_set hk).resolve_left (by decide))
  l2 := fun hk => h.l2 ((listed_set hk).resolve_left (by decide))
  l3 := fun hk => h.l3 ((listed_set hk).resolve_left (by decide))
  l4 := fun _ => hz
  l5 := fun hk => h.l5 ((listed_set hk).resolve_left (by decide))
  l6 := fun hk => h.l6 ((listed_set hk).resolve_left (by decide))
  l7 := fun hk => h.l7 ((listed_set hk).resolve_left (by decide))
  l8 := fun hk => h.l8 ((listed_set hk).resolve_left (by decide))
theorem InvO.step5 (h : InvO w0 A F n c m d W E s3 s4 s5 s6 s7 s8 s9 s10 s11 l w) (hun : l.getD 5 true = false) {z : Value} (hz : z = .pointer (some ⟨w0.heap.size, 1, none⟩)) : InvO w0 A F n c m d W E s3 s4 s5 s6 s7 z s9 s10 s11 (l.setIfInBounds 5 true) w where
  size := by rw [Array.size_setIfInBounds]; exact h.size
  bel := h.bel
  cell := by
    obtain ⟨x, y, hc, hh⟩ := h.cell
    exact ⟨x, y, hc, fun hk => hh ((listed_set hk).resolve_left (by decide))⟩
  c8 := fun hk => ⟨listed_keep (h.c8 ((listed_set hk).resolve_left (by decide))).1, listed_keep (h.c8 ((listed_set hk).resolve_left (by decide))).2⟩
  c9 := fun hk => ⟨listed_keep (h.c9 ((listed_set hk).resolve_left (by decide))).1, listed_keep (h.c9 ((listed_set hk).resolve_left (by decide))).2⟩
  l0 := fun hk => h.l0 ((listed_set hk).resolve_left (by decide))
  l1 := fun hk => h.l1 ((listed_set hk).resolve_left (by decide))
  l2 := fun hk => h.l2 ((listed_set hk).resolve_left (by decide))
  l3 := fun hk => h.l3 ((listed_set hk).resolve_left (by decide))
  l4 := fun hk => h.l4 ((listed_set hk).resolve_left (by decide))
  l5 := fun _ => hz
  l6 := fun hk => h.l6 ((listed_set hk).resolve_left (by decide))
  l7 := fun hk => h.l7 ((listed_set hk).resolve_left (by decide))
  l8 := fun hk => h.l8 ((listed_set hk).resolve_left (by decide))
theorem InvO.step6 (h : InvO w0 A F n c m d W E s3 s4 s5 s6 s7 s8 s9 s10 s11 l w) (hun : l.getD 6 true = false) {z : Value} (hz : z = .slice F m d) : InvO w0 A F n c m d W E s3 s4 s5 s6 s7 s8 z s10 s11 (l.setIfInBounds 6 true) w where
  size := by rw [Array.size_setIfInBounds]; exact h.size
  bel := h.bel
  cell := by
    obtain ⟨x, y, hc, hh⟩ := h.cell
    exact ⟨x, y, hc, fun hk => hh ((listed_set hk).resolve_left (by decide))⟩
  c8 := fun hk => ⟨listed_keep (h.c8 ((listed_set hk).resolve_left (by decide))).1, listed_keep (h.c8 ((listed_set hk).resolve_left (by decide))).2⟩
  c9 := fun hk => ⟨listed_keep (h.c9 ((listed_set hk).resolve_left (by decide))).1, listed_keep (h.c9 ((listed_set hk).resolve_left (by decide))).2⟩
  l0 := fun hk => h.l0 ((listed_set hk).resolve_left (by decide))
  l1 := fun hk => h.l1 ((listed_set hk).resolve_left (by decide))
  l2 := fun hk => h.l2 ((listed_set hk).resolve_left (by decide))
  l3 := fun hk => h.l3 ((listed_set hk).resolve_left (by decide))
  l4 := fun hk => h.l4 ((listed_set hk).resolve_left (by decide))
  l5 := fun hk => h.l5 ((listed_set hk).resolve_left (by decide))
  l6 := fun _ => hz
  l7 := fun hk => h.l7 ((listed_set hk).resolve_left (by decide))
  l8 := fun hk => h.l8 ((listed_set hk).resolve_left (by decide))
theorem InvO.step7 (h : InvO w0 A F n c m d W E s3 s4 s5 s6 s7 s8 s9 s10 s11 l w) (hun : l.getD 7 true = false) {z : Value} (hz : OwnE w (w0.heap.size + 2) z E) : InvO w0 A F n c m d W E s3 s4 s5 s6 s7 s8 s9 z s11 (l.setIfInBounds 7 true) w where
  size := by rw [Array.size_setIfInBounds]; exact h.size
  bel := h.bel
  cell := by
    obtain ⟨x, y, hc, hh⟩ := h.cell
    exact ⟨x, y, hc, fun hk => (un_false hun (h.c9 ((listed_set hk).resolve_left (by decide))).2).elim⟩
  c8 := fun hk => ⟨listed_keep (h.c8 ((listed_set hk).resolve_left (by decide))).1, listed_keep (h.c8 ((listed_set hk).resolve_left (by decide))).2⟩
  c9 := fun hk => ⟨listed_keep (h.c9 ((listed_set hk).resolve_left (by decide))).1, listed_keep (h.c9 ((listed_set hk).resolve_left (by decide))).2⟩
  l0 := fun hk => h.l0 ((listed_set hk).resolve_left (by decide))
  l1 := fun hk => h.l1 ((listed_set hk).resolve_left (by decide))
  l2 := fun hk => h.l2 ((listed_set hk).resolve_left (by decide))
  l3 := fun hk => h.l3 ((listed_set hk).resolve_left (by decide))
  l4 := fun hk => h.l4 ((listed_set hk).resolve_left (by decide))
  l5 := fun hk => h.l5 ((listed_set hk).resolve_left (by decide))
  l6 := fun hk => h.l6 ((listed_set hk).resolve_left (by decide))
  l7 := fun _ => hz
  l8 := fun hk => (un_false hun (h.c8 ((listed_set hk).resolve_left (by decide))).2).elim
theorem InvO.step8 (h : InvO w0 A F n c m d W E s3 s4 s5 s6 s7 s8 s9 s10 s11 l w) (hun : l.getD 8 true = false) (hp : l.getD 3 false = true ∧ l.getD 7 false = true) {z : Value} (hz : z = .agg #[s6, s10]) : InvO w0 A F n c m d W E s3 s4 s5 s6 s7 s8 s9 s10 z (l.setIfInBounds 8 true) w where
  size := by rw [Array.size_setIfInBounds]; exact h.size
  bel := h.bel
  cell := by
    obtain ⟨x, y, hc, hh⟩ := h.cell
    exact ⟨x, y, hc, fun hk => hh ((listed_set hk).resolve_left (by decide))⟩
  c8 := fun _ => ⟨listed_keep hp.1, listed_keep hp.2⟩
  c9 := fun hk => ⟨listed_keep (h.c9 ((listed_set hk).resolve_left (by decide))).1, listed_keep (h.c9 ((listed_set hk).resolve_left (by decide))).2⟩
  l0 := fun hk => h.l0 ((listed_set hk).resolve_left (by decide))
  l1 := fun hk => h.l1 ((listed_set hk).resolve_left (by decide))
  l2 := fun hk => h.l2 ((listed_set hk).resolve_left (by decide))
  l3 := fun hk => h.l3 ((listed_set hk).resolve_left (by decide))
  l4 := fun hk => h.l4 ((listed_set hk).resolve_left (by decide))
  l5 := fun hk => h.l5 ((listed_set hk).resolve_left (by decide))
  l6 := fun hk => h.l6 ((listed_set hk).resolve_left (by decide))
  l7 := fun hk => h.l7 ((listed_set hk).resolve_left (by decide))
  l8 := fun _ => hz
theorem own_from {base : Nat} {e : TypeId} {s k : Nat} {v : Value} {xs : List Value} (h : w.ownsRow base e s v k xs) (hk : ∀ g, base ≤ g → w'.heap[g]? = w.heap[g]?) : w'.ownsRow base e s v k xs := by
  refine ⟨h.1, ?_⟩
  rcases h.2 with hn | ⟨g, cap, cur, rfl, hg, hgg, rest⟩
  · exact .inl hn
  · exact .inr ⟨g, cap, cur, rfl, hg, by rw [hk g hg]; exact hgg, rest⟩
theorem InvO.step9 (h : InvO w0 A F n c m d W E s3 s4 s5 s6 s7 s8 s9 s10 s11 l w) (hun : l.getD 9 true = false) (hp : l.getD 3 false = true ∧ l.getD 7 false = true) :
    InvO w0 A F n c m d W E s3 s4 s5 s6 s7 s8 s9 s10 s11 (l.setIfInBounds 9 true) ((w.setCell ⟨w0.heap.size + 1, 0, none⟩ s6).setCell ⟨w0.heap.size + 1, 1, none⟩ s10) := by
  obtain ⟨x, y, hc, _⟩ := h.cell
  have hk : ∀ g, w0.heap.size + 2 ≤ g → ((w.setCell ⟨w0.heap.size + 1, 0, none⟩ s6).setCell ⟨w0.heap.size + 1, 1, none⟩ s10).heap[g]? = w.heap[g]? := fun g hg => by
    rw [Below.heap_setCell _ _ _ _ (by show g ≠ w0.heap.size + 1; omega), Below.heap_setCell _ _ _ _ (by show g ≠ w0.heap.size + 1; omega)]
  have h1 := heap_setCell_same w (w0.heap.size + 1) 0 _ _ s6 hc
  have h2 := heap_setCell_same _ (w0.heap.size + 1) 1 _ _ s10 h1
  exact {
    size := by rw [Array.size_setIfInBounds]; exact h.size
    bel := (h.bel.setCell (Nat.le_refl _) _).setCell (Nat.le_refl _) _
    cell := ⟨s6, s10, h2, fun _ => ⟨rfl, rfl⟩⟩
    c8 := fun hk => ⟨listed_keep hp.1, listed_keep hp.2⟩
    c9 := fun _ => ⟨listed_keep hp.1, listed_keep hp.2⟩
    l0 := fun hk' => by
      obtain ⟨g, e, hg, hl⟩ := h.l0 ((listed_set hk').resolve_left (by decide))
      exact ⟨g, e, by rw [hk g hl]; exact hg, hl⟩
    l1 := fun hk => h.l1 ((listed_set hk).resolve_left (by decide))
    l2 := fun hk => h.l2 ((listed_set hk).resolve_left (by decide))
    l3 := fun _ => own_from (h.l3 hp.1) hk
    l4 := fun hk' => by
      obtain ⟨g, e, hg, hl⟩ := h.l4 ((listed_set hk').resolve_left (by decide))
      exact ⟨g, e, by rw [hk g hl]; exact hg, hl⟩
    l5 := fun hk => h.l5 ((listed_set hk).resolve_left (by decide))
    l6 := fun hk => h.l6 ((listed_set hk).resolve_left (by decide))
    l7 := fun _ => own_from (h.l7 hp.2) hk
    l8 := fun hk => h.l8 ((listed_set hk).resolve_left (by decide)) }
theorem un_start {k : Nat} (h : (Array.replicate 10 false).getD k false = true) : False := by
  rcases Nat.lt_or_ge k 10 with h1 | h1
  · simp [h1] at h
  · simp [Array.getElem?_eq_none (show (Array.replicate 10 false).size ≤ k by simpa using h1)] at h
end

end Go.Proofs.YtjmledfmiljoiaaGreatDoor
set_option linter.unusedVariables false
namespace Go.Proofs.YtjmledfmiljoiaaGreatDoor
open Go.RowKit

/-- A graph, as it is handed over: two slices that read as its works and its edges. -/
structure IsG (w : World) (A : Option Addr) (n c : Nat) (F : Option Addr) (m d : Nat) (W : List Int) (E : List (Int × Int)) : Prop where
  hn : W.length = n
  hm : E.length = m
  ln : n ≤ 400
  lm : m ≤ 400
  ints : Ints w w.heap.size A W
  pairs : Pairs w w.heap.size F E
  hA : A = none → n = 0 ∧ c = 0
  hF : F = none → m = 0 ∧ d = 0
  tab : Tab64 w
theorem IsG.below {w w' : World} {A : Option Addr} {n c : Nat} {F : Option Addr} {m d : Nat} {W : List Int} {E : List (Int × Int)} (h : IsG w A n c F m d W E) (hb : Below w.heap.size w w') : IsG w' A n c F m d W E :=
  ⟨h.hn, h.hm, h.ln, h.lm, (h.ints.below hb).more hb.size, (h.pairs.below hb).more hb.size, h.hA, h.hF, h.tab.via hb⟩
theorem OwnI.none_nil {w : World} {b : Nat} {n c : Nat} {zs : List Int} (h : OwnI w b (.slice none n c) zs) : n = 0 ∧ c = 0 := by
  rcases h.2 with ⟨hv, hn⟩ | ⟨g, cap, cur, hv, _⟩
  · injection hv with _ h1 h2
    exact ⟨h1, h2⟩
  · injection hv with h1
    cases h1
theorem OwnE.none_nil {w : World} {b : Nat} {n c : Nat} {es : List (Int × Int)} (h : OwnE w b (.slice none n c) es) : n = 0 ∧ c = 0 := by
  rcases h.2 with ⟨hv, hn⟩ | ⟨g, cap, cur, hv, _⟩
  · injection hv with _ h1 h2
    exact ⟨h1, h2⟩
  · injection hv with h1
    cases h1
theorem own_isG {w : World} {b : Nat} {u v : Value} {W : List Int} {E : List (Int × Int)} (ht : Tab64 w) (hu : OwnI w b u W) (hv : OwnE w b v E) (hW : W.length ≤ 400) (hE : E.length ≤ 400) :
    ∃ A c F d, u = .slice A W.length c ∧ v = .slice F E.length d ∧ IsG w A W.length c F E.length d W E := by
  obtain ⟨A, c, rfl, h1⟩ := hu.slice
  obtain ⟨F, d, rfl, h2⟩ := hv.slice
  refine ⟨A, c, F, d, rfl, rfl, ⟨rfl, rfl, hW, hE, h1, h2, ?_, ?_, ht⟩⟩
  · rintro rfl; exact hu.none_nil
  · rintro rfl; exact hv.none_nil

open Classical in
noncomputable def totalV (W : List Int) (E : List (Int × Int)) : Int := if May W E then W.sum else 0
open Classical in
noncomputable def orderV (W : List Int) (E : List (Int × Int)) : List Int := if May W E then nums (ord W.length E) else []
open Classical in
noncomputable def predsV (W : List Int) (E : List (Int × Int)) (x : Int) : List Int := if May W E then predsL W.length E x else []
open Classical in
noncomputable def succsV (W : List Int) (E : List (Int × Int)) (x : Int) : List Int := if May W E then succsL W.length E x else []
open Classical in
noncomputable def beforeV (W : List Int) (E : List (Int × Int)) (a b : Int) : Bool := if May W E ∧ 0 ≤ a ∧ 0 ≤ b ∧ Way E a.toNat b.toNat then true else false
open Classical in
noncomputable def longV (W : List Int) (E : List (Int × Int)) : Int := if May W E then most (farK W E W.length) else 0

/-! The chapter's example -/
theorem acyc_of {n : Nat} {E : List (Int × Int)} (hF : Fits n E) (h : ∀ a, a < n → (reach n E a).getD a false = false) : Acyc E := fun a ha => by
  have h1 := (reach_iff hF a a).mpr ha
  rw [h a (ha.lt hF).1] at h1
  cases h1
def exW : List Int := [2, 3, 4]
def exE : List (Int × Int) := [(0, 2), (1, 2)]
theorem exFits : Fits 3 exE := by unfold Fits; decide
theorem exMay : May exW exE := ⟨by decide, by decide, by unfold WorkOk; decide, exFits, by decide, by decide, acyc_of exFits (by decide)⟩
theorem exCheck : chkE exW exE = 0 := chkE_zero.mpr exMay
theorem exTotal : totalV exW exE = 9 := by unfold totalV; rw [if_pos exMay]; decide
theorem exLong : longV exW exE = 7 := by unfold longV; rw [if_pos exMay]; decide
theorem exOrder : orderV exW exE = [0, 1, 2] := by unfold orderV; rw [if_pos exMay]; decide
theorem exPreds : predsV exW exE 2 = [0, 1] := by unfold predsV; rw [if_pos exMay]; decide
theorem exSuccs : succsV exW exE 0 = [2] := by unfold succsV; rw [if_pos exMay]; decide
theorem exBefore1 : beforeV exW exE 1 2 = true := by
  unfold beforeV
  rw [if_pos]
  exact ⟨exMay, by decide, by decide, (reach_iff exFits 1 2).mp (by decide)⟩
theorem exBefore0 : beforeV exW exE 0 1 = false := by
  unfold beforeV
  rw [if_neg]
  rintro ⟨_, _, _, h⟩
  have := (reach_iff exFits 0 1).mpr h
  revert this
  decide
def roW : List Int := [1, 1]
def roE : List (Int × Int) := [(0, 1), (1, 0)]
theorem roFits : Fits 2 roE := by unfold Fits; decide
theorem roCheck : chkE roW roE = 43 := by
  refine chkE_round (plainE_zero.mpr ⟨by decide, by unfold WorkOk; decide, roFits, by decide, by decide⟩) (fun h => h 0 ?_)
  exact (reach_iff roFits 0 0).mp (by decide)
end Go.Proofs.YtjmledfmiljoiaaGreatDoor
set_option linter.unusedVariables false
namespace Go.Proofs.YtjmledfmiljoiaaGreatDoor
open Go.RowKit

section
variable {A : Option Addr} {n c : Nat} {F : Option Addr} {m d : Nat} {W : List Int} {E : List (Int × Int)}
/-- A graph that was read: for each node those that it waits for, and the order. -/
structure IsR (w : World) (g n : Nat) (A : Option Addr) (c : Nat) (E : List (Int × Int)) (w' : World) : Prop where
  bel : Below w.heap.size w w'
  ints : Ints w' w'.heap.size A (nums (ord n E))
  row : ∃ ps, RowN g ps w' ∧ PredsOf n E ps
  low : ∀ b o s, A = some ⟨b, o, s⟩ → w.heap.size ≤ b
theorem link_yes (n : Nat) (w : World) (hl : n ≤ 64) (hm : E.length = m) (hk : m ≤ 1000) (hP : Pairs w w.heap.size F E) (h : EdgesOk n E) :
    Calls Tryz.prog 63 #[.int .i64 n, .slice F m d] w fun e w' => ∃ g, e = .returned (.tuple #[.slice (some ⟨g, 0, none⟩) n n, .bool true]) ∧ Below w.heap.size w w' ∧ w.heap.size ≤ g ∧ ∃ ps, RowN g ps w' ∧ PredsOf n E ps := by
  refine (link_any F n m d E w hl hm hk hP).mono ?_
  rintro e w' ⟨b, ⟨_, g, ps, he, hg, h1, h2⟩ | ⟨hn, _⟩⟩
  · exact ⟨g, he, b, hg, ps, h1, h2⟩
  · exact absurd h hn
theorem link_not (n : Nat) (w : World) (hl : n ≤ 64) (hm : E.length = m) (hk : m ≤ 1000) (hP : Pairs w w.heap.size F E) (h : ¬ EdgesOk n E) :
    Calls Tryz.prog 63 #[.int .i64 n, .slice F m d] w fun e w' => e = .returned (.tuple #[.slice none 0 0, .bool false]) ∧ Below w.heap.size w w' := by
  refine (link_any F n m d E w hl hm hk hP).mono ?_
  rintro e w' ⟨b, ⟨hy, _⟩ | ⟨_, he⟩⟩
  · exact absurd hy h
  · exact ⟨he, b⟩
theorem arrange_yes (g n : Nat) (w : World) (hl : n ≤ 64) (hF : Fits n E) (hR : ∃ ps, RowN g ps w ∧ PredsOf n E ps) (h : Acyc E) :
    Calls Tryz.prog 64 #[.slice (some ⟨g, 0, none⟩) n n] w fun e w' => ∃ A c, e = .returned (.tuple #[.slice A n c, .bool true]) ∧ Below w.heap.size w w' ∧ OwnI w' w.heap.size (.slice A n c) (nums (ord n E)) := by
  obtain ⟨ps, hV, hPS⟩ := hR
  refine (arrange_any g n E ps w hl hF hPS hV).mono ?_
  rintro e w' ⟨b, ⟨_, A, c, he, hI⟩ | ⟨hn, _⟩⟩
  · exact ⟨A, c, he, b, hI⟩
  · exact absurd h hn
theorem arrange_not (g n : Nat) (w : World) (hl : n ≤ 64) (hF : Fits n E) (hR : ∃ ps, RowN g ps w ∧ PredsOf n E ps) (h : ¬ Acyc E) :
    Calls Tryz.prog 64 #[.slice (some ⟨g, 0, none⟩) n n] w fun e w' => e = .returned (.tuple #[.slice none 0 0, .bool false]) ∧ Below w.heap.size w w' := by
  obtain ⟨ps, hV, hPS⟩ := hR
  refine (arrange_any g n E ps w hl hF hPS hV).mono ?_
  rintro e w' ⟨b, ⟨hy, _⟩ | ⟨_, he⟩⟩
  · exact absurd hy h
  · exact ⟨he, b⟩
/-- In the middle of read: the graph in a box, the result's variable in another. -/
structure StR (w : World) (A : Option Addr) (n c : Nat) (F : Option Addr) (m d : Nat) (W : List Int) (E : List (Int × Int)) (w' : World) : Prop where
  bel : Below w.heap.size w w'
  p0 : w'.cell? ⟨w.heap.size, 0, none⟩ = some (.slice A n c)
  p1 : w'.cell? ⟨w.heap.size, 1, none⟩ = some (.slice F m d)
  q : w'.heap[w.heap.size + 1]? = some (.cells #[.slice none 0 0, .slice none 0 0] 78 (0, 0))
  g : IsG w' A n c F m d W E
theorem StR.lt {w w' : World} (h : StR w A n c F m d W E w') : w.heap.size + 1 < w'.heap.size := (Array.getElem?_eq_some_iff.1 h.q).1
theorem StR.next {w w1 w2 : World} (h : StR w A n c F m d W E w1) (hb : Below w1.heap.size w1 w2) : StR w A n c F m d W E w2 :=
  ⟨h.bel.trans (hb.mono h.bel.size), (hb.cell (World.block_lt_of_cell? _ _ h.p0)).trans h.p0, (hb.cell (World.block_lt_of_cell? _ _ h.p1)).trans h.p1, by rw [hb.block _ h.lt]; exact h.q, h.g.below hb⟩
theorem StR.start {w : World} (h : IsG w A n c F m d W E) : StR w A n c F m d W E ((w.alloc (.cells #[.slice A n c, .slice F m d] 62)).alloc (.cells #[.slice none 0 0, .slice none 0 0] 78)) := by
  obtain ⟨w1, h1⟩ : ∃ w1, w1 = w.alloc (.cells #[.slice A n c, .slice F m d] 62) := ⟨_, rfl⟩
  rw [← h1]
  have s1 : w1.heap.size = w.heap.size + 1 := by rw [h1]; simp
  have b1 : Below w.heap.size w w1 := by rw [h1]; exact below_alloc _
  have b2 := below_alloc (w := w1) (.cells #[.slice none 0 0, .slice none 0 0] 78)
  refine ⟨b1.trans (b2.mono (by omega)), ?_, ?_, ?_, (h.below b1).below b2⟩
  · refine (b2.cell (by show w.heap.size < _; omega)).trans ?_
    rw [h1, World.cell?_alloc_at _ _ _ _ rfl]; rfl
  · refine (b2.cell (by show w.heap.size < _; omega)).trans ?_
    rw [h1, World.cell?_alloc_at _ _ _ _ rfl]; rfl
  · rw [← s1]; exact heap_alloc_new w1 _
theorem StR.cells {w w' : World} (h : StR w A n c F m d W E w') : w'.cell? ⟨w.heap.size, 0, none⟩ = some (.slice A n c) ∧ w'.cell? ⟨w.heap.size, 1, none⟩ = some (.slice F m d) ∧
    w'.cell? ⟨w.heap.size + 1, 0, none⟩ = some (.slice none 0 0) ∧ w'.cell? ⟨w.heap.size + 1, 1, none⟩ = some (.slice none 0 0) ∧ w'.frozen? ⟨w.heap.size + 1, 0, none⟩ = false ∧ w'.frozen? ⟨w.heap.size + 1, 1, none⟩ = false :=
  ⟨h.p0, h.p1, by rw [cell_of_row _ _ _ _ _ _ h.q]; rfl, by rw [cell_of_row _ _ _ _ _ _ h.q]; rfl, frozen_of_row _ _ _ _ _ h.q, frozen_of_row _ _ _ _ _ h.q⟩

set_option maxRecDepth 100000 in
set_option maxHeartbeats 4000000 in
theorem read_not (w : World) (h : IsG w A n c F m d W E) (hM : ¬ May W E) :
    Calls Tryz.prog 40 #[.agg #[.slice A n c, .slice F m d]] w fun e w' => e = .returned (.tuple #[.agg #[.slice none 0 0, .slice none 0 0], .int .i64 (chkE W E)]) ∧ Below w.heap.size w w' := by
  have B0 := Lib.hid (StR.start h)
  have ln := h.ln
  have lm := h.lm
  have HN := Lib.hid h.hn
  have HEM := Lib.hid h.hm
  have CR := Lib.hid (fun (W' : World) (h : IsG W' A n c F m d W E) (r : Bool) (hr : r = true ↔ WorkOk W) => right_any A c n W W' h.hn (by have := h.ln; omega) h.ints r hr)
  obtain ⟨r, hr⟩ : ∃ r, r = chkE W E := ⟨_, rfl⟩
  rw [← hr]
  have HR := Lib.hid hr
  clear hr h
  by_cases hmany : 64 < n ∨ 256 < m
  · have HX := Lib.hid (show chkE W E = 40 by
      have e := plainE_many (W := W) (E := E) (by rw [HN.out, HEM.out]; exact hmany)
      rw [chkE_plain (by rw [e]; decide), e])
    rcases (show 64 < n ∨ (n ≤ 64 ∧ 256 < m) by omega) with h1 | ⟨h1, h2⟩
    · clear hmany
      go_enter Tryz.func40, Tryz.ntmps40
      go_wp2
      (try simp only [Exit.inBlock, Exit.then])
      refine bodyPost_ret (v := .tuple #[.agg #[.slice none 0 0, .slice none 0 0], .int .i64 r]) ?_ rfl ⟨rfl, ?_⟩
      · rw [results_cell_tmp rfl, HR.out, HX.out]
        go_simp
      · exact B0.out.bel
    · clear hmany
      go_enter Tryz.func40, Tryz.ntmps40
      go_wp2
      (try simp only [Exit.inBlock, Exit.then])
      refine bodyPost_ret (v := .tuple #[.agg #[.slice none 0 0, .slice none 0 0], .int .i64 r]) ?_ rfl ⟨rfl, ?_⟩
      · rw [results_cell_tmp rfl, HR.out, HX.out]
        go_simp
      · exact B0.out.bel
  · have HMANY : Hid (¬ (64 < W.length ∨ 256 < E.length)) := Lib.hid (by rw [HN.out, HEM.out]; exact hmany)
    have hn64 : n ≤ 64 := by omega
    have hm256 : m ≤ 256 := by omega
    clear hmany
    by_cases hW : WorkOk W
    · have C1 := Lib.hid (fun W' h => CR.out W' h true ⟨fun _ => hW, fun _ => rfl⟩)
      by_cases hE : EdgesOk n E
      · have C2 := Lib.hid (fun (w' : World) (h : IsG w' A n c F m d W E) => link_yes (d := d) n w' hn64 h.hm (by omega) h.pairs hE)
        have hp0 : plainE W E = 0 := plainE_zero.mpr ⟨by have := HMANY.out; omega, hW, by rw [HN.out]; exact hE⟩
        have hA : ¬ Acyc E := fun hA => hM (chkE_zero.mp (chkE_ok hp0 hA))
        have HX := Lib.hid (chkE_round hp0 hA)
        have C3 := Lib.hid (fun g w' hR => arrange_not g n w' hn64 hE.1 hR hA)
        clear hW hE hp0 hA hM
        go_enter Tryz.func40, Tryz.ntmps40
        go_wp2_with fail
        refine (C1.out _ B0.out.g).mono ?_
        rintro e w1 ⟨rfl, rfl⟩
        go_wp2_with fail
        refine (C2.out _ B0.out.g).mono ?_
        rintro e w2 ⟨g, rfl, b, hgg, hR⟩
        have HGG := Lib.hid hgg
        have B2 := Lib.hid (B0.out.next b)
        have HRR := Lib.hid hR
        clear b hR hgg
        obtain ⟨c1, c2, c3, c4, c5, c6⟩ := B2.out.cells
        go_wp2_with fail
        refine (C3.out _ _ HRR.out).mono ?_
        rintro e w3 ⟨rfl, b⟩
        have B3 := Lib.hid (B2.out.next b)
        clear b c1 c2 c3 c4 c5 c6
        obtain ⟨c1, c2, c3, c4, c5, c6⟩ := B3.out.cells
        have hlt := B3.out.lt
        go_wp2
        (try simp only [Exit.inBlock, Exit.then])
        refine bodyPost_ret (v := .tuple #[.agg #[.slice none 0 0, .slice none 0 0], .int .i64 r]) ?_ rfl ⟨rfl, ?_⟩
        · rw [results_cell_tmp rfl, HR.out, HX.out]
          go_simp
        · refine (B3.out.bel.setCell ?_ _).setCell ?_ _
          · show w.heap.size ≤ w.heap.size + 1; omega
          · show w.heap.size ≤ w.heap.size + 1; omega
      · have C2 := Lib.hid (fun (w' : World) (h : IsG w' A n c F m d W E) => link_not (d := d) n w' hn64 h.hm (by omega) h.pairs hE)
        have HX := Lib.hid (show chkE W E = 42 by
          have e := plainE_edge HMANY.out hW (by rw [HN.out]; exact hE)
          rw [chkE_plain (by rw [e]; decide), e])
        clear hW hE hM
        go_enter Tryz.func40, Tryz.ntmps40
        go_wp2_with fail
        refine (C1.out _ B0.out.g).mono ?_
        rintro e w1 ⟨rfl, rfl⟩
        go_wp2_with fail
        refine (C2.out _ B0.out.g).mono ?_
        rintro e w2 ⟨rfl, b⟩
        have B2 := Lib.hid (B0.out.next b)
        clear b
        obtain ⟨c1, c2, c3, c4, c5, c6⟩ := B2.out.cells
        have hlt := B2.out.lt
        go_wp2
        (try simp only [Exit.inBlock, Exit.then])
        refine bodyPost_ret (v := .tuple #[.agg #[.slice none 0 0, .slice none 0 0], .int .i64 r]) ?_ rfl ⟨rfl, ?_⟩
        · rw [results_cell_tmp rfl, HR.out, HX.out]
          go_simp
        · refine (B2.out.bel.setCell ?_ _).setCell ?_ _
          · show w.heap.size ≤ w.heap.size + 1; omega
          · show w.heap.size ≤ w.heap.size + 1; omega
    · have C1 := Lib.hid (fun W' h => CR.out W' h false ⟨fun q => Bool.noConfusion q, fun q => absurd q hW⟩)
      have HX := Lib.hid (show chkE W E = 41 by
        have e := plainE_work HMANY.out hW
        rw [chkE_plain (by rw [e]; decide), e])
      clear hW hM
      go_enter Tryz.func40, Tryz.ntmps40
      go_wp2_with fail
      refine (C1.out _ B0.out.g).mono ?_
      rintro e w1 ⟨rfl, rfl⟩
      go_wp2
      (try simp only [Exit.inBlock, Exit.then])
      refine bodyPost_ret (v := .tuple #[.agg #[.slice none 0 0, .slice none 0 0], .int .i64 r]) ?_ rfl ⟨rfl, ?_⟩
      · rw [results_cell_tmp rfl, HR.out, HX.out]
        go_simp
      · exact B0.out.bel
set_option maxRecDepth 100000 in
set_option maxHeartbeats 4000000 in
theorem read_ok (w : World) (h : IsG w A n c F m d W E) (hM : May W E) :
    Calls Tryz.prog 40 #[.agg #[.slice A n c, .slice F m d]] w fun e w' => ∃ g A' c', e = .returned (.tuple #[.agg #[.slice (some ⟨g, 0, none⟩) n n, .slice A' n c'], .int .i64 0]) ∧ IsR w g n A' c' E w' := by
  have B0 := Lib.hid (StR.start h)
  have hn64 : n ≤ 64 := by rw [← h.hn]; exact hM.nodes
  have hm256 : m ≤ 256 := by rw [← h.hm]; exact hM.edges
  have hF : Fits n E := by rw [← h.hn]; exact hM.fits
  have C1 := Lib.hid (fun (W' : World) (h : IsG W' A n c F m d W E) => right_any A c n W W' h.hn (by have := h.ln; omega) h.ints true ⟨fun _ => hM.work, fun _ => rfl⟩)
  have C2 := Lib.hid (fun (w' : World) (h : IsG w' A n c F m d W E) => link_yes (d := d) n w' hn64 h.hm (by omega) h.pairs ⟨hF, hM.apart, hM.once⟩)
  have C3 := Lib.hid (fun g w' hR => arrange_yes g n w' hn64 hF hR hM.acyc)
  clear h hM hF
  go_enter Tryz.func40, Tryz.ntmps40
  go_wp2_with fail
  refine (C1.out _ B0.out.g).mono ?_
  rintro e w1 ⟨rfl, rfl⟩
  go_wp2_with fail
  refine (C2.out _ B0.out.g).mono ?_
  rintro e w2 ⟨g, rfl, b, hgg, hR⟩
  have HGG := Lib.hid hgg
  have B2 := Lib.hid (B0.out.next b)
  have HRR := Lib.hid hR
  clear b hR hgg
  obtain ⟨c1, c2, c3, c4, c5, c6⟩ := B2.out.cells
  go_wp2_with fail
  refine (C3.out _ _ HRR.out).mono ?_
  rintro e w3 ⟨A', c', rfl, b, hI⟩
  have B3 := Lib.hid (B2.out.next b)
  have HIN := Lib.hid hI
  have HR3 : Hid (∃ ps, RowN g ps w3 ∧ PredsOf n E ps) := Lib.hid (by
    obtain ⟨ps, h1, h2⟩ := HRR.out
    exact ⟨ps, h1.below b h1.lt, h2⟩)
  clear b c1 c2 c3 c4 c5 c6 hI
  obtain ⟨c1, c2, c3, c4, c5, c6⟩ := B3.out.cells
  have hlt := B3.out.lt
  go_wp2
  (try simp only [Exit.inBlock, Exit.then])
  refine bodyPost_ret (v := .tuple #[.agg #[.slice (some ⟨g, 0, none⟩) n n, .slice A' n c'], .int .i64 0]) ?_ rfl ⟨g, A', c', rfl, ?_⟩
  · rw [results_cell_tmp rfl]
    go_simp
  · have hs2 := B2.out.lt
    have hg0 : w.heap.size + 1 < g := by
      have := HGG.out
      have := B0.out.lt
      omega
    have hs : ∀ k, w.heap.size + 1 < k → ((w3.setCell ⟨w.heap.size + 1, 0, none⟩ (.slice (some ⟨g, 0, none⟩) n n)).setCell ⟨w.heap.size + 1, 1, none⟩ (.slice A' n c')).heap[k]? = w3.heap[k]? := fun k hk => by
      have hne : ¬ w.heap.size + 1 = k := by omega
      simp [World.setCell, Array.getElem?_modify, hne]
    have hO := own_from (w' := ((w3.setCell ⟨w.heap.size + 1, 0, none⟩ (.slice (some ⟨g, 0, none⟩) n n)).setCell ⟨w.heap.size + 1, 1, none⟩ (.slice A' n c'))) HIN.out (fun k hk => hs k (by omega))
    refine ⟨(B3.out.bel.setCell ?_ _).setCell ?_ _, ?_, ?_, fun b o s e => ?_⟩
    · show w.heap.size ≤ w.heap.size + 1; omega
    · show w.heap.size ≤ w.heap.size + 1; omega
    · obtain ⟨A2, c2, he, hI⟩ := OwnI.slice hO
      injection he with e1 e2 e3
      subst e1
      exact hI
    · obtain ⟨ps, h1, h2⟩ := HR3.out
      exact ⟨ps, (hs g hg0).trans h1, h2⟩
    · have hI := HIN.out
      subst e
      rcases hI.2 with ⟨h, _⟩ | ⟨g', cap, cur, h, hg', _⟩
      · injection h with h
        cases h
      · injection h with h
        have : b = g' := by
          injection h with h
          injection h
        omega
theorem read_any (w : World) (h : IsG w A n c F m d W E) :
    Calls Tryz.prog 40 #[.agg #[.slice A n c, .slice F m d]] w fun e w' => ∃ u v, e = .returned (.tuple #[.agg #[u, v], .int .i64 (chkE W E)]) ∧ Below w.heap.size w w' := by
  by_cases hM : May W E
  · refine (read_ok w h hM).mono ?_
    rintro e w' ⟨g, A', c', rfl, hR⟩
    exact ⟨_, _, by rw [chkE_zero.mpr hM], hR.bel⟩
  · refine (read_not w h hM).mono ?_
    rintro e w' ⟨rfl, b⟩
    exact ⟨_, _, rfl, b⟩
end
end Go.Proofs.YtjmledfmiljoiaaGreatDoor
set_option linter.unusedVariables false
namespace Go.Proofs.YtjmledfmiljoiaaGreatDoor
open Go.RowKit

section
variable {A : Option Addr} {n c : Nat} {F : Option Addr} {m d : Nat} {W : List Int} {E : List (Int × Int)}
theorem IsR.next {w w1 w2 : World} {g : Nat} {A' : Option Addr} {c' : Nat} (h : IsR w g n A' c' E w1) (hb : Below w1.heap.size w1 w2) : IsR w g n A' c' E w2 :=
  ⟨h.bel.trans (hb.mono h.bel.size), (h.ints.below hb).more hb.size, by
    obtain ⟨ps, h1, h2⟩ := h.row
    exact ⟨ps, h1.below hb h1.lt, h2⟩, h.low⟩
theorem gotInts_nil {w w' : World} (hb : Below w.heap.size w w') : GotInts [] w (.returned (.slice none 0 0)) w' := ⟨none, 0, rfl, Ints.nil_ _ _ _, hb⟩

set_option maxHeartbeats 2000000 in
theorem check_done (w : World) (h : IsG w A n c F m d W E) :
    Calls Tryz.prog 38 #[.agg #[.slice A n c, .slice F m d]] w fun e w' => e = .returned (.int .i64 (chkE W E)) ∧ Below w.heap.size w w' := by
  have H := Lib.hid h
  by_cases hM : May W E
  · have C := Lib.hid (fun w' (h : IsG w' A n c F m d W E) => read_ok w' h hM)
    rw [chkE_zero.mpr hM]
    clear h hM
    go_enter Tryz.func38, Tryz.ntmps38
    go_wp2_with fail
    refine (C.out _ (H.out.below (below_alloc _))).mono ?_
    rintro e w1 ⟨g, A', c', rfl, hR⟩
    have HB := Lib.hid ((below_alloc _).trans (hR.bel.mono (by simp)))
    clear hR
    go_wp2
    go_ret
    exact ⟨rfl, HB.out.alloc HB.out.size _⟩
  · have C := Lib.hid (fun w' (h : IsG w' A n c F m d W E) => read_not w' h hM)
    obtain ⟨r, hr⟩ : ∃ r, r = chkE W E := ⟨_, rfl⟩
    rw [← hr] at C ⊢
    clear h hM hr
    go_enter Tryz.func38, Tryz.ntmps38
    go_wp2_with fail
    refine (C.out _ (H.out.below (below_alloc _))).mono ?_
    rintro e w1 ⟨rfl, b⟩
    have HB := Lib.hid ((below_alloc _).trans (b.mono (by simp)))
    clear b
    go_wp2
    go_ret
    exact ⟨rfl, HB.out.alloc HB.out.size _⟩
/-! Plain: what sets tell -/
theorem range_filter {p : Nat → Bool} {n : Nat} (h : ∀ a, p a = true → a < n) : ∀ k, (List.range (n + k)).filter p = (List.range n).filter p
  | 0 => rfl
  | k + 1 => by
    rw [show n + (k + 1) = (n + k) + 1 by omega, List.range_succ, List.filter_append, range_filter h k]
    have : p (n + k) = false := by
      cases hp : p (n + k) with
      | false => rfl
      | true => exact absurd (h _ hp) (by omega)
    simp [this]
theorem bitsL_of {s n : Nat} {p : Nat → Bool} (hn : n ≤ 64) (h : ∀ a, s.testBit a = p a) (hp : ∀ a, p a = true → a < n) : nums (bitsL s) = ((List.range n).map Int.ofNat).filter fun a => p a.toNat := by
  unfold bitsL nums
  rw [show s.testBit = p from funext h]
  obtain ⟨k, hk⟩ : ∃ k, 64 = n + k := ⟨64 - n, by omega⟩
  rw [hk, range_filter hp, List.filter_map]
  rfl
theorem predsL_bits {n : Nat} {E : List (Int × Int)} {ps : List Nat} (hn : n ≤ 64) (hF : Fits n E) (h : PredsOf n E ps) {y : Nat} (hy : y < n) : predsL n E y = nums (bitsL (ps.getD y 0)) := by
  rw [bitsL_of hn (h.bit y hy) (fun a ha => (ed_lt hF (of_decide_eq_true ha)).1)]
  unfold predsL
  apply List.filter_congr
  intro a ha
  obtain ⟨b, _, rfl⟩ := List.mem_map.mp ha
  rfl
theorem predsL_out {n : Nat} {E : List (Int × Int)} (hF : Fits n E) {x : Int} (h : ¬ (0 ≤ x ∧ x < n)) : predsL n E x = [] := by
  unfold predsL
  rw [List.filter_eq_nil_iff]
  intro a _ k
  have := hF _ (of_decide_eq_true k)
  exact h ⟨this.2.2.1, this.2.2.2⟩
theorem succsL_out {n : Nat} {E : List (Int × Int)} (hF : Fits n E) {x : Int} (h : ¬ (0 ≤ x ∧ x < n)) : succsL n E x = [] := by
  unfold succsL
  rw [List.filter_eq_nil_iff]
  intro a _ k
  have := hF _ (of_decide_eq_true k)
  exact h ⟨this.1, this.2.1⟩
end

section
variable {A : Option Addr} {n c : Nat} {F : Option Addr} {m d : Nat} {W : List Int} {E : List (Int × Int)}
theorem GotInts.up {w w1 : World} {zs : List Int} {e : Ending} {w' : World} (h : GotInts zs w1 e w') (hb : Below w.heap.size w w1) : GotInts zs w e w' := by
  obtain ⟨A, c, he, hI, b⟩ := h
  exact ⟨A, c, he, hI, hb.trans (b.mono hb.size)⟩
end
end Go.Proofs.YtjmledfmiljoiaaGreatDoor
set_option linter.unusedVariables false
namespace Go.Proofs.YtjmledfmiljoiaaGreatDoor
open Go.RowKit

theorem succsL_bits {n T : Nat} {E : List (Int × Int)} (hn : n ≤ 64) (hF : Fits n E) {y : Nat} (h : ∀ a, T.testBit a = (decide (a < n) && decide (ed E y a))) : succsL n E y = nums (bitsL T) := by
  rw [bitsL_of hn h (fun a ha => by rw [Bool.and_eq_true, decide_eq_true_iff] at ha; exact ha.1)]
  unfold succsL
  apply List.filter_congr
  intro a ha
  obtain ⟨b, hb, rfl⟩ := List.mem_map.mp ha
  have hb2 := List.mem_range.mp hb
  show decide _ = (decide (b < n) && decide (ed E y b))
  rw [decide_eq_true hb2, Bool.true_and]
  rfl
theorem succ_step {T y j : Nat} {E : List (Int × Int)} (h : ∀ a, T.testBit a = (decide (a < j) && decide (ed E y a))) (he : ed E y j) (a : Nat) : (T ||| 2 ^ j).testBit a = (decide (a < j + 1) && decide (ed E y a)) := by
  rw [or_bit_testBit, h, Bool.eq_iff_iff]
  simp only [Bool.or_eq_true, Bool.and_eq_true, decide_eq_true_iff]
  constructor
  · rintro (⟨k1, k2⟩ | k)
    · exact ⟨by omega, k2⟩
    · exact ⟨by omega, k ▸ he⟩
  · rintro ⟨k1, k2⟩
    by_cases hj : j = a
    · exact .inr hj
    · exact .inl ⟨by omega, k2⟩
theorem succ_skip {T y j : Nat} {E : List (Int × Int)} (h : ∀ a, T.testBit a = (decide (a < j) && decide (ed E y a))) (he : ¬ ed E y j) (a : Nat) : T.testBit a = (decide (a < j + 1) && decide (ed E y a)) := by
  rw [h, Bool.eq_iff_iff]
  simp only [Bool.and_eq_true, decide_eq_true_iff]
  constructor
  · rintro ⟨k1, k2⟩
    exact ⟨by omega, k2⟩
  · rintro ⟨k1, k2⟩
    by_cases hj : j = a
    · exact absurd (hj ▸ k2) he
    · exact ⟨by omega, k2⟩
theorem and_ne_zero_iff (p u : Nat) : p &&& u ≠ 0 ↔ ∃ i, p.testBit i = true ∧ u.testBit i = true := by
  constructor
  · intro h
    obtain ⟨i, hi⟩ := Nat.exists_testBit_of_ne_zero h
    rw [Nat.testBit_and, Bool.and_eq_true] at hi
    exact ⟨i, hi⟩
  · rintro ⟨i, h1, h2⟩ h
    have : (p &&& u).testBit i = false := by rw [h, Nat.zero_testBit]
    rw [Nat.testBit_and, h1, h2] at this
    cases this
theorem way_order {n : Nat} {E : List (Int × Int)} {out : List Nat} (h : Ordered n E out) {j x a : Nat} (hx : out[j]? = some x) : (∃ p, ed E p x ∧ (p = a ∨ (p ∈ out.take j ∧ Way E a p))) ↔ Way E a x := by
  constructor
  · rintro ⟨p, he, rfl | ⟨_, hw⟩⟩
    · exact .one he
    · exact .more hw he
  · intro hw
    obtain ⟨p, he, hp⟩ := hw.last
    refine ⟨p, he, hp.imp id fun k => ⟨?_, k⟩⟩
    obtain ⟨hj, e⟩ := List.getElem?_eq_some_iff.mp hx
    exact h.behind j hj p (by rw [e]; exact he)

section
variable {A : Option Addr} {n c : Nat} {F : Option Addr} {m d : Nat} {W : List Int} {E : List (Int × Int)}
end
end Go.Proofs.YtjmledfmiljoiaaGreatDoor
set_option linter.unusedVariables false
namespace Go.Proofs.YtjmledfmiljoiaaGreatDoor
open Go.RowKit

theorem nums_get {l : List Nat} {j : Nat} {z : Int} (h : (nums l)[j]? = some z) : ∃ x : Nat, z = (x : Int) ∧ l[j]? = some x := by
  unfold nums at h
  rw [List.getElem?_map] at h
  cases hx : l[j]? with
  | none => rw [hx] at h; cases h
  | some x =>
    rw [hx] at h
    exact ⟨x, (Option.some.inj h).symm, rfl⟩
/-- What lies behind a, of the nodes that were met. -/
def Behind (E : List (Int × Int)) (a : Nat) (met : List Nat) (T : Nat) : Prop := ∀ x, T.testBit x = true ↔ x ∈ met ∧ Way E a x
theorem behind_nil (E : List (Int × Int)) (a : Nat) : Behind E a [] 0 := fun x => by simp
theorem behind_cond {n : Nat} {E : List (Int × Int)} {out ps : List Nat} (hO : Ordered n E out) (hP : PredsOf n E ps) {a j x f T : Nat} (hf : ∀ i, f.testBit i = decide (a = i)) (hT : Behind E a (out.take j) T) (hx : out[j]? = some x) :
    ps.getD x 0 &&& (f ||| T) ≠ 0 ↔ Way E a x := by
  have hxn : x < n := hO.lt x (List.mem_of_getElem? hx)
  rw [and_ne_zero_iff, ← way_order hO hx]
  constructor
  · rintro ⟨i, h1, h2⟩
    rw [hP.bit x hxn, decide_eq_true_iff] at h1
    rw [Nat.testBit_or, Bool.or_eq_true, hf, decide_eq_true_iff] at h2
    exact ⟨i, h1, h2.imp Eq.symm (hT i).mp⟩
  · rintro ⟨p, h1, h2⟩
    refine ⟨p, by rw [hP.bit x hxn]; exact decide_eq_true h1, ?_⟩
    rw [Nat.testBit_or, Bool.or_eq_true, hf, decide_eq_true_iff]
    exact h2.imp Eq.symm (hT p).mpr
theorem behind_more {E : List (Int × Int)} {out : List Nat} {a j x T : Nat} (hT : Behind E a (out.take j) T) (hx : out[j]? = some x) (hw : Way E a x) : Behind E a (out.take (j + 1)) (T ||| 2 ^ x) := fun i => by
  rw [or_bit_testBit, Bool.or_eq_true, hT i, decide_eq_true_iff, take_snoc' hx, List.mem_append, List.mem_singleton]
  constructor
  · rintro (⟨h1, h2⟩ | rfl)
    · exact ⟨.inl h1, h2⟩
    · exact ⟨.inr rfl, hw⟩
  · rintro ⟨h1 | h1, h2⟩
    · exact .inl ⟨h1, h2⟩
    · exact .inr h1.symm
theorem behind_skip {E : List (Int × Int)} {out : List Nat} {a j x T : Nat} (hT : Behind E a (out.take j) T) (hx : out[j]? = some x) (hw : ¬ Way E a x) : Behind E a (out.take (j + 1)) T := fun i => by
  rw [hT i, take_snoc' hx, List.mem_append, List.mem_singleton]
  constructor
  · rintro ⟨h1, h2⟩
    exact ⟨.inl h1, h2⟩
  · rintro ⟨h1 | rfl, h2⟩
    · exact ⟨h1, h2⟩
    · exact absurd h2 hw

section
variable {A : Option Addr} {n c : Nat} {F : Option Addr} {m d : Nat} {W : List Int} {E : List (Int × Int)}
theorem beforeV_out {a b : Int} (hF : Fits n E) (h : ¬ ((0 ≤ a ∧ a < n) ∧ (0 ≤ b ∧ b < n))) : beforeV W E a b = false := by
  unfold beforeV
  rw [if_neg]
  rintro ⟨_, h1, h2, h3⟩
  have := h3.lt hF
  exact h ⟨⟨h1, by omega⟩, h2, by omega⟩
end
end Go.Proofs.YtjmledfmiljoiaaGreatDoor
