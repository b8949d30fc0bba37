/- The contract of Own of trefoillaw04 in the seat YtfahabphncmbfaaGreatDoor: a graph of its own memory. (Written by wip/dag/mk_own.py.)
   What the walks of layer 4's laws ask of the program's functions, in the seat YtfahabphncmbfaaGreatDoor (proved elsewhere), and the contract of awake of trefoillaw04.
   dag.read in the seat YtfahabphncmbfaaGreatDoor: its contracts.
   No statement is proved here. -/
import Derived.Test.YtfahabphncmbfaaGreatDoorZM2
import Derived.Test.YtfahabphncmbfaaGreatDoorZM3
import Derived.Test.YtfahabphncmbfaaGreatDoorZM18
import Derived.Test.YtfahabphncmbfaaGreatDoorZM1
import Derived.Laws.ResultCell
set_option linter.unusedSimpArgs false
set_option linter.unusedVariables false
namespace Go.Proofs.YtfahabphncmbfaaGreatDoor
open Go.RowKit

/-- A graph handed out, in memory of the call's own. -/
def GotGr (W : List Int) (E : List (Int × Int)) (w : World) (e : Ending) (w' : World) : Prop :=
  ∃ u v, e = .returned (.agg #[u, v]) ∧ OwnI w' w.heap.size u W ∧ OwnE w' w.heap.size v E ∧ Below w.heap.size w w'
structure InvO (w0 : World) (A F : Option Addr) (n c m d : Nat) (W : List Int) (E : List (Int × Int)) (s3 s4 s5 s6 s7 s8 s9 s10 s11 : Value) (l : Array Bool) (w : World) : Prop where
  size : l.size = 10
  bel : Below (w0.heap.size + 1) (w0.alloc (.cells #[.slice A n c, .slice F m d] 25)) w
  cell : ∃ x y, w.heap[w0.heap.size + 1]? = some (.cells #[x, y] 25 (0, 0)) ∧ (l.getD 9 false = true → x = s6 ∧ y = s10)
  c8 : l.getD 8 false = true → l.getD 3 false = true ∧ l.getD 7 false = true
  c9 : l.getD 9 false = true → l.getD 3 false = true ∧ l.getD 7 false = true
  l0 : l.getD 0 false = true → ∃ g, s3 = .slice (some ⟨g, 0, none⟩) 0 0 ∧ w.heap[g]? = some (.cells #[] 3 (0, 0)) ∧ w0.heap.size + 2 ≤ g
  l1 : l.getD 1 false = true → s4 = .pointer (some ⟨w0.heap.size, 0, none⟩)
  l2 : l.getD 2 false = true → s5 = .slice A n c
  l3 : l.getD 3 false = true → OwnI w (w0.heap.size + 2) s6 W
  l4 : l.getD 4 false = true → ∃ g, s7 = .slice (some ⟨g, 0, none⟩) 0 0 ∧ w.heap[g]? = some (.cells #[] 179 (0, 0)) ∧ w0.heap.size + 2 ≤ g
  l5 : l.getD 5 false = true → s8 = .pointer (some ⟨w0.heap.size, 1, none⟩)
  l6 : l.getD 6 false = true → s9 = .slice F m d
  l7 : l.getD 7 false = true → OwnE w (w0.heap.size + 2) s10 E
  l8 : l.getD 8 false = true → s11 = .agg #[s6, s10]
theorem listed_keep {l : Array Bool} {i k : Nat} (h : l.getD k false = true) : (l.setIfInBounds i true).getD k false = true := getD_set_true h
theorem un_false {l : Array Bool} {i : Nat} (h : l.getD i true = false) (k : l.getD i false = true) : False := by
  rcases Nat.lt_or_ge i l.size with h' | h'
  · simp [h'] at h k; rw [h] at k; cases k
  · simp [Array.getElem?_eq_none h'] at k
section
variable {w0 : World} {A F : Option Addr} {n c m d : Nat} {W : List Int} {E : List (Int × Int)} {s3 s4 s5 s6 s7 s8 s9 s10 s11 : Value} {l : Array Bool} {w w' : World}
theorem InvO.lt (h : InvO w0 A F n c m d W E s3 s4 s5 s6 s7 s8 s9 s10 s11 l w) : w0.heap.size + 2 ≤ w.heap.size := by
  obtain ⟨x, y, hc, _⟩ := h.cell
  have := (Array.getElem?_eq_some_iff.1 hc).1
  omega
/-- New blocks turn nothing. -/
theorem InvO.mono (h : InvO w0 A F n c m d W E s3 s4 s5 s6 s7 s8 s9 s10 s11 l w) (hb : Below w.heap.size w w') : InvO w0 A F n c m d W E s3 s4 s5 s6 s7 s8 s9 s10 s11 l w' := by
  have hlt := h.lt
  refine { h with bel := h.bel.trans (hb.mono (by omega)), cell := ?_, l0 := ?_, l3 := fun hk => (h.l3 hk).below hb, l4 := ?_, l7 := fun hk => (h.l7 hk).below hb }
  · obtain ⟨x, y, hc, hh⟩ := h.cell
    exact ⟨x, y, by rw [hb.block _ (by omega)]; exact hc, hh⟩
  · intro hk
    obtain ⟨g, e, hg, hl⟩ := h.l0 hk
    exact ⟨g, e, by rw [hb.block _ (Array.getElem?_eq_some_iff.1 hg).1]; exact hg, hl⟩
  · intro hk
    obtain ⟨g, e, hg, hl⟩ := h.l4 hk
    exact ⟨g, e, by rw [hb.block _ (Array.getElem?_eq_some_iff.1 hg).1]; exact hg, hl⟩
theorem InvO.step0 (h : InvO w0 A F n c m d W E s3 s4 s5 s6 s7 s8 s9 s10 s11 l w) (hun : l.getD 0 true = false) {z : Value} (hz : ∃ g, z = .slice (some ⟨g, 0, none⟩) 0 0 ∧ w.heap[g]? = some (.cells #[] 3 (0, 0)) ∧ w0.heap.size + 2 ≤ g) : InvO w0 A F n c m d W E z s4 s5 s6 s7 s8 s9 s10 s11 (l.setIfInBounds 0 true) w where
  size := by rw [Array.size_setIfInBounds]; exact h.size
  bel := h.bel
  cell := by
    obtain ⟨x, y, hc, hh⟩ := h.cell
    exact ⟨x, y, hc, fun hk => hh ((listed_set hk).resolve_left (by decide))⟩
  c8 := fun hk => ⟨listed_keep (h.c8 ((listed_set hk).resolve_left (by decide))).1, listed_keep (h.c8 ((listed_set hk).resolve_left (by decide))).2⟩
  c9 := fun hk => ⟨listed_keep (h.c9 ((listed_set hk).resolve_left (by decide))).1, listed_keep (h.c9 ((listed_set hk).resolve_left (by decide))).2⟩
  l0 := fun _ => hz
  l1 := fun hk => h.l1 ((listed_set hk).resolve_left (by decide))
  l2 := fun hk => h.l2 ((listed_set hk).resolve_left (by decide))
  l3 := fun hk => h.l3 ((listed_set hk).resolve_left (by decide))
  l4 := fun hk => h.l4 ((listed_set hk).resolve_left (by decide))
  l5 := fun hk => h.l5 ((listed_set hk).resolve_left (by decide))
  l6 := fun hk => h.l6 ((listed_set hk).resolve_left (by decide))
  l7 := fun hk => h.l7 ((listed_set hk).resolve_left (by decide))
  l8 := fun hk => h.l8 ((listed_set hk).resolve_left (by decide))
theorem InvO.step1 (h : InvO w0 A F n c m d W E s3 s4 s5 s6 s7 s8 s9 s10 s11 l w) (hun : l.getD 1 true = false) {z : Value} (hz : z = .pointer (some ⟨w0.heap.size, 0, none⟩)) : InvO w0 A F n c m d W E s3 z s5 s6 s7 s8 s9 s10 s11 (l.setIfInBounds 1 true) w where
  size := by rw [Array.size_setIfInBounds]; exact h.size
  bel := h.bel
  cell := by
    obtain ⟨x, y, hc, hh⟩ := h.cell
    exact ⟨x, y, hc, fun hk => hh ((listed_set hk).resolve_left (by decide))⟩
  c8 := fun hk => ⟨listed_keep (h.c8 ((listed_set hk).resolve_left (by decide))).1, listed_keep (h.c8 ((listed_set hk).resolve_left (by decide))).2⟩
  c9 := fun hk => ⟨listed_keep (h.c9 ((listed_set hk).resolve_left (by decide))).1, listed_keep (h.c9 ((listed_set hk).resolve_left (by decide))).2⟩
  l0 := fun hk => h.l0 ((listed_set hk).resolve_left (by decide))
  l1 := fun _ => hz
  l2 := fun hk => h.l2 ((listed_set hk).resolve_left (by decide))
  l3 := fun hk => h.l3 ((listed_set hk).resolve_left (by decide))
  l4 := fun hk => h.l4 ((listed_set hk).resolve_left (by decide))
  l5 := fun hk => h.l5 ((listed_set hk).resolve_left (by decide))
  l6 := fun hk => h.l6 ((listed_set hk).resolve_left (by decide))
  l7 := fun hk => h.l7 ((listed_set hk).resolve_left (by decide))
  l8 := fun hk => h.l8 ((listed_set hk).resolve_left (by decide))
theorem InvO.step2 (h : InvO w0 A F n c m d W E s3 s4 s5 s6 s7 s8 s9 s10 s11 l w) (hun : l.getD 2 true = false) {z : Value} (hz : z = .slice A n c) : InvO w0 A F n c m d W E s3 s4 z s6 s7 s8 s9 s10 s11 (l.setIfInBounds 2 true) w where
  size := by rw [Array.size_setIfInBounds]; exact h.size
  bel := h.bel
  cell := by
    obtain ⟨x, y, hc, hh⟩ := h.cell
    exact ⟨x, y, hc, fun hk => hh ((listed_set hk).resolve_left (by decide))⟩
  c8 := fun hk => ⟨listed_keep (h.c8 ((listed_set hk).resolve_left (by decide))).1, listed_keep (h.c8 ((listed_set hk).resolve_left (by decide))).2⟩
  c9 := fun hk => ⟨listed_keep (h.c9 ((listed_set hk).resolve_left (by decide))).1, listed_keep (h.c9 ((listed_set hk).resolve_left (by decide))).2⟩
  l0 := fun hk => h.l0 ((listed_set hk).resolve_left (by decide))
  l1 := fun hk => h.l1 ((listed_set hk).resolve_left (by decide))
  l2 := fun _ => hz
  l3 := fun hk => h.l3 ((listed_set hk).resolve_left (by decide))
  l4 := fun hk => h.l4 ((listed_set hk).resolve_left (by decide))
  l5 := fun hk => h.l5 ((listed_set hk).resolve_left (by decide))
  l6 := fun hk => h.l6 ((listed_set hk).resolve_left (by decide))
  l7 := fun hk => h.l7 ((listed_set hk).resolve_left (by decide))
  l8 := fun hk => h.l8 ((listed_set hk).resolve_left (by decide))
theorem InvO.step3 (h : InvO w0 A F n c m d W E s3 s4 s5 s6 s7 s8 s9 s10 s11 l w) (hun : l.getD 3 true = false) {z : Value} (hz : OwnI w (w0.heap.size + 2) z W) : InvO w0 A F n c m d W E s3 s4 s5 z s7 s8 s9 s10 s11 (l.setIfInBounds 3 true) w where
  size := by rw [Array.size_setIfInBounds]; exact h.size
  bel := h.bel
  cell := by
    obtain ⟨x, y, hc, hh⟩ := h.cell
    exact ⟨x, y, hc, fun hk => (un_false hun (h.c9 ((listed_set hk).resolve_left (by decide))).1).elim⟩
  c8 := fun hk => ⟨listed_keep (h.c8 ((listed_set hk).resolve_left (by decide))).1, listed_keep (h.c8 ((listed_set hk).resolve_left (by decide))).2⟩
  c9 := fun hk => ⟨listed_keep (h.c9 ((listed_set hk).resolve_left (by decide))).1, listed_keep (h.c9 ((listed_set hk).resolve_left (by decide))).2⟩
  l0 := fun hk => h.l0 ((listed_set hk).resolve_left (by decide))
  l1 := fun hk => h.l1 ((listed_set hk).resolve_left (by decide))
  l2 := fun hk => h.l2 ((listed_set hk).resolve_left (by decide))
  l3 := fun _ => hz
  l4 := fun hk => h.l4 ((listed_set hk).resolve_left (by decide))
  l5 := fun hk => h.l5 ((listed_set hk).resolve_left (by decide))
  l6 := fun hk => h.l6 ((listed_set hk).resolve_left (by decide))
  l7 := fun hk => h.l7 ((listed_set hk).resolve_left (by decide))
  l8 := fun hk => (un_false hun (h.c8 ((listed_set hk).resolve_left (by decide))).1).elim
theorem InvO.step4 (h : InvO w0 A F n c m d W E s3 s4 s5 s6 s7 s8 s9 s10 s11 l w) (hun : l.getD 4 true = false) {z : Value} (hz : ∃ g, z = .slice (some ⟨g, 0, none⟩) 0 0 ∧ w.heap[g]? = some (.cells #[] 179 (0, 0)) ∧ w0.heap.size + 2 ≤ g) : InvO w0 A F n c m d W E s3 s4 s5 s6 z s8 s9 s10 s11 (l.setIfInBounds 4 true) w where
  size := by rw [Array.size_setIfInBounds]; exact h.size
  bel := h.bel
  cell := by
    obtain ⟨x, y, hc, hh⟩ := h.cell
    exact ⟨x, y, hc, fun hk => hh ((listed_set hk).resolve_left (by decide))⟩
  c8 := fun hk => ⟨listed_keep (h.c8 ((listed_set hk).resolve_left (by decide))).1, listed_keep (h.c8 ((listed_set hk).resolve_left (by decide))).2⟩
  c9 := fun hk => ⟨listed_keep (h.c9 ((listed_set hk).resolve_left (by decide))).1, listed_keep (h.c9 ((listed_set hk).resolve_left (by decide))).2⟩
  l0 := fun hk => h.l0 ((listed_set hk).resolve_left (by decide))
  l1 := fun hk => h.l1 ((listed_set hk).resolve_left (by decide))
  l2 := fun hk => h.l2 ((listed_set hk).resolve_left (by decide))
  l3 := fun hk => h.l3 ((listed_set hk).resolve_left (by decide))
  l4 := fun _ => hz
  l5 := fun hk => h.l5 ((listed_set hk).resolve_left (by decide))
  l6 := fun hk => h.l6 ((listed_set hk).resolve_left (by decide))
  l7 := fun hk => h.l7 ((listed_set hk).resolve_left (by decide))
  l8 := fun hk => h.l8 ((listed_set hk).resolve_left (by decide))
theorem InvO.step5 (h : InvO w0 A F n c m d W E s3 s4 s5 s6 s7 s8 s9 s10 s11 l w) (hun : l.getD 5 true = false) {z : Value} (hz : z = .pointer (some ⟨w0.heap.size, 1, none⟩)) : InvO w0 A F n c m d W E s3 s4 s5 s6 s7 z s9 s10 s11 (l.setIfInBounds 5 true) w where
  size := by rw [Array.size_setIfInBounds]; exact h.size
  bel := h.bel
  cell := by
    obtain ⟨x, y, hc, hh⟩ := h.cell
    exact ⟨x, y, hc, fun hk => hh ((listed_set hk).resolve_left (by decide))⟩
  c8 := fun hk => ⟨listed_keep (h.c8 ((listed_set hk).resolve_left (by decide))).1, listed_keep (h.c8 ((listed_set hk).resolve_left (by decide))).2⟩
  c9 := fun hk => ⟨listed_keep (h.c9 ((listed_set hk).resolve_left (by decide))).1, listed_keep (h.c9 ((listed_set hk).resolve_left (by decide))).2⟩
  l0 := fun hk => h.l0 ((listed_set hk).resolve_left (by decide))
  l1 := fun hk => h.l1 ((listed_set hk).resolve_left (by decide))
  l2 := fun hk => h.l2 ((listed_set hk).resolve_left (by decide))
  l3 := fun hk => h.l3 ((listed_set hk).resolve_left (by decide))
  l4 := fun hk => h.l4 ((listed_set hk).resolve_left (by decide))
  l5 := fun _ => hz
  l6 := fun hk => h.l6 ((listed_set hk).resolve_left (by decide))
  l7 := fun hk => h.l7 ((listed_set hk).resolve_left (by decide))
  l8 := fun hk => h.l8 ((listed_set hk).resolve_left (by decide))
theorem InvO.step6 (h : InvO w0 A F n c m d W E s3 s4 s5 s6 s7 s8 s9 s10 s11 l w) (hun : l.getD 6 true = false) {z : Value} (hz : z = .slice F m d) : InvO w0 A F n c m d W E s3 s4 s5 s6 s7 s8 z s10 s11 (l.setIfInBounds 6 true) w where
  size := by rw [Array.size_setIfInBounds]; exact h.size
  bel := h.bel
  cell := by
    obtain ⟨x, y, hc, hh⟩ := h.cell
    exact ⟨x, y, hc, fun hk => hh ((listed_set hk).resolve_left (by decide))⟩
  c8 := fun hk => ⟨listed_keep (h.c8 ((listed_set hk).resolve_left (by decide))).1, listed_keep (h.c8 ((listed_set hk).resolve_left (by decide))).2⟩
  c9 := fun hk => ⟨listed_keep (h.c9 ((listed_set hk).resolve_left (by decide))).1, listed_keep (h.c9 ((listed_set hk).resolve_left (by decide))).2⟩
  l0 := fun hk => h.l0 ((listed_set hk).resolve_left (by decide))
  l1 := fun hk => h.l1 ((listed_set hk).resolve_left (by decide))
  l2 := fun hk => h.l2 ((listed_set hk).resolve_left (by decide))
  l3 := fun hk => h.l3 ((listed_set hk).resolve_left (by decide))
  l4 := fun hk => h.l4 ((listed_set hk).resolve_left (by decide))
  l5 := fun hk => h.l5 ((listed_set hk).resolve_left (by decide))
  l6 := fun _ => hz
  l7 := fun hk => h.l7 ((listed_set hk).resolve_left (by decide))
  l8 := fun hk => h.l8 ((listed_set hk).resolve_left (by decide))
theorem InvO.step7 (h : InvO w0 A F n c m d W E s3 s4 s5 s6 s7 s8 s9 s10 s11 l w) (hun : l.getD 7 true = false) {z : Value} (hz : OwnE w (w0.heap.size + 2) z E) : InvO w0 A F n c m d W E s3 s4 s5 s6 s7 s8 s9 z s11 (l.setIfInBounds 7 true) w where
  size := by rw [Array.size_setIfInBounds]; exact h.size
  bel := h.bel
  cell := by
    obtain ⟨x, y, hc, hh⟩ := h.cell
    exact ⟨x, y, hc, fun hk => (un_false hun (h.c9 ((listed_set hk).resolve_left (by decide))).2).elim⟩
  c8 := fun hk => ⟨listed_keep (h.c8 ((listed_set hk).resolve_left (by decide))).1, listed_keep (h.c8 ((listed_set hk).resolve_left (by decide))).2⟩
  c9 := fun hk => ⟨listed_keep (h.c9 ((listed_set hk).resolve_left (by decide))).1, listed_keep (h.c9 ((listed_set hk).resolve_left (by decide))).2⟩
  l0 := fun hk => h.l0 ((listed_set hk).resolve_left (by decide))
  l1 := fun hk => h.l1 ((listed_set hk).resolve_left (by decide))
  l2 := fun hk => h.l2 ((listed_set hk).resolve_left (by decide))
  l3 := fun hk => h.l3 ((listed_set hk).resolve_left (by decide))
  l4 := fun hk => h.l4 ((listed_set hk).resolve_left (by decide))
  l5 := fun hk => h.l5 ((listed_set hk).resolve_left (by decide))
  l6 := fun hk => h.l6 ((listed_set hk).resolve_left (by decide))
  l7 := fun _ => hz
  l8 := fun hk => (un_false hun (h.c8 ((listed_set hk).resolve_left (by decide))).2).elim
theorem InvO.step8 (h : InvO w0 A F n c m d W E s3 s4 s5 s6 s7 s8 s9 s10 s11 l w) (hun : l.getD 8 true = false) (hp : l.getD 3 false = true ∧ l.getD 7 false = true) {z : Value} (hz : z = .agg #[s6, s10]) : InvO w0 A F n c m d W E s3 s4 s5 s6 s7 s8 s9 s10 z (l.setIfInBounds 8 true) w where
  size := by rw [Array.size_setIfInBounds]; exact h.size
  bel := h.bel
  cell := by
    obtain ⟨x, y, hc, hh⟩ := h.cell
    exact ⟨x, y, hc, fun hk => hh ((listed_set hk).resolve_left (by decide))⟩
  c8 := fun _ => ⟨listed_keep hp.1, listed_keep hp.2⟩
  c9 := fun hk => ⟨listed_keep (h.c9 ((listed_set hk).resolve_left (by decide))).1, listed_keep (h.c9 ((listed_set hk).resolve_left (by decide))).2⟩
  l0 := fun hk => h.l0 ((listed_set hk).resolve_left (by decide))
  l1 := fun hk => h.l1 ((listed_set hk).resolve_left (by decide))
  l2 := fun hk => h.l2 ((listed_set hk).resolve_left (by decide))
  l3 := fun hk => h.l3 ((listed_set hk).resolve_left (by decide))
  l4 := fun hk => h.l4 ((listed_set hk).resolve_left (by decide))
  l5 := fun hk => h.l5 ((listed_set hk).resolve_left (by decide))
  l6 := fun hk => h.l6 ((listed_set hk).resolve_left (by decide))
  l7 := fun hk => h.l7 ((listed_set hk).resolve_left (by decide))
  l8 := fun _ => hz
theorem own_from {base : Nat} {e : TypeId} {s k : Nat} {v : Value} {xs : List Value} (h : w.ownsRow base e s v k xs) (hk : ∀ g, base ≤ g → w'.heap[g]? = w.heap[g]?) : w'.ownsRow base e s v k xs := by
  refine ⟨h.1, ?_⟩
  rcases h.2 with hn | ⟨g, cap, cur, rfl, hg, hgg, rest⟩
  · exact .inl hn
  · exact .inr ⟨g, cap, cur, rfl, hg, by rw [hk g hg]; exact hgg, rest⟩
theorem InvO.step9 (h : InvO w0 A F n c m d W E s3 s4 s5 s6 s7 s8 s9 s10 s11 l w) (hun : l.getD 9 true = false) (hp : l.getD 3 false = true ∧ l.getD 7 false = true) :
    InvO w0 A F n c m d W E s3 s4 s5 s6 s7 s8 s9 s10 s11 (l.setIfInBounds 9 true) ((w.setCell ⟨w0.heap.size + 1, 0, none⟩ s6).setCell ⟨w0.heap.size + 1, 1, none⟩ s10) := by
  obtain ⟨x, y, hc, _⟩ := h.cell
  have hk : ∀ g, w0.heap.size + 2 ≤ g → ((w.setCell ⟨w0.heap.size + 1, 0, none⟩ s6).setCell ⟨w0.heap.size + 1, 1, none⟩ s10).heap[g]? = w.heap[g]? := fun g hg => by
    rw [Below.heap_setCell _ _ _ _ (by show g ≠ w0.heap.size + 1; omega), Below.heap_setCell _ _ _ _ (by show g ≠ w0.heap.size + 1; omega)]
  have h1 := heap_setCell_same w (w0.heap.size + 1) 0 _ _ s6 hc
  have h2 := heap_setCell_same _ (w0.heap.size + 1) 1 _ _ s10 h1
  exact {
    size := by rw [Array.size_setIfInBounds]; exact h.size
    bel := (h.bel.setCell (Nat.le_refl _) _).setCell (Nat.le_refl _) _
    cell := ⟨s6, s10, h2, fun _ => ⟨rfl, rfl⟩⟩
    c8 := fun hk => ⟨listed_keep hp.1, listed_keep hp.2⟩
    c9 := fun _ => ⟨listed_keep hp.1, listed_keep hp.2⟩
    l0 := fun hk' => by
      obtain ⟨g, e, hg, hl⟩ := h.l0 ((listed_set hk').resolve_left (by decide))
      exact ⟨g, e, by rw [hk g hl]; exact hg, hl⟩
    l1 := fun hk => h.l1 ((listed_set hk).resolve_left (by decide))
    l2 := fun hk => h.l2 ((listed_set hk).resolve_left (by decide))
    l3 := fun _ => own_from (h.l3 hp.1) hk
    l4 := fun hk' => by
      obtain ⟨g, e, hg, hl⟩ := h.l4 ((listed_set hk').resolve_left (by decide))
      exact ⟨g, e, by rw [hk g hl]; exact hg, hl⟩
    l5 := fun hk => h.l5 ((listed_set hk).resolve_left (by decide))
    l6 := fun hk => h.l6 ((listed_set hk).resolve_left (by decide))
    l7 := fun _ => own_from (h.l7 hp.2) hk
    l8 := fun hk => h.l8 ((listed_set hk).resolve_left (by decide)) }
theorem un_start {k : Nat} (h : (Array.replicate 10 false).getD k false = true) : False := by
  rcases Nat.lt_or_ge k 10 with h1 | h1
  · simp [h1] at h
  · simp [Array.getElem?_eq_none (show (Array.replicate 10 false).size ≤ k by simpa using h1)] at h
end

set_option maxHeartbeats 2000000 in
theorem own_any (A F : Option Addr) (n c m d : Nat) (W : List Int) (E : List (Int × Int)) (w : World) (hn : W.length = n) (hl : n ≤ 1000) (hm : E.length = m) (hk : m ≤ 1000) (hI : Ints w w.heap.size A W) (hP : Pairs w w.heap.size F E) (hA : A = none → n = 0 ∧ c = 0) (hF : F = none → m = 0 ∧ d = 0) :
    Calls Tryz.prog 12 #[.agg #[.slice A n c, .slice F m d]] w (GotGr W E w) := by
  subst hn
  subst hm
  obtain ⟨i0, hi0, hz0, hz1, hz2⟩ := info_parts int_cell_info
  obtain ⟨j0, hj0, hy0, hy1, hy2⟩ := info_parts edge_cell_info
  go_enter Tryz.func12, Tryz.ntmps12
  go_wp2
  refine wp_region_inv (fun l a w' => ∃ s3 s4 s5 s6 s7 s8 s9 s10 s11 : Value, a = ⟨#[.agg #[.slice A W.length c, .slice F E.length d], .pointer (some ⟨w.heap.size, 0, none⟩), .pointer (some ⟨w.heap.size + 1, 0, none⟩), s3, s4, s5, s6, s7, s8, s9, s10, s11], []⟩ ∧
    InvO w A F W.length c E.length d W E s3 s4 s5 s6 s7 s8 s9 s10 s11 l w') (by kernel_rfl) ?h0 ?hstep ?hend
  case h0 =>
    refine ⟨undef, undef, undef, undef, undef, undef, undef, undef, undef, rfl, ?_⟩
    have hc := heap_alloc_new (w.alloc (.cells #[.slice A W.length c, .slice F E.length d] 25)) (.cells #[.slice none 0 0, .slice none 0 0] 25)
    rw [show (w.alloc (.cells #[.slice A W.length c, .slice F E.length d] 25)).heap.size = w.heap.size + 1 by simp] at hc
    exact {
      size := by simp
      bel := ((Below.refl _ _).alloc (by simp) _).drew
      cell := ⟨_, _, hc, fun hk => (un_start hk).elim⟩
      c8 := fun hk => (un_start hk).elim
      c9 := fun hk => (un_start hk).elim
      l0 := fun hk => (un_start hk).elim
      l1 := fun hk => (un_start hk).elim
      l2 := fun hk => (un_start hk).elim
      l3 := fun hk => (un_start hk).elim
      l4 := fun hk => (un_start hk).elim
      l5 := fun hk => (un_start hk).elim
      l6 := fun hk => (un_start hk).elim
      l7 := fun hk => (un_start hk).elim
      l8 := fun hk => (un_start hk).elim }
  case hstep =>
    rintro l a w' i ⟨s3, s4, s5, s6, s7, s8, s9, s10, s11, rfl, HV⟩ hi
    obtain ⟨hun, o, ho, hpre⟩ := mem_ready.1 hi
    clear hi
    have hlt : i < 10 := by
      rcases Nat.lt_or_ge i 10 with h | h
      · exact h
      · rw [Array.getElem?_eq_none (by simpa using h)] at ho; cases ho
    have hsz := HV.lt
    have hbx0 : w'.cell? ⟨w.heap.size, 0, none⟩ = some (.slice A W.length c) := (HV.bel.cell (Nat.lt_succ_self _)).trans (by rw [World.cell?_alloc_at _ _ _ _ rfl]; rfl)
    have hbx1 : w'.cell? ⟨w.heap.size, 1, none⟩ = some (.slice F E.length d) := (HV.bel.cell (Nat.lt_succ_self _)).trans (by rw [World.cell?_alloc_at _ _ _ _ rfl]; rfl)
    match i, hlt with
    | 0, _ =>
      clear ho hpre
      refine wpOp_at rfl rfl ?_
      go_simp
      refine ⟨_, _, _, _, _, _, _, _, _, ⟨rfl, rfl, rfl, rfl, rfl, rfl, rfl, rfl, rfl⟩, (HV.mono (below_alloc _)).step0 hun ⟨w'.heap.size, rfl, heap_alloc_new w' _, hsz⟩⟩
    | 1, _ =>
      clear ho hpre
      refine wpOp_at rfl rfl ?_
      go_simp
      exact ⟨_, _, _, _, _, _, _, _, _, ⟨rfl, rfl, rfl, rfl, rfl, rfl, rfl, rfl, rfl⟩, HV.step1 hun rfl⟩
    | 2, _ =>
      have h4 := HV.l1 (by have := (Option.some.inj ho).symm; subst this; exact hpre ⟨1, .data⟩ (by simp) (by rfl))
      subst h4
      clear ho hpre
      refine wpOp_at rfl rfl ?_
      go_simp
      exact ⟨_, _, _, _, _, _, _, _, _, ⟨rfl, rfl, rfl, rfl, rfl, rfl, rfl, rfl, rfl⟩, HV.step2 hun rfl⟩
    | 3, _ =>
      obtain ⟨g, rfl, hg, hgl⟩ := HV.l0 (by have := (Option.some.inj ho).symm; subst this; exact hpre ⟨0, .data⟩ (by simp) (by rfl))
      have h5 := HV.l2 (by have := (Option.some.inj ho).symm; subst this; exact hpre ⟨2, .data⟩ (by simp) (by rfl))
      subst h5
      clear ho hpre
      obtain ⟨v', w2, hr, how, hb⟩ := fresh_append w' 22 22 3 i0 (.int .i64 0) 1 8 Tryz.underlying22 hi0 hz0 hz1 hz2 rfl (by omega) (w.heap.size + 2) g hg hgl hsz A W.length c (W.map (Value.int .i64)) (by simp) hA
        (fun ad e => by subst e; exact (hI.keep (w' := w') fun q hq => (HV.bel.cell (by omega)).trans (World.cell?_alloc_lt w _ q hq)).cells) (oneCell_ints W) (by unfold maxLen; omega) (by omega)
      refine wpOp_at rfl rfl (wp_append_run rfl rfl rfl hr ?_)
      exact ⟨_, _, _, _, _, _, _, _, _, rfl, (HV.mono hb).step3 hun how⟩
    | 4, _ =>
      clear ho hpre
      refine wpOp_at rfl rfl ?_
      go_simp
      refine ⟨_, _, _, _, _, _, _, _, _, ⟨rfl, rfl, rfl, rfl, rfl, rfl, rfl, rfl, rfl⟩, (HV.mono (below_alloc _)).step4 hun ⟨w'.heap.size, rfl, heap_alloc_new w' _, hsz⟩⟩
    | 5, _ =>
      clear ho hpre
      refine wpOp_at rfl rfl ?_
      go_simp
      exact ⟨_, _, _, _, _, _, _, _, _, ⟨rfl, rfl, rfl, rfl, rfl, rfl, rfl, rfl, rfl⟩, HV.step5 hun rfl⟩
    | 6, _ =>
      have h4 := HV.l5 (by have := (Option.some.inj ho).symm; subst this; exact hpre ⟨5, .data⟩ (by simp) (by rfl))
      subst h4
      clear ho hpre
      refine wpOp_at rfl rfl ?_
      go_simp
      exact ⟨_, _, _, _, _, _, _, _, _, ⟨rfl, rfl, rfl, rfl, rfl, rfl, rfl, rfl, rfl⟩, HV.step6 hun rfl⟩
    | 7, _ =>
      obtain ⟨g, rfl, hg, hgl⟩ := HV.l4 (by have := (Option.some.inj ho).symm; subst this; exact hpre ⟨4, .data⟩ (by simp) (by rfl))
      have h5 := HV.l6 (by have := (Option.some.inj ho).symm; subst this; exact hpre ⟨6, .data⟩ (by simp) (by rfl))
      subst h5
      clear ho hpre
      obtain ⟨v', w2, hr, how, hb⟩ := fresh_append w' 23 23 179 j0 (.agg #[.int .i64 0, .int .i64 0]) 2 16 Tryz.underlying23 hj0 hy0 hy1 hy2 rfl (by omega) (w.heap.size + 2) g hg hgl hsz F E.length d (flatE E) (flatE_length E) hF
        (fun ad e => by subst e; exact (hP.keep (w' := w') fun q hq => (HV.bel.cell (by omega)).trans (World.cell?_alloc_lt w _ q hq)).news) (flatE_one E) (by unfold maxLen; omega) (by omega)
      refine wpOp_at rfl rfl (wp_append_run rfl rfl rfl hr ?_)
      exact ⟨_, _, _, _, _, _, _, _, _, rfl, (HV.mono hb).step7 hun how⟩
    | 8, _ =>
      have q3 : l.getD 3 false = true := by have := (Option.some.inj ho).symm; subst this; exact hpre ⟨3, .data⟩ (by simp) (by rfl)
      have q7 : l.getD 7 false = true := by have := (Option.some.inj ho).symm; subst this; exact hpre ⟨7, .data⟩ (by simp) (by rfl)
      clear ho hpre
      obtain ⟨A1, c1, rfl, _⟩ := (HV.l3 q3).slice
      obtain ⟨A2, c2, rfl, _⟩ := (HV.l7 q7).slice
      refine wpOp_at rfl rfl ?_
      go_simp
      exact ⟨_, _, _, _, _, _, _, _, _, ⟨rfl, rfl, rfl, rfl, rfl, rfl, rfl, rfl, rfl⟩, HV.step8 hun ⟨q3, q7⟩ rfl⟩
    | 9, _ =>
      have q8 := HV.l8 (by have := (Option.some.inj ho).symm; subst this; exact hpre ⟨8, .data⟩ (by simp) (by rfl))
      have q7 : l.getD 7 false = true := by have := (Option.some.inj ho).symm; subst this; exact hpre ⟨7, .phase⟩ (by simp) (by rfl)
      have q3 : l.getD 3 false = true := by have := (Option.some.inj ho).symm; subst this; exact hpre ⟨3, .phase⟩ (by simp) (by rfl)
      clear ho hpre
      subst q8
      obtain ⟨A1, c1, rfl, _⟩ := (HV.l3 q3).slice
      obtain ⟨A2, c2, rfl, _⟩ := (HV.l7 q7).slice
      obtain ⟨x, y, hc, _⟩ := HV.cell
      have hx := cell_of_row w' _ 0 _ _ _ hc
      have hy := cell_of_row w' _ 1 _ _ _ hc
      have hfx := frozen_of_row w' _ 0 _ _ hc
      have hfy := frozen_of_row w' _ 1 _ _ hc
      simp at hx hy
      refine wpOp_at rfl rfl ?_
      go_simp
      exact ⟨_, _, _, _, _, _, _, _, _, ⟨rfl, rfl, rfl, rfl, rfl, rfl, rfl, rfl, rfl⟩, HV.step9 hun ⟨q3, q7⟩⟩
  case hend =>
    rintro l a w' ⟨s3, s4, s5, s6, s7, s8, s9, s10, s11, rfl, HV⟩ hr
    have hall := all_listed HV.size (back_of (by kernel_rfl)) hr
    obtain ⟨x, y, hc, he⟩ := HV.cell
    obtain ⟨rfl, rfl⟩ := he (hall 9 (by decide))
    have hu := HV.l3 (hall 3 (by decide))
    have hv := HV.l7 (hall 7 (by decide))
    obtain ⟨A1, c1, rfl, _⟩ := hu.slice
    obtain ⟨A2, c2, rfl, _⟩ := hv.slice
    have hx := cell_of_row w' _ 0 _ _ _ hc
    have hy := cell_of_row w' _ 1 _ _ _ hc
    simp at hx hy
    have HB := HV.bel
    clear HV hall hr
    go_wp2
    exact bodyPost_ret (by simp [results, Tryz.results12, go_sem, hx, hy]) rfl ⟨_, _, rfl, own_less hu (by omega), own_less hv (by omega), (below_alloc _).trans (HB.mono (by omega))⟩
end Go.Proofs.YtfahabphncmbfaaGreatDoor
set_option linter.unusedVariables false
namespace Go.Proofs.YtfahabphncmbfaaGreatDoor
open Go.RowKit

/-- A graph, as it is handed over: two slices that read as its works and its edges. -/
structure IsG (w : World) (A : Option Addr) (n c : Nat) (F : Option Addr) (m d : Nat) (W : List Int) (E : List (Int × Int)) : Prop where
  hn : W.length = n
  hm : E.length = m
  ln : n ≤ 400
  lm : m ≤ 400
  ints : Ints w w.heap.size A W
  pairs : Pairs w w.heap.size F E
  hA : A = none → n = 0 ∧ c = 0
  hF : F = none → m = 0 ∧ d = 0
  tab : Tab64 w
theorem IsG.below {w w' : World} {A : Option Addr} {n c : Nat} {F : Option Addr} {m d : Nat} {W : List Int} {E : List (Int × Int)} (h : IsG w A n c F m d W E) (hb : Below w.heap.size w w') : IsG w' A n c F m d W E :=
  ⟨h.hn, h.hm, h.ln, h.lm, (h.ints.below hb).more hb.size, (h.pairs.below hb).more hb.size, h.hA, h.hF, h.tab.via hb⟩
theorem OwnI.none_nil {w : World} {b : Nat} {n c : Nat} {zs : List Int} (h : OwnI w b (.slice none n c) zs) : n = 0 ∧ c = 0 := by
  rcases h.2 with ⟨hv, hn⟩ | ⟨g, cap, cur, hv, _⟩
  · injection hv with _ h1 h2
    exact ⟨h1, h2⟩
  · injection hv with h1
    cases h1
theorem OwnE.none_nil {w : World} {b : Nat} {n c : Nat} {es : List (Int × Int)} (h : OwnE w b (.slice none n c) es) : n = 0 ∧ c = 0 := by
  rcases h.2 with ⟨hv, hn⟩ | ⟨g, cap, cur, hv, _⟩
  · injection hv with _ h1 h2
    exact ⟨h1, h2⟩
  · injection hv with h1
    cases h1
theorem own_isG {w : World} {b : Nat} {u v : Value} {W : List Int} {E : List (Int × Int)} (ht : Tab64 w) (hu : OwnI w b u W) (hv : OwnE w b v E) (hW : W.length ≤ 400) (hE : E.length ≤ 400) :
    ∃ A c F d, u = .slice A W.length c ∧ v = .slice F E.length d ∧ IsG w A W.length c F E.length d W E := by
  obtain ⟨A, c, rfl, h1⟩ := hu.slice
  obtain ⟨F, d, rfl, h2⟩ := hv.slice
  refine ⟨A, c, F, d, rfl, rfl, ⟨rfl, rfl, hW, hE, h1, h2, ?_, ?_, ht⟩⟩
  · rintro rfl; exact hu.none_nil
  · rintro rfl; exact hv.none_nil

open Classical in
noncomputable def totalV (W : List Int) (E : List (Int × Int)) : Int := if May W E then W.sum else 0
open Classical in
noncomputable def orderV (W : List Int) (E : List (Int × Int)) : List Int := if May W E then nums (ord W.length E) else []
open Classical in
noncomputable def predsV (W : List Int) (E : List (Int × Int)) (x : Int) : List Int := if May W E then predsL W.length E x else []
open Classical in
noncomputable def succsV (W : List Int) (E : List (Int × Int)) (x : Int) : List Int := if May W E then succsL W.length E x else []
open Classical in
noncomputable def beforeV (W : List Int) (E : List (Int × Int)) (a b : Int) : Bool := if May W E ∧ 0 ≤ a ∧ 0 ≤ b ∧ Way E a.toNat b.toNat then true else false
open Classical in
noncomputable def longV (W : List Int) (E : List (Int × Int)) : Int := if May W E then most (farK W E W.length) else 0

/-! The chapter's example -/
theorem acyc_of {n : Nat} {E : List (Int × Int)} (hF : Fits n E) (h : ∀ a, a < n → (reach n E a).getD a false = false) : Acyc E := fun a ha => by
  have h1 := (reach_iff hF a a).mpr ha
  rw [h a (ha.lt hF).1] at h1
  cases h1
def exW : List Int := [2, 3, 4]
def exE : List (Int × Int) := [(0, 2), (1, 2)]
theorem exFits : Fits 3 exE := by unfold Fits; decide
theorem exMay : May exW exE := ⟨by decide, by decide, by unfold WorkOk; decide, exFits, by decide, by decide, acyc_of exFits (by decide)⟩
theorem exCheck : chkE exW exE = 0 := chkE_zero.mpr exMay
theorem exTotal : totalV exW exE = 9 := by unfold totalV; rw [if_pos exMay]; decide
theorem exLong : longV exW exE = 7 := by unfold longV; rw [if_pos exMay]; decide
theorem exOrder : orderV exW exE = [0, 1, 2] := by unfold orderV; rw [if_pos exMay]; decide
theorem exPreds : predsV exW exE 2 = [0, 1] := by unfold predsV; rw [if_pos exMay]; decide
theorem exSuccs : succsV exW exE 0 = [2] := by unfold succsV; rw [if_pos exMay]; decide
theorem exBefore1 : beforeV exW exE 1 2 = true := by
  unfold beforeV
  rw [if_pos]
  exact ⟨exMay, by decide, by decide, (reach_iff exFits 1 2).mp (by decide)⟩
theorem exBefore0 : beforeV exW exE 0 1 = false := by
  unfold beforeV
  rw [if_neg]
  rintro ⟨_, _, _, h⟩
  have := (reach_iff exFits 0 1).mpr h
  revert this
  decide
def roW : List Int := [1, 1]
def roE : List (Int × Int) := [(0, 1), (1, 0)]
theorem roFits : Fits 2 roE := by unfold Fits; decide
theorem roCheck : chkE roW roE = 43 := by
  refine chkE_round (plainE_zero.mpr ⟨by decide, by unfold WorkOk; decide, roFits, by decide, by decide⟩) (fun h => h 0 ?_)
  exact (reach_iff roFits 0 0).mp (by decide)
end Go.Proofs.YtfahabphncmbfaaGreatDoor
set_option linter.unusedVariables false
namespace Go.Proofs.YtfahabphncmbfaaGreatDoor
open Go.RowKit

section
variable {A : Option Addr} {n c : Nat} {F : Option Addr} {m d : Nat} {W : List Int} {E : List (Int × Int)}
/-- A graph that was read: for each node those that it waits for, and the order. -/
structure IsR (w : World) (g n : Nat) (A : Option Addr) (c : Nat) (E : List (Int × Int)) (w' : World) : Prop where
  bel : Below w.heap.size w w'
  ints : Ints w' w'.heap.size A (nums (ord n E))
  row : ∃ ps, RowN g ps w' ∧ PredsOf n E ps
  low : ∀ b o s, A = some ⟨b, o, s⟩ → w.heap.size ≤ b
theorem link_yes (n : Nat) (w : World) (hl : n ≤ 64) (hm : E.length = m) (hk : m ≤ 1000) (hP : Pairs w w.heap.size F E) (h : EdgesOk n E) :
    Calls Tryz.prog 168 #[.int .i64 n, .slice F m d] w fun e w' => ∃ g, e = .returned (.tuple #[.slice (some ⟨g, 0, none⟩) n n, .bool true]) ∧ Below w.heap.size w w' ∧ w.heap.size ≤ g ∧ ∃ ps, RowN g ps w' ∧ PredsOf n E ps := by
  refine (link_any F n m d E w hl hm hk hP).mono ?_
  rintro e w' ⟨b, ⟨_, g, ps, he, hg, h1, h2⟩ | ⟨hn, _⟩⟩
  · exact ⟨g, he, b, hg, ps, h1, h2⟩
  · exact absurd h hn
theorem link_not (n : Nat) (w : World) (hl : n ≤ 64) (hm : E.length = m) (hk : m ≤ 1000) (hP : Pairs w w.heap.size F E) (h : ¬ EdgesOk n E) :
    Calls Tryz.prog 168 #[.int .i64 n, .slice F m d] w fun e w' => e = .returned (.tuple #[.slice none 0 0, .bool false]) ∧ Below w.heap.size w w' := by
  refine (link_any F n m d E w hl hm hk hP).mono ?_
  rintro e w' ⟨b, ⟨hy, _⟩ | ⟨_, he⟩⟩
  · exact absurd hy h
  · exact ⟨he, b⟩
theorem arrange_yes (g n : Nat) (w : World) (hl : n ≤ 64) (hF : Fits n E) (hR : ∃ ps, RowN g ps w ∧ PredsOf n E ps) (h : Acyc E) :
    Calls Tryz.prog 169 #[.slice (some ⟨g, 0, none⟩) n n] w fun e w' => ∃ A c, e = .returned (.tuple #[.slice A n c, .bool true]) ∧ Below w.heap.size w w' ∧ OwnI w' w.heap.size (.slice A n c) (nums (ord n E)) := by
  obtain ⟨ps, hV, hPS⟩ := hR
  refine (arrange_any g n E ps w hl hF hPS hV).mono ?_
  rintro e w' ⟨b, ⟨_, A, c, he, hI⟩ | ⟨hn, _⟩⟩
  · exact ⟨A, c, he, b, hI⟩
  · exact absurd h hn
theorem arrange_not (g n : Nat) (w : World) (hl : n ≤ 64) (hF : Fits n E) (hR : ∃ ps, RowN g ps w ∧ PredsOf n E ps) (h : ¬ Acyc E) :
    Calls Tryz.prog 169 #[.slice (some ⟨g, 0, none⟩) n n] w fun e w' => e = .returned (.tuple #[.slice none 0 0, .bool false]) ∧ Below w.heap.size w w' := by
  obtain ⟨ps, hV, hPS⟩ := hR
  refine (arrange_any g n E ps w hl hF hPS hV).mono ?_
  rintro e w' ⟨b, ⟨hy, _⟩ | ⟨_, he⟩⟩
  · exact absurd hy h
  · exact ⟨he, b⟩
/-- In the middle of read: the graph in a box, the result's variable in another. -/
structure StR (w : World) (A : Option Addr) (n c : Nat) (F : Option Addr) (m d : Nat) (W : List Int) (E : List (Int × Int)) (w' : World) : Prop where
  bel : Below w.heap.size w w'
  p0 : w'.cell? ⟨w.heap.size, 0, none⟩ = some (.slice A n c)
  p1 : w'.cell? ⟨w.heap.size, 1, none⟩ = some (.slice F m d)
  q : w'.heap[w.heap.size + 1]? = some (.cells #[.slice none 0 0, .slice none 0 0] 171 (0, 0))
  g : IsG w' A n c F m d W E
theorem StR.lt {w w' : World} (h : StR w A n c F m d W E w') : w.heap.size + 1 < w'.heap.size := (Array.getElem?_eq_some_iff.1 h.q).1
theorem StR.next {w w1 w2 : World} (h : StR w A n c F m d W E w1) (hb : Below w1.heap.size w1 w2) : StR w A n c F m d W E w2 :=
  ⟨h.bel.trans (hb.mono h.bel.size), (hb.cell (World.block_lt_of_cell? _ _ h.p0)).trans h.p0, (hb.cell (World.block_lt_of_cell? _ _ h.p1)).trans h.p1, by rw [hb.block _ h.lt]; exact h.q, h.g.below hb⟩
theorem StR.start {w : World} (h : IsG w A n c F m d W E) : StR w A n c F m d W E ((w.alloc (.cells #[.slice A n c, .slice F m d] 25)).alloc (.cells #[.slice none 0 0, .slice none 0 0] 171)) := by
  obtain ⟨w1, h1⟩ : ∃ w1, w1 = w.alloc (.cells #[.slice A n c, .slice F m d] 25) := ⟨_, rfl⟩
  rw [← h1]
  have s1 : w1.heap.size = w.heap.size + 1 := by rw [h1]; simp
  have b1 : Below w.heap.size w w1 := by rw [h1]; exact below_alloc _
  have b2 := below_alloc (w := w1) (.cells #[.slice none 0 0, .slice none 0 0] 171)
  refine ⟨b1.trans (b2.mono (by omega)), ?_, ?_, ?_, (h.below b1).below b2⟩
  · refine (b2.cell (by show w.heap.size < _; omega)).trans ?_
    rw [h1, World.cell?_alloc_at _ _ _ _ rfl]; rfl
  · refine (b2.cell (by show w.heap.size < _; omega)).trans ?_
    rw [h1, World.cell?_alloc_at _ _ _ _ rfl]; rfl
  · rw [← s1]; exact heap_alloc_new w1 _
theorem StR.cells {w w' : World} (h : StR w A n c F m d W E w') : w'.cell? ⟨w.heap.size, 0, none⟩ = some (.slice A n c) ∧ w'.cell? ⟨w.heap.size, 1, none⟩ = some (.slice F m d) ∧
    w'.cell? ⟨w.heap.size + 1, 0, none⟩ = some (.slice none 0 0) ∧ w'.cell? ⟨w.heap.size + 1, 1, none⟩ = some (.slice none 0 0) ∧ w'.frozen? ⟨w.heap.size + 1, 0, none⟩ = false ∧ w'.frozen? ⟨w.heap.size + 1, 1, none⟩ = false :=
  ⟨h.p0, h.p1, by rw [cell_of_row _ _ _ _ _ _ h.q]; rfl, by rw [cell_of_row _ _ _ _ _ _ h.q]; rfl, frozen_of_row _ _ _ _ _ h.q, frozen_of_row _ _ _ _ _ h.q⟩

set_option maxRecDepth 100000 in
set_option maxHeartbeats 4000000 in
theorem read_not (w : World) (h : IsG w A n c F m d W E) (hM : ¬ May W E) :
    Calls Tryz.prog 124 #[.agg #[.slice A n c, .slice F m d]] w fun e w' => e = .returned (.tuple #[.agg #[.slice none 0 0, .slice none 0 0], .int .i64 (chkE W E)]) ∧ Below w.heap.size w w' := by
  have B0 := Lib.hid (StR.start h)
  have ln := h.ln
  have lm := h.lm
  have HN := Lib.hid h.hn
  have HEM := Lib.hid h.hm
  have CR := Lib.hid (fun (W' : World) (h : IsG W' A n c F m d W E) (r : Bool) (hr : r = true ↔ WorkOk W) => right_any A c n W W' h.hn (by have := h.ln; omega) h.ints r hr)
  obtain ⟨r, hr⟩ : ∃ r, r = chkE W E := ⟨_, rfl⟩
  rw [← hr]
  have HR := Lib.hid hr
  clear hr h
  by_cases hmany : 64 < n ∨ 256 < m
  · have HX := Lib.hid (show chkE W E = 40 by
      have e := plainE_many (W := W) (E := E) (by rw [HN.out, HEM.out]; exact hmany)
      rw [chkE_plain (by rw [e]; decide), e])
    rcases (show 64 < n ∨ (n ≤ 64 ∧ 256 < m) by omega) with h1 | ⟨h1, h2⟩
    · clear hmany
      go_enter Tryz.func124, Tryz.ntmps124
      go_wp2
      (try simp only [Exit.inBlock, Exit.then])
      refine bodyPost_ret (v := .tuple #[.agg #[.slice none 0 0, .slice none 0 0], .int .i64 r]) ?_ rfl ⟨rfl, ?_⟩
      · rw [results_cell_tmp rfl, HR.out, HX.out]
        go_simp
      · exact B0.out.bel
    · clear hmany
      go_enter Tryz.func124, Tryz.ntmps124
      go_wp2
      (try simp only [Exit.inBlock, Exit.then])
      refine bodyPost_ret (v := .tuple #[.agg #[.slice none 0 0, .slice none 0 0], .int .i64 r]) ?_ rfl ⟨rfl, ?_⟩
      · rw [results_cell_tmp rfl, HR.out, HX.out]
        go_simp
      · exact B0.out.bel
  · have HMANY : Hid (¬ (64 < W.length ∨ 256 < E.length)) := Lib.hid (by rw [HN.out, HEM.out]; exact hmany)
    have hn64 : n ≤ 64 := by omega
    have hm256 : m ≤ 256 := by omega
    clear hmany
    by_cases hW : WorkOk W
    · have C1 := Lib.hid (fun W' h => CR.out W' h true ⟨fun _ => hW, fun _ => rfl⟩)
      by_cases hE : EdgesOk n E
      · have C2 := Lib.hid (fun (w' : World) (h : IsG w' A n c F m d W E) => link_yes (d := d) n w' hn64 h.hm (by omega) h.pairs hE)
        have hp0 : plainE W E = 0 := plainE_zero.mpr ⟨by have := HMANY.out; omega, hW, by rw [HN.out]; exact hE⟩
        have hA : ¬ Acyc E := fun hA => hM (chkE_zero.mp (chkE_ok hp0 hA))
        have HX := Lib.hid (chkE_round hp0 hA)
        have C3 := Lib.hid (fun g w' hR => arrange_not g n w' hn64 hE.1 hR hA)
        clear hW hE hp0 hA hM
        go_enter Tryz.func124, Tryz.ntmps124
        go_wp2_with fail
        refine (C1.out _ B0.out.g).mono ?_
        rintro e w1 ⟨rfl, rfl⟩
        go_wp2_with fail
        refine (C2.out _ B0.out.g).mono ?_
        rintro e w2 ⟨g, rfl, b, hgg, hR⟩
        have HGG := Lib.hid hgg
        have B2 := Lib.hid (B0.out.next b)
        have HRR := Lib.hid hR
        clear b hR hgg
        obtain ⟨c1, c2, c3, c4, c5, c6⟩ := B2.out.cells
        go_wp2_with fail
        refine (C3.out _ _ HRR.out).mono ?_
        rintro e w3 ⟨rfl, b⟩
        have B3 := Lib.hid (B2.out.next b)
        clear b c1 c2 c3 c4 c5 c6
        obtain ⟨c1, c2, c3, c4, c5, c6⟩ := B3.out.cells
        have hlt := B3.out.lt
        go_wp2
        (try simp only [Exit.inBlock, Exit.then])
        refine bodyPost_ret (v := .tuple #[.agg #[.slice none 0 0, .slice none 0 0], .int .i64 r]) ?_ rfl ⟨rfl, ?_⟩
        · rw [results_cell_tmp rfl, HR.out, HX.out]
          go_simp
        · refine (B3.out.bel.setCell ?_ _).setCell ?_ _
          · show w.heap.size ≤ w.heap.size + 1; omega
          · show w.heap.size ≤ w.heap.size + 1; omega
      · have C2 := Lib.hid (fun (w' : World) (h : IsG w' A n c F m d W E) => link_not (d := d) n w' hn64 h.hm (by omega) h.pairs hE)
        have HX := Lib.hid (show chkE W E = 42 by
          have e := plainE_edge HMANY.out hW (by rw [HN.out]; exact hE)
          rw [chkE_plain (by rw [e]; decide), e])
        clear hW hE hM
        go_enter Tryz.func124, Tryz.ntmps124
        go_wp2_with fail
        refine (C1.out _ B0.out.g).mono ?_
        rintro e w1 ⟨rfl, rfl⟩
        go_wp2_with fail
        refine (C2.out _ B0.out.g).mono ?_
        rintro e w2 ⟨rfl, b⟩
        have B2 := Lib.hid (B0.out.next b)
        clear b
        obtain ⟨c1, c2, c3, c4, c5, c6⟩ := B2.out.cells
        have hlt := B2.out.lt
        go_wp2
        (try simp only [Exit.inBlock, Exit.then])
        refine bodyPost_ret (v := .tuple #[.agg #[.slice none 0 0, .slice none 0 0], .int .i64 r]) ?_ rfl ⟨rfl, ?_⟩
        · rw [results_cell_tmp rfl, HR.out, HX.out]
          go_simp
        · refine (B2.out.bel.setCell ?_ _).setCell ?_ _
          · show w.heap.size ≤ w.heap.size + 1; omega
          · show w.heap.size ≤ w.heap.size + 1; omega
    · have C1 := Lib.hid (fun W' h => CR.out W' h false ⟨fun q => Bool.noConfusion q, fun q => absurd q hW⟩)
      have HX := Lib.hid (show chkE W E = 41 by
        have e := plainE_work HMANY.out hW
        rw [chkE_plain (by rw [e]; decide), e])
      clear hW hM
      go_enter Tryz.func124, Tryz.ntmps124
      go_wp2_with fail
      refine (C1.out _ B0.out.g).mono ?_
      rintro e w1 ⟨rfl, rfl⟩
      go_wp2
      (try simp only [Exit.inBlock, Exit.then])
      refine bodyPost_ret (v := .tuple #[.agg #[.slice none 0 0, .slice none 0 0], .int .i64 r]) ?_ rfl ⟨rfl, ?_⟩
      · rw [results_cell_tmp rfl, HR.out, HX.out]
        go_simp
      · exact B0.out.bel
set_option maxRecDepth 100000 in
set_option maxHeartbeats 4000000 in
theorem read_ok (w : World) (h : IsG w A n c F m d W E) (hM : May W E) :
    Calls Tryz.prog 124 #[.agg #[.slice A n c, .slice F m d]] w fun e w' => ∃ g A' c', e = .returned (.tuple #[.agg #[.slice (some ⟨g, 0, none⟩) n n, .slice A' n c'], .int .i64 0]) ∧ IsR w g n A' c' E w' := by
  have B0 := Lib.hid (StR.start h)
  have hn64 : n ≤ 64 := by rw [← h.hn]; exact hM.nodes
  have hm256 : m ≤ 256 := by rw [← h.hm]; exact hM.edges
  have hF : Fits n E := by rw [← h.hn]; exact hM.fits
  have C1 := Lib.hid (fun (W' : World) (h : IsG W' A n c F m d W E) => right_any A c n W W' h.hn (by have := h.ln; omega) h.ints true ⟨fun _ => hM.work, fun _ => rfl⟩)
  have C2 := Lib.hid (fun (w' : World) (h : IsG w' A n c F m d W E) => link_yes (d := d) n w' hn64 h.hm (by omega) h.pairs ⟨hF, hM.apart, hM.once⟩)
  have C3 := Lib.hid (fun g w' hR => arrange_yes g n w' hn64 hF hR hM.acyc)
  clear h hM hF
  go_enter Tryz.func124, Tryz.ntmps124
  go_wp2_with fail
  refine (C1.out _ B0.out.g).mono ?_
  rintro e w1 ⟨rfl, rfl⟩
  go_wp2_with fail
  refine (C2.out _ B0.out.g).mono ?_
  rintro e w2 ⟨g, rfl, b, hgg, hR⟩
  have HGG := Lib.hid hgg
  have B2 := Lib.hid (B0.out.next b)
  have HRR := Lib.hid hR
  clear b hR hgg
  obtain ⟨c1, c2, c3, c4, c5, c6⟩ := B2.out.cells
  go_wp2_with fail
  refine (C3.out _ _ HRR.out).mono ?_
  rintro e w3 ⟨A', c', rfl, b, hI⟩
  have B3 := Lib.hid (B2.out.next b)
  have HIN := Lib.hid hI
  have HR3 : Hid (∃ ps, RowN g ps w3 ∧ PredsOf n E ps) := Lib.hid (by
    obtain ⟨ps, h1, h2⟩ := HRR.out
    exact ⟨ps, h1.below b h1.lt, h2⟩)
  clear b c1 c2 c3 c4 c5 c6 hI
  obtain ⟨c1, c2, c3, c4, c5, c6⟩ := B3.out.cells
  have hlt := B3.out.lt
  go_wp2
  (try simp only [Exit.inBlock, Exit.then])
  refine bodyPost_ret (v := .tuple #[.agg #[.slice (some ⟨g, 0, none⟩) n n, .slice A' n c'], .int .i64 0]) ?_ rfl ⟨g, A', c', rfl, ?_⟩
  · rw [results_cell_tmp rfl]
    go_simp
  · have hs2 := B2.out.lt
    have hg0 : w.heap.size + 1 < g := by
      have := HGG.out
      have := B0.out.lt
      omega
    have hs : ∀ k, w.heap.size + 1 < k → ((w3.setCell ⟨w.heap.size + 1, 0, none⟩ (.slice (some ⟨g, 0, none⟩) n n)).setCell ⟨w.heap.size + 1, 1, none⟩ (.slice A' n c')).heap[k]? = w3.heap[k]? := fun k hk => by
      have hne : ¬ w.heap.size + 1 = k := by omega
      simp [World.setCell, Array.getElem?_modify, hne]
    have hO := own_from (w' := ((w3.setCell ⟨w.heap.size + 1, 0, none⟩ (.slice (some ⟨g, 0, none⟩) n n)).setCell ⟨w.heap.size + 1, 1, none⟩ (.slice A' n c'))) HIN.out (fun k hk => hs k (by omega))
    refine ⟨(B3.out.bel.setCell ?_ _).setCell ?_ _, ?_, ?_, fun b o s e => ?_⟩
    · show w.heap.size ≤ w.heap.size + 1; omega
    · show w.heap.size ≤ w.heap.size + 1; omega
    · obtain ⟨A2, c2, he, hI⟩ := OwnI.slice hO
      injection he with e1 e2 e3
      subst e1
      exact hI
    · obtain ⟨ps, h1, h2⟩ := HR3.out
      exact ⟨ps, (hs g hg0).trans h1, h2⟩
    · have hI := HIN.out
      subst e
      rcases hI.2 with ⟨h, _⟩ | ⟨g', cap, cur, h, hg', _⟩
      · injection h with h
        cases h
      · injection h with h
        have : b = g' := by
          injection h with h
          injection h
        omega
theorem read_any (w : World) (h : IsG w A n c F m d W E) :
    Calls Tryz.prog 124 #[.agg #[.slice A n c, .slice F m d]] w fun e w' => ∃ u v, e = .returned (.tuple #[.agg #[u, v], .int .i64 (chkE W E)]) ∧ Below w.heap.size w w' := by
  by_cases hM : May W E
  · refine (read_ok w h hM).mono ?_
    rintro e w' ⟨g, A', c', rfl, hR⟩
    exact ⟨_, _, by rw [chkE_zero.mpr hM], hR.bel⟩
  · refine (read_not w h hM).mono ?_
    rintro e w' ⟨rfl, b⟩
    exact ⟨_, _, rfl, b⟩
end
end Go.Proofs.YtfahabphncmbfaaGreatDoor
