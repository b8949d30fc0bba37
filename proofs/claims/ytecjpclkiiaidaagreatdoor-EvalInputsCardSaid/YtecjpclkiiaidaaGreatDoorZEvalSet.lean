/- Words for a memory that is written in place, in the seat YtecjpclkiiaidaaGreatDoor. No statement is proved here. -/
import Derived.Test.YtecjpclkiiaidaaGreatDoorZEvalNew
import Derived.Test.YtecjpclkiiaidaaGreatDoorZEvalComeAll
import Derived.Test.YtecjpclkiiaidaaGreatDoorZM29
set_option linter.unusedSimpArgs false
set_option linter.unusedVariables false
namespace Go.Proofs.YtecjpclkiiaidaaGreatDoor
open Go.RowKit

/-- A block whose first cells are these. -/
def RowC (g : Nat) (t : TypeId) (xs : List Value) (w : World) : Prop := ∃ tl : List Value, w.heap[g]? = some (.cells (xs ++ tl).toArray t (0, 0))
section
variable {g : Nat} {t : TypeId} {xs : List Value} {w w' : World}
theorem RowC.lt (h : RowC g t xs w) : g < w.heap.size := by
  obtain ⟨tl, h⟩ := h
  exact (Array.getElem?_eq_some_iff.1 h).1
theorem RowC.same (h : RowC g t xs w) (hk : w'.heap[g]? = w.heap[g]?) : RowC g t xs w' := by
  obtain ⟨tl, h⟩ := h
  exact ⟨tl, by rw [hk]; exact h⟩
theorem RowC.below {B : Nat} (h : RowC g t xs w) (hb : Below B w w') (hB : g < B) : RowC g t xs w' := h.same (hb.block g hB)
theorem RowC.cell (h : RowC g t xs w) {j : Nat} {v : Value} (hj : xs[j]? = some v) : w.cell? ⟨g, j, none⟩ = some v := by
  obtain ⟨tl, h⟩ := h
  have hl := (List.getElem?_eq_some_iff.mp hj).1
  rw [cell_of_row _ _ _ _ _ _ h, List.getElem?_toArray, List.getElem?_append_left hl]
  exact hj
theorem RowC.frozen (h : RowC g t xs w) (j : Nat) : w.frozen? ⟨g, j, none⟩ = false := by
  obtain ⟨tl, h⟩ := h
  exact frozen_of_row _ _ _ _ _ h
theorem RowC.set (h : RowC g t xs w) {j : Nat} (hj : j < xs.length) (v : Value) : RowC g t (xs.set j v) (w.setCell ⟨g, j, none⟩ v) := by
  obtain ⟨tl, h⟩ := h
  have := heap_setCell_same w g j _ t v h
  refine ⟨tl, ?_⟩
  rw [this]
  simp [hj]
theorem RowV.rowC (h : RowV g t xs w) : RowC g t xs w := ⟨[], by rw [List.append_nil]; exact h⟩
theorem RowC.ne {t' : TypeId} {g' : Nat} {ys : List Value} (h : RowC g t xs w) (h' : RowC g' t' ys w) (ht : t ≠ t') : g ≠ g' := fun e => by
  subst e
  obtain ⟨tl, h⟩ := h
  obtain ⟨tl', h'⟩ := h'
  rw [h] at h'
  injection h' with h'
  injection h' with _ h2 _
  exact ht h2
end
theorem own_rowC {w : World} {base : Nat} {t : TypeId} {n k c : Nat} {ad : Addr} {xs : List Value} (h : w.ownsRow base t 1 (.slice (some ad) k c) n xs) : ∃ g, ad = ⟨g, 0, none⟩ ∧ base ≤ g ∧ RowC g t xs w := by
  rcases h.2 with ⟨e, _⟩ | ⟨g, cap, cur, e, hg, hgg, hnc, hcm, hcs, htake⟩
  · cases e
  · injection e with e1 e2 e3
    injection e1 with e1
    subst e1
    refine ⟨g, rfl, hg, cur.toList.drop (n * 1), ?_⟩
    rw [← htake, List.take_append_drop]
    exact hgg
/-- Two blocks at most are otherwise; and new ones. -/
structure Only (gD gV : Nat) (w w' : World) : Prop where
  os : w'.os = w.os
  tape : w'.tape = w.tape
  output : w'.output = w.output
  size : w.heap.size ≤ w'.heap.size
  block : ∀ k, k < w.heap.size → k ≠ gD → k ≠ gV → w'.heap[k]? = w.heap[k]?
section
variable {gD gV : Nat} {w w1 w2 : World}
theorem Only.refl (gD gV : Nat) (w : World) : Only gD gV w w := ⟨rfl, rfl, rfl, Nat.le_refl _, fun _ _ _ _ => rfl⟩
theorem Only.trans (h : Only gD gV w w1) (k : Only gD gV w1 w2) : Only gD gV w w2 :=
  ⟨k.os.trans h.os, k.tape.trans h.tape, k.output.trans h.output, Nat.le_trans h.size k.size, fun i hi h1 h2 => (k.block i (Nat.lt_of_lt_of_le hi h.size) h1 h2).trans (h.block i hi h1 h2)⟩
theorem Only.more (h : Only gD gV w w1) (k : Below w1.heap.size w1 w2) : Only gD gV w w2 :=
  h.trans ⟨k.os, k.tape, k.output, k.size, fun i hi _ _ => k.block i hi⟩
theorem Only.setD (h : Only gD gV w w1) (j : Nat) (v : Value) : Only gD gV w (w1.setCell ⟨gD, j, none⟩ v) :=
  h.trans ⟨rfl, rfl, rfl, by simp [World.setCell], fun i hi h1 _ => heap_setCell_other _ _ _ _ h1⟩
theorem Only.setV (h : Only gD gV w w1) (j : Nat) (v : Value) : Only gD gV w (w1.setCell ⟨gV, j, none⟩ v) :=
  h.trans ⟨rfl, rfl, rfl, by simp [World.setCell], fun i hi _ h2 => heap_setCell_other _ _ _ _ h2⟩
theorem Only.below {B : Nat} (h : Only gD gV w w1) (hB : B ≤ w.heap.size) (hD : B ≤ gD) (hV : B ≤ gV) : Below B w w1 :=
  ⟨h.os, h.tape, h.output, h.size, fun k hk => h.block k (by omega) (by omega) (by omega)⟩
end
/-- A memory in two blocks that came behind a world. -/
structure StM (wb : World) (gD gV : Nat) (D : List Bool) (V : List Int) (w : World) : Prop where
  bel : Below wb.heap.size wb w
  leD : wb.heap.size ≤ gD
  leV : wb.heap.size ≤ gV
  rD : RowC gD 4 (boolsV D) w
  rV : RowC gV 3 (intsV V) w
section
variable {wb : World} {gD gV : Nat} {D : List Bool} {V : List Int} {w w1 w2 : World}
theorem boolsV_len (l : List Bool) : (boolsV l).length = l.length := by unfold boolsV; rw [List.length_map]
theorem intsV_len (l : List Int) : (intsV l).length = l.length := by unfold intsV; rw [List.length_map]
theorem StM.ne (h : StM wb gD gV D V w) : gD ≠ gV := h.rD.ne h.rV (by decide)
theorem StM.next (h : StM wb gD gV D V w1) (b : Below w1.heap.size w1 w2) : StM wb gD gV D V w2 :=
  ⟨h.bel.trans (b.mono h.bel.size), h.leD, h.leV, h.rD.below b h.rD.lt, h.rV.below b h.rV.lt⟩
theorem StM.setD (h : StM wb gD gV D V w) {j : Nat} (hj : j < D.length) (z : Bool) : StM wb gD gV (D.set j z) V (w.setCell ⟨gD, j, none⟩ (.bool z)) :=
  ⟨h.bel.setCell h.leD _, h.leD, h.leV, by rw [boolsV_set]; exact h.rD.set (by rw [boolsV_len]; exact hj) _, h.rV.same (heap_setCell_other _ _ _ _ h.ne.symm)⟩
theorem StM.setV (h : StM wb gD gV D V w) {j : Nat} (hj : j < V.length) (z : Int) : StM wb gD gV D (V.set j z) (w.setCell ⟨gV, j, none⟩ (.int .i64 z)) :=
  ⟨h.bel.setCell h.leV _, h.leD, h.leV, h.rD.same (heap_setCell_other _ _ _ _ h.ne), by rw [intsV_set]; exact h.rV.set (by rw [intsV_len]; exact hj) _⟩
theorem OwnV.same {w' : World} {b n : Nat} {DM : DataW Unit} (h : OwnV w b n DM) (hk : w'.heap[b]? = w.heap[b]?) : OwnV w' b n DM := by
  obtain ⟨es, clock, hb', F, hs, hD⟩ := h
  exact ⟨es, clock, by rw [hk]; exact hb', F, hs, hD⟩
theorem OwnV.ne {b n g : Nat} {t : TypeId} {xs : List Value} {DM : DataW Unit} (h : OwnV w b n DM) (hr : RowC g t xs w) : b ≠ g := fun e => by
  subst e
  obtain ⟨es, clock, hb', _⟩ := h
  obtain ⟨tl, hr⟩ := hr
  rw [hb'] at hr
  cases hr
theorem StM.isM (h : StM wb gD gV D V w) {n m cD cV : Nat} (hn : D.length = n) (hm : V.length = m) (l1 : n ≤ 400) (l2 : m ≤ 400) : IsM w (some ⟨gD, 0, none⟩) n cD (some ⟨gV, 0, none⟩) m cV D V :=
  ⟨hn, hm, l1, l2, fun _ => ⟨gD, 0, rfl, h.rD.lt, fun k hk => by rw [Nat.zero_add]; exact h.rD.cell (boolsV_at hk)⟩, fun _ => ⟨gV, 0, rfl, h.rV.lt, fun k hk => by rw [Nat.zero_add]; exact h.rV.cell (intsV_at hk)⟩, fun e => (by cases e), fun e => (by cases e)⟩
end
end Go.Proofs.YtecjpclkiiaidaaGreatDoor
