/- What the regions of layer 8's laws yield, in the seat YtmelgolnmnebpaaGreatDoor.
   Who is ready, and may be finished, in plain words, in the seat YtmelgolnmnebpaaGreatDoor.
   How many are done; a task and a memory that is written, in boxes: in the seat YtmelgolnmnebpaaGreatDoor.
   A part that is made a number: what the others come to, in plain words, in the seat YtmelgolnmnebpaaGreatDoor.
   A task of the call's own, one part of which is written in place, in the seat YtmelgolnmnebpaaGreatDoor.
   No statement is proved here. -/
import Derived.Test.YtmelgolnmnebpaaGreatDoorZM31
import Derived.Test.YtmelgolnmnebpaaGreatDoorZEvalFinish
import Derived.Test.YtmelgolnmnebpaaGreatDoorZM4
import Derived.Test.YtmelgolnmnebpaaGreatDoorZM27
import Derived.Test.YtmelgolnmnebpaaGreatDoorZM24
set_option linter.unusedSimpArgs false
set_option linter.unusedVariables false
namespace Go.Proofs.YtmelgolnmnebpaaGreatDoor
open Go.RowKit

theorem Ints.step {w w' : World} {A : Option Addr} {zs : List Int} (h : Ints w w.heap.size A zs) (hb : Below w.heap.size w w') : Ints w' w'.heap.size A zs := (h.below hb).more hb.size
/-- A memory and an error. -/
def GFq (D : List Bool) (V : List Int) (z : Int) (v : Value) (w : World) : Prop := ∃ A1 n1 c1 F1 m1 d1, v = .tuple #[.agg #[.slice A1 n1 c1, .slice F1 m1 d1], .int .i64 z] ∧ IsM w A1 n1 c1 F1 m1 d1 D V
def GXq (D : List Bool) (V : List Int) (v : Value) (w : World) : Prop := ∃ A1 n1 c1 F1 m1 d1, v = .agg #[.slice A1 n1 c1, .slice F1 m1 d1] ∧ IsM w A1 n1 c1 F1 m1 d1 D V
section
variable {T : Task} {n m k hb : Nat} {D : List Bool} {V zs : List Int} {z : Int} {v : Value} {w w' : World}
theorem GFq.below (h : GFq D V z v w) (hb : Below w.heap.size w w') : GFq D V z v w' := by
  obtain ⟨A1, n1, c1, F1, m1, d1, h1, h2⟩ := h
  exact ⟨A1, n1, c1, F1, m1, d1, h1, h2.below hb⟩
theorem GXq.below (h : GXq D V v w) (hb : Below w.heap.size w w') : GXq D V v w' := by
  obtain ⟨A1, n1, c1, F1, m1, d1, h1, h2⟩ := h
  exact ⟨A1, n1, c1, F1, m1, d1, h1, h2.below hb⟩
theorem IsM.gx {A1 n1 c1 F1 m1 d1} (h : IsM w A1 n1 c1 F1 m1 d1 D V) : GXq D V (.agg #[.slice A1 n1 c1, .slice F1 m1 d1]) w := ⟨A1, n1, c1, F1, m1, d1, rfl, h⟩
end
/-- A memory's lists stay when a variable of slices is written. -/
theorem Bools.far {w w' : World} {g B : Nat} {t : TypeId} {cs : Array Value} {fr : Nat × Nat} (hg : w.heap[g]? = some (.cells cs t fr)) (hn : ∀ (b : Bool), ∀ u ∈ cs, u ≠ .bool b) (hf : ∀ k, k ≠ g → w'.heap[k]? = w.heap[k]?)
    {A : Option Addr} {zs : List Bool} (h : Bools w B A zs) : Bools w' B A zs := fun hp => by
  obtain ⟨b, off, e, hb, hc⟩ := h hp
  exact ⟨b, off, e, hb, fun k hk => (cell_same (hf b (cell_ne hg (hc k hk) (hn _)))).trans (hc k hk)⟩
theorem slices_ne {A F : Option Addr} {n c m d : Nat} : (∀ (z : Int), ∀ u ∈ (#[.slice A n c, .slice F m d] : Array Value), u ≠ .int .i64 z) ∧ ∀ (b : Bool), ∀ u ∈ (#[.slice A n c, .slice F m d] : Array Value), u ≠ .bool b := by
  constructor <;> (intro z u hu e; subst e; simp at hu)
theorem isM_set {w : World} {g : Nat} {t : TypeId} {B E : Option Addr} {b b' e e' : Nat} (hg : w.heap[g]? = some (.cells #[.slice B b b', .slice E e e'] t (0, 0))) {A : Option Addr} {n c : Nat} {F : Option Addr} {m d : Nat} {D : List Bool} {V : List Int} (h : IsM w A n c F m d D V) (u v : Value) :
    IsM ((w.setCell ⟨g, 0, none⟩ u).setCell ⟨g, 1, none⟩ v) A n c F m d D V := by
  have hs := size_set2 w g u v
  have hf : ∀ k, k ≠ g → ((w.setCell ⟨g, 0, none⟩ u).setCell ⟨g, 1, none⟩ v).heap[k]? = w.heap[k]? := fun k hk => by rw [heap_setCell_other _ _ _ _ hk, heap_setCell_other _ _ _ _ hk]
  exact ⟨h.hn, h.hm, h.ln, h.lm, by rw [hs]; exact h.bools.far hg slices_ne.2 hf, by rw [hs]; exact h.ints.far hg slices_ne.1 hf, h.hA, h.hF⟩
section
variable {w w' w1 w2 : World} {s : Sh} {T : Task} {A : Option Addr} {n c : Nat} {F : Option Addr} {m d : Nat} {D : List Bool} {V : List Int} {A2 : Option Addr} {zs : List Int} {g : Nat} {A3 : Option Addr} {n3 c3 : Nat} {F3 : Option Addr} {m3 d3 : Nat} {D' : List Bool} {V' : List Int}
end
end Go.Proofs.YtmelgolnmnebpaaGreatDoor
set_option linter.unusedVariables false
namespace Go.Proofs.YtmelgolnmnebpaaGreatDoor

section
variable {T : Task} {D : List Bool} {V : List Int}
theorem ready_all (h : MemOk T D V) : readyD (lowE T) D = [] ↔ ∀ j, j < D.length → D.getD j false = true := by
  constructor
  · intro k j hj
    cases e : D.getD j false with
    | true => rfl
    | false =>
      obtain ⟨m, hm⟩ := h.some hj e
      rw [k] at hm
      cases hm
  · intro k
    refine List.eq_nil_iff_forall_not_mem.mpr fun m hm => ?_
    obtain ⟨h1, h2, _⟩ := mem_readyD.mp hm
    rw [k m h1] at h2
    cases h2
end
end Go.Proofs.YtmelgolnmnebpaaGreatDoor
set_option linter.unusedVariables false
namespace Go.Proofs.YtmelgolnmnebpaaGreatDoor
open Go.RowKit

def cntD (D : List Bool) : Nat := D.countP id
theorem cntD_set : ∀ (D : List Bool) (m : Nat), m < D.length → D.getD m false = false → cntD (D.set m true) = cntD D + 1
  | [], m, h, _ => by simp at h
  | b :: D, 0, _, h => by
    have hb : b = false := by simpa using h
    subst hb
    simp [cntD]
  | b :: D, m + 1, h, h2 => by
    have ih := cntD_set D m (by simpa using h) (by simpa using h2)
    unfold cntD at *
    rw [List.set_cons_succ, List.countP_cons, List.countP_cons, ih]
    omega
/-- A task's box, and a memory in block g. -/
structure BxOr (w : World) (s : Sh) (T : Task) (g : Nat) (A : Option Addr) (n c : Nat) (F : Option Addr) (m d : Nat) (D : List Bool) (V : List Int) (w' : World) : Prop where
  bel : Below w.heap.size w w'
  cd : CellsD w' s T.period T.deadline w.heap.size
  gt : w.heap.size < g
  row : w'.heap[g]? = some (.cells #[.slice A n c, .slice F m d] 43 (0, 0))
  mem : IsM w' A n c F m d D V
section
variable {w w1 w2 : World} {s : Sh} {T : Task} {g : Nat} {A : Option Addr} {n c : Nat} {F : Option Addr} {m d : Nat} {D : List Bool} {V : List Int}
theorem BxOr.next (h : BxOr w s T g A n c F m d D V w1) (hb : Below w1.heap.size w1 w2) : BxOr w s T g A n c F m d D V w2 :=
  ⟨h.bel.trans (hb.mono h.bel.size), h.cd.next hb, h.gt, by rw [hb.block _ (Array.getElem?_eq_some_iff.1 h.row).1]; exact h.row, h.mem.below hb⟩
theorem BxOr.m0 (h : BxOr w s T g A n c F m d D V w1) : w1.cell? ⟨g, 0, none⟩ = some (.slice A n c) := by rw [cell_of_row _ _ _ _ _ _ h.row]; rfl
theorem BxOr.m1 (h : BxOr w s T g A n c F m d D V w1) : w1.cell? ⟨g, 1, none⟩ = some (.slice F m d) := by rw [cell_of_row _ _ _ _ _ _ h.row]; rfl
theorem CellsD.far {w w' : World} {s : Sh} {p q : Int} {b g : Nat} (h : CellsD w s p q b) (hn : b ≠ g) (hf : ∀ k, k ≠ g → w'.heap[k]? = w.heap[k]?) : CellsD w' s p q b := by
  obtain ⟨c0, c1, c2, c3, c4, c5⟩ := h
  have e : ∀ o, w'.cell? ⟨b, o, none⟩ = w.cell? ⟨b, o, none⟩ := fun o => cell_same (hf b hn)
  exact ⟨(e 0).trans c0, (e 1).trans c1, (e 2).trans c2, (e 3).trans c3, (e 4).trans c4, (e 5).trans c5⟩
/-- The memory written by another one. -/
theorem BxOr.store (h : BxOr w s T g A n c F m d D V w1) {A' : Option Addr} {n' c' : Nat} {F' : Option Addr} {m' d' : Nat} {D' : List Bool} {V' : List Int} (hm : IsM w1 A' n' c' F' m' d' D' V') :
    BxOr w s T g A' n' c' F' m' d' D' V' ((w1.setCell ⟨g, 0, none⟩ (.slice A' n' c')).setCell ⟨g, 1, none⟩ (.slice F' m' d')) := by
  have hf : ∀ k, k ≠ g → ((w1.setCell ⟨g, 0, none⟩ (.slice A' n' c')).setCell ⟨g, 1, none⟩ (.slice F' m' d')).heap[k]? = w1.heap[k]? := fun k hk => by rw [heap_setCell_other _ _ _ _ hk, heap_setCell_other _ _ _ _ hk]
  exact ⟨h.bel.trans (below_set2 (Nat.le_of_lt h.gt) _ _), h.cd.far (Nat.ne_of_lt h.gt) hf, h.gt, row_set2 h.row _ _, isM_set h.row hm _ _⟩
end
theorem new_list9 (W : World) (A : Option Addr) (c : Nat) (zs : List Int) (hl : zs.length ≤ 1000) (hZ : Ints W W.heap.size A zs) (hA : A = none → zs.length = 0 ∧ c = 0) :
    ∃ A' c' w', (Builtin.append_ #[30, 30] 30 #[.slice (some ⟨W.heap.size, 0, none⟩) 0 0, .slice A zs.length c]).run Tryz.prog (W.alloc (.cells #[] 3)) = .ok (.slice A' zs.length c') w' ∧ OwnI w' W.heap.size (.slice A' zs.length c') zs ∧ Below W.heap.size W w' := by
  obtain ⟨v', w', hr, ho, hb⟩ := new_ints8 W 30 A c zs hl hZ hA
  obtain ⟨A', c', rfl, _⟩ := OwnI.slice ho
  exact ⟨A', c', w', hr, ho, hb⟩
theorem ints_at9 {w : World} {B b off q : Nat} {zs : List Int} {y : Int} (h : Ints w B (some ⟨b, off, none⟩) zs) (hq : zs[q]? = some y) : w.cell? ⟨b, off + q, none⟩ = some (.int .i64 y) := by
  obtain ⟨b', off', y', e, _, hy, hc⟩ := h.at_ (k := q) (List.getElem?_eq_some_iff.mp hq).1
  injection e with e
  injection e with e1 e2
  subst e1 e2
  rw [hq] at hy
  rw [Option.some.inj hy]
  exact hc
end Go.Proofs.YtmelgolnmnebpaaGreatDoor
set_option linter.unusedVariables false
namespace Go.Proofs.YtmelgolnmnebpaaGreatDoor

section
variable {T : Task} {x : Nat} {arg : Int}
end
end Go.Proofs.YtmelgolnmnebpaaGreatDoor
set_option linter.unusedVariables false
namespace Go.Proofs.YtmelgolnmnebpaaGreatDoor
open Go Go.RowKit

section
variable {base g : Nat} {T : Task} {u1 u2 u3 u4 : Value} {w w' : World}
end
theorem CellsD.low {w w' : World} {s : Sh} {p q : Int} {b B : Nat} (h : CellsD w s p q b) (hb : Below B w w') (hlt : b < B) : CellsD w' s p q b := by
  obtain ⟨c0, c1, c2, c3, c4, c5⟩ := h
  exact ⟨(hb.cell hlt).trans c0, (hb.cell hlt).trans c1, (hb.cell hlt).trans c2, (hb.cell hlt).trans c3, (hb.cell hlt).trans c4, (hb.cell hlt).trans c5⟩
section
variable {w w1 w2 : World} {gl : Nat} {A : Option Addr} {n c : Nat} {F : Option Addr} {m d : Nat} {R : Option Addr} {k e : Nat} {W : List Int} {E P : List (Int × Int)} {A5 : Option Addr} {la : List Int} {A9 : Option Addr} {lb : List Int}
end
end Go.Proofs.YtmelgolnmnebpaaGreatDoor
