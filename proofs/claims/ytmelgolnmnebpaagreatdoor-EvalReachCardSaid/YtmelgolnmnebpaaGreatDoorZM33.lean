/- What the regions of layer 8's laws yield, in the seat YtmelgolnmnebpaaGreatDoor.
   Who is ready, and may be finished, in plain words, in the seat YtmelgolnmnebpaaGreatDoor.
   How many are done; a task and a memory that is written, in boxes: in the seat YtmelgolnmnebpaaGreatDoor.
   A part that is made a number: what the others come to, in plain words, in the seat YtmelgolnmnebpaaGreatDoor.
   A task of the call's own, one part of which is written in place, in the seat YtmelgolnmnebpaaGreatDoor.
   No statement is proved here. -/
import Derived.Test.YtmelgolnmnebpaaGreatDoorZM31
import Derived.Test.YtmelgolnmnebpaaGreatDoorZEvalFinish
import Derived.Test.YtmelgolnmnebpaaGreatDoorZM4
import Derived.Test.YtmelgolnmnebpaaGreatDoorZM27
import Derived.Test.YtmelgolnmnebpaaGreatDoorZM24
set_option linter.unusedSimpArgs false
set_option linter.unusedVariables false
namespace Go.Proofs.YtmelgolnmnebpaaGreatDoor
open Go.RowKit

theorem Ints.step {w w' : World} {A : Option Addr} {zs : List Int} (h : Ints w w.heap.size A zs) (hb : Below w.heap.size w w') : Ints w' w'.heap.size A zs := (h.below hb).more hb.size
/-- A task, a memory, a list, handed out. -/
def GDq (T : Task) (v : Value) (w : World) : Prop := ∃ s' : Sh, v = s'.arg T.period T.deadline ∧ IsD w s' T
def GMq (n m : Nat) (D : List Bool) (V : List Int) (v : Value) (w : World) : Prop := ∃ A1 c1 F1 d1, v = .agg #[.slice A1 n c1, .slice F1 m d1] ∧ IsM w A1 n c1 F1 m d1 D V
def GLq (k : Nat) (zs : List Int) (v : Value) (w : World) : Prop := ∃ A1 c1, v = .slice A1 k c1 ∧ Ints w w.heap.size A1 zs
/-- A memory and an error. -/
def GFq (D : List Bool) (V : List Int) (z : Int) (v : Value) (w : World) : Prop := ∃ A1 n1 c1 F1 m1 d1, v = .tuple #[.agg #[.slice A1 n1 c1, .slice F1 m1 d1], .int .i64 z] ∧ IsM w A1 n1 c1 F1 m1 d1 D V
def GXq (D : List Bool) (V : List Int) (v : Value) (w : World) : Prop := ∃ A1 n1 c1 F1 m1 d1, v = .agg #[.slice A1 n1 c1, .slice F1 m1 d1] ∧ IsM w A1 n1 c1 F1 m1 d1 D V
/-- A new block for a memory. -/
def GNq (hb : Nat) (v : Value) (w : World) : Prop := ∃ g, v = .pointer (some ⟨g, 0, none⟩) ∧ hb ≤ g ∧ w.heap[g]? = some (.cells #[.slice none 0 0, .slice none 0 0] 43 (0, 0))
section
variable {T : Task} {n m k hb : Nat} {D : List Bool} {V zs : List Int} {z : Int} {v : Value} {w w' : World}
theorem GDq.below (h : GDq T v w) (hb : Below w.heap.size w w') : GDq T v w' := by
  obtain ⟨s', h1, h2⟩ := h
  exact ⟨s', h1, h2.below hb⟩
theorem GMq.below (h : GMq n m D V v w) (hb : Below w.heap.size w w') : GMq n m D V v w' := by
  obtain ⟨A1, c1, F1, d1, h1, h2⟩ := h
  exact ⟨A1, c1, F1, d1, h1, h2.below hb⟩
theorem GLq.below (h : GLq k zs v w) (hb : Below w.heap.size w w') : GLq k zs v w' := by
  obtain ⟨A1, c1, h1, h2⟩ := h
  exact ⟨A1, c1, h1, (h2.below hb).more hb.size⟩
theorem GFq.below (h : GFq D V z v w) (hb : Below w.heap.size w w') : GFq D V z v w' := by
  obtain ⟨A1, n1, c1, F1, m1, d1, h1, h2⟩ := h
  exact ⟨A1, n1, c1, F1, m1, d1, h1, h2.below hb⟩
theorem GXq.below (h : GXq D V v w) (hb : Below w.heap.size w w') : GXq D V v w' := by
  obtain ⟨A1, n1, c1, F1, m1, d1, h1, h2⟩ := h
  exact ⟨A1, n1, c1, F1, m1, d1, h1, h2.below hb⟩
theorem GNq.below (h : GNq hb v w) (hb' : Below w.heap.size w w') : GNq hb v w' := by
  obtain ⟨g, h1, h2, h3⟩ := h
  exact ⟨g, h1, h2, by rw [hb'.block _ (Array.getElem?_eq_some_iff.1 h3).1]; exact h3⟩
theorem IsM.gx {A1 n1 c1 F1 m1 d1} (h : IsM w A1 n1 c1 F1 m1 d1 D V) : GXq D V (.agg #[.slice A1 n1 c1, .slice F1 m1 d1]) w := ⟨A1, n1, c1, F1, m1, d1, rfl, h⟩
end
/-- A memory's lists stay when a variable of slices is written. -/
theorem Bools.far {w w' : World} {g B : Nat} {t : TypeId} {cs : Array Value} {fr : Nat × Nat} (hg : w.heap[g]? = some (.cells cs t fr)) (hn : ∀ (b : Bool), ∀ u ∈ cs, u ≠ .bool b) (hf : ∀ k, k ≠ g → w'.heap[k]? = w.heap[k]?)
    {A : Option Addr} {zs : List Bool} (h : Bools w B A zs) : Bools w' B A zs := fun hp => by
  obtain ⟨b, off, e, hb, hc⟩ := h hp
  exact ⟨b, off, e, hb, fun k hk => (cell_same (hf b (cell_ne hg (hc k hk) (hn _)))).trans (hc k hk)⟩
theorem slices_ne {A F : Option Addr} {n c m d : Nat} : (∀ (z : Int), ∀ u ∈ (#[.slice A n c, .slice F m d] : Array Value), u ≠ .int .i64 z) ∧ ∀ (b : Bool), ∀ u ∈ (#[.slice A n c, .slice F m d] : Array Value), u ≠ .bool b := by
  constructor <;> (intro z u hu e; subst e; simp at hu)
theorem isM_set {w : World} {g : Nat} {t : TypeId} {B E : Option Addr} {b b' e e' : Nat} (hg : w.heap[g]? = some (.cells #[.slice B b b', .slice E e e'] t (0, 0))) {A : Option Addr} {n c : Nat} {F : Option Addr} {m d : Nat} {D : List Bool} {V : List Int} (h : IsM w A n c F m d D V) (u v : Value) :
    IsM ((w.setCell ⟨g, 0, none⟩ u).setCell ⟨g, 1, none⟩ v) A n c F m d D V := by
  have hs := size_set2 w g u v
  have hf : ∀ k, k ≠ g → ((w.setCell ⟨g, 0, none⟩ u).setCell ⟨g, 1, none⟩ v).heap[k]? = w.heap[k]? := fun k hk => by rw [heap_setCell_other _ _ _ _ hk, heap_setCell_other _ _ _ _ hk]
  exact ⟨h.hn, h.hm, h.ln, h.lm, by rw [hs]; exact h.bools.far hg slices_ne.2 hf, by rw [hs]; exact h.ints.far hg slices_ne.1 hf, h.hA, h.hF⟩
theorem InM.isM {w : World} {A : Option Addr} {n c : Nat} {F : Option Addr} {m d : Nat} {D : List Bool} {V : List Int} (h : InM w A n c F m d D V) (l1 : n ≤ 400) (l2 : m ≤ 400) : IsM w A n c F m d D V := ⟨h.hn, h.hm, l1, l2, h.bools, h.ints, h.hA, h.hF⟩
theorem IsM.inM {w : World} {A : Option Addr} {n c : Nat} {F : Option Addr} {m d : Nat} {D : List Bool} {V : List Int} (h : IsM w A n c F m d D V) : InM w A n c F m d D V := ⟨h.hn, h.hm, by have := h.ln; omega, by have := h.lm; omega, h.bools, h.ints, h.hA, h.hF⟩
/-- Behind a store of a memory into a new block, whose address lies in a slot. -/
def ThM (wd : World) (slot : Nat) (D : List Bool) (V : List Int) (f : Nat → Value) (w : World) : Prop := ∃ g A4 n4 c4 F4 m4 d4, f slot = .pointer (some ⟨g, 0, none⟩) ∧ Below wd.heap.size wd w ∧ wd.heap.size ≤ g ∧ w.heap[g]? = some (.cells #[.slice A4 n4 c4, .slice F4 m4 d4] 43 (0, 0)) ∧ IsM w A4 n4 c4 F4 m4 d4 D V
theorem ThM.slot {wd w : World} {slot : Nat} {D : List Bool} {V : List Int} {f f' : Nat → Value} (h : ThM wd slot D V f w) (e : f slot = f' slot) : ThM wd slot D V f' w := by
  obtain ⟨g, A4, n4, c4, F4, m4, d4, h1, h2⟩ := h
  exact ⟨g, A4, n4, c4, F4, m4, d4, e ▸ h1, h2⟩
/-- The store itself. -/
theorem stM {o : Oper} {a : Act} {w wd : World} {K : Act → World → Prop} {Q : Exit → Act → World → Prop} {slot : Nat} {s y : Operand} {D : List Bool} {V : List Int} (hop : o.op = .store 43 s y) (hdst : o.dst = none)
    (hs : a.eval s = a.eval (.tmp slot)) (h9 : GNq wd.heap.size (a.eval (.tmp slot)) w) (h7 : GXq D V (a.eval y) w) (hb : Below wd.heap.size wd w) (hK : ∀ w', ThM wd slot D V (fun t => a.eval (.tmp t)) w' → K a w') : o.wp Tryz.prog a w K Q := by
  obtain ⟨g, q9, hg1, hg2⟩ := h9
  obtain ⟨A4, n4, c4, F4, m4, d4, q7, hM4⟩ := h7
  exact ox_store2 (g := g) (u := .slice A4 n4 c4) (v := .slice F4 m4 d4) hop hdst (hs.trans q9) q7 ⟨_, _, _, _, _, _, rfl, rfl⟩ hg2 (hK _ ⟨g, A4, n4, c4, F4, m4, d4, q9, hb.trans (below_set2 hg1 _ _), hg1, row_set2 hg2 _ _, isM_set hg2 hM4 _ _⟩)
/-- The boxes of a law over a task and a memory. -/
structure BxV (w : World) (s : Sh) (T : Task) (A : Option Addr) (n c : Nat) (F : Option Addr) (m d : Nat) (D : List Bool) (V : List Int) (w' : World) : Prop where
  k : BxK w s T A n c F m d w'
  l : InM w' A n c F m d D V
theorem BxV.next {w w1 w2 : World} {s : Sh} {T : Task} {A : Option Addr} {n c : Nat} {F : Option Addr} {m d : Nat} {D : List Bool} {V : List Int} (h : BxV w s T A n c F m d D V w1) (hb : Below w1.heap.size w1 w2) : BxV w s T A n c F m d D V w2 := ⟨h.k.next hb, h.l.below hb⟩
theorem BxV.start {w : World} {s : Sh} {T : Task} {A : Option Addr} {n c : Nat} {F : Option Addr} {m d : Nat} {D : List Bool} {V : List Int} (hd : IsT w w.heap.size s T) (hm : InM w A n c F m d D V) :
    BxV w s T A n c F m d D V ((w.alloc (.cells #[.int .i64 T.period, .int .i64 T.deadline, .slice s.P s.np s.pc, .slice s.E s.ne s.ec, .slice s.F s.nf s.fc, .slice s.R s.nr s.rc] 27)).alloc (.cells #[.slice A n c, .slice F m d] 43)) :=
  ⟨BxK.start hd, hm.below (below_alloc2 _ _)⟩
/-- .. and a list, a memory that came of one. -/
structure BxX8 (w : World) (s : Sh) (T : Task) (A : Option Addr) (n c : Nat) (F : Option Addr) (m d : Nat) (D : List Bool) (V : List Int) (A2 : Option Addr) (zs : List Int) (g : Nat) (A3 : Option Addr) (n3 c3 : Nat) (F3 : Option Addr) (m3 d3 : Nat) (D' : List Bool) (V' : List Int) (w' : World) : Prop where
  b : BxV w s T A n c F m d D V w'
  x : w'.heap[g]? = some (.cells #[.slice A3 n3 c3, .slice F3 m3 d3] 43 (0, 0))
  xm : IsM w' A3 n3 c3 F3 m3 d3 D' V'
  zs : Ints w' w'.heap.size A2 zs
section
variable {w w' w1 w2 : World} {s : Sh} {T : Task} {A : Option Addr} {n c : Nat} {F : Option Addr} {m d : Nat} {D : List Bool} {V : List Int} {A2 : Option Addr} {zs : List Int} {g : Nat} {A3 : Option Addr} {n3 c3 : Nat} {F3 : Option Addr} {m3 d3 : Nat} {D' : List Bool} {V' : List Int}
theorem BxX8.next (h : BxX8 w s T A n c F m d D V A2 zs g A3 n3 c3 F3 m3 d3 D' V' w1) (hb : Below w1.heap.size w1 w2) : BxX8 w s T A n c F m d D V A2 zs g A3 n3 c3 F3 m3 d3 D' V' w2 :=
  ⟨h.b.next hb, by rw [hb.block _ (Array.getElem?_eq_some_iff.1 h.x).1]; exact h.x, h.xm.below hb, (h.zs.below hb).more hb.size⟩
theorem BxX8.x0 (h : BxX8 w s T A n c F m d D V A2 zs g A3 n3 c3 F3 m3 d3 D' V' w') : w'.cell? ⟨g, 0, none⟩ = some (.slice A3 n3 c3) := by rw [cell_of_row _ _ _ _ _ _ h.x]; rfl
theorem BxX8.x1 (h : BxX8 w s T A n c F m d D V A2 zs g A3 n3 c3 F3 m3 d3 D' V' w') : w'.cell? ⟨g, 1, none⟩ = some (.slice F3 m3 d3) := by rw [cell_of_row _ _ _ _ _ _ h.x]; rfl
end
end Go.Proofs.YtmelgolnmnebpaaGreatDoor
set_option linter.unusedVariables false
namespace Go.Proofs.YtmelgolnmnebpaaGreatDoor

/-- Is it among the first i? -/
def hasK (L : List Int) (z : Int) (i : Nat) : Bool := (L.take i).any fun y => y == z
theorem hasK_step {L : List Int} {z y : Int} {i : Nat} (h : L[i]? = some y) : hasK L z (i + 1) = (hasK L z i || y == z) := by
  unfold hasK
  rw [List.take_add_one, h, List.any_append]
  simp
theorem hasK_iff {L : List Int} {z : Int} {i : Nat} (h : i = L.length) : hasK L z i = true ↔ z ∈ L := by
  unfold hasK
  rw [h, List.take_length, List.any_eq_true]
  simp
def allK (D : List Bool) (i : Nat) : Bool := (D.take i).all id
theorem allK_step {D : List Bool} {b : Bool} {i : Nat} (h : D[i]? = some b) : allK D (i + 1) = (allK D i && b) := by
  unfold allK
  rw [List.take_add_one, h, List.all_append]
  simp
theorem allK_iff {D : List Bool} {i : Nat} (h : i = D.length) : allK D i = true ↔ ∀ j, j < D.length → D.getD j false = true := by
  unfold allK
  rw [h, List.take_length, List.all_eq_true]
  constructor
  · intro k j hj
    rw [List.getD_eq_getElem?_getD, List.getElem?_eq_getElem hj]
    exact k _ (List.getElem_mem hj)
  · intro k b hb
    obtain ⟨j, hj, rfl⟩ := List.getElem_of_mem hb
    have := k j hj
    rw [List.getD_eq_getElem?_getD, List.getElem?_eq_getElem hj] at this
    exact this
section
variable {T : Task} {D : List Bool} {V : List Int}
theorem ready_all (h : MemOk T D V) : readyD (lowE T) D = [] ↔ ∀ j, j < D.length → D.getD j false = true := by
  constructor
  · intro k j hj
    cases e : D.getD j false with
    | true => rfl
    | false =>
      obtain ⟨m, hm⟩ := h.some hj e
      rw [k] at hm
      cases hm
  · intro k
    refine List.eq_nil_iff_forall_not_mem.mpr fun m hm => ?_
    obtain ⟨h1, h2, _⟩ := mem_readyD.mp hm
    rw [k m h1] at h2
    cases h2
theorem ready_stays {m j : Nat} (hm : m ∈ readyD (lowE T) D) (hj : j ∈ readyD (lowE T) D) : j ∈ readyD (lowE T) (D.set m true) ↔ j ≠ m := by
  obtain ⟨h1, h2, h3⟩ := mem_readyD.mp hj
  obtain ⟨k1, _, _⟩ := mem_readyD.mp hm
  constructor
  · rintro k rfl
    have := (mem_readyD.mp k).2.1
    rw [getD_set, if_pos ⟨rfl, h1⟩] at this
    cases this
  · intro e
    refine mem_readyD.mpr ⟨by rw [List.length_set]; exact h1, by rw [getD_set, if_neg (fun k => e k.1.symm)]; exact h2, waitB_false.mpr fun a ha => ?_⟩
    rw [getD_set]
    split
    · rfl
    · exact waitB_false.mp h3 a ha
end
end Go.Proofs.YtmelgolnmnebpaaGreatDoor
set_option linter.unusedVariables false
namespace Go.Proofs.YtmelgolnmnebpaaGreatDoor
open Go.RowKit

def cntD (D : List Bool) : Nat := D.countP id
theorem cntD_le (D : List Bool) : cntD D ≤ D.length := List.countP_le_length
theorem cntD_set : ∀ (D : List Bool) (m : Nat), m < D.length → D.getD m false = false → cntD (D.set m true) = cntD D + 1
  | [], m, h, _ => by simp at h
  | b :: D, 0, _, h => by
    have hb : b = false := by simpa using h
    subst hb
    simp [cntD]
  | b :: D, m + 1, h, h2 => by
    have ih := cntD_set D m (by simpa using h) (by simpa using h2)
    unfold cntD at *
    rw [List.set_cons_succ, List.countP_cons, List.countP_cons, ih]
    omega
theorem cntD_all {D : List Bool} (h : ∀ j, j < D.length → D.getD j false = true) : True := trivial
/-- A place taken round. -/
theorem rem_place {y : Int} {k : Nat} (hy : 0 ≤ y) (hk : 0 < k) : ∃ q : Nat, y.tmod (k : Int) = (q : Int) ∧ q < k := by
  obtain ⟨a, rfl⟩ : ∃ a : Nat, y = a := ⟨y.toNat, by omega⟩
  exact ⟨a % k, by rw [Int.ofNat_tmod], Nat.mod_lt _ hk⟩
/-- A task's box, and a memory in block g. -/
structure BxOr (w : World) (s : Sh) (T : Task) (g : Nat) (A : Option Addr) (n c : Nat) (F : Option Addr) (m d : Nat) (D : List Bool) (V : List Int) (w' : World) : Prop where
  bel : Below w.heap.size w w'
  cd : CellsD w' s T.period T.deadline w.heap.size
  gt : w.heap.size < g
  row : w'.heap[g]? = some (.cells #[.slice A n c, .slice F m d] 43 (0, 0))
  mem : IsM w' A n c F m d D V
section
variable {w w1 w2 : World} {s : Sh} {T : Task} {g : Nat} {A : Option Addr} {n c : Nat} {F : Option Addr} {m d : Nat} {D : List Bool} {V : List Int}
theorem BxOr.next (h : BxOr w s T g A n c F m d D V w1) (hb : Below w1.heap.size w1 w2) : BxOr w s T g A n c F m d D V w2 :=
  ⟨h.bel.trans (hb.mono h.bel.size), h.cd.next hb, h.gt, by rw [hb.block _ (Array.getElem?_eq_some_iff.1 h.row).1]; exact h.row, h.mem.below hb⟩
theorem BxOr.m0 (h : BxOr w s T g A n c F m d D V w1) : w1.cell? ⟨g, 0, none⟩ = some (.slice A n c) := by rw [cell_of_row _ _ _ _ _ _ h.row]; rfl
theorem BxOr.m1 (h : BxOr w s T g A n c F m d D V w1) : w1.cell? ⟨g, 1, none⟩ = some (.slice F m d) := by rw [cell_of_row _ _ _ _ _ _ h.row]; rfl
theorem CellsD.far {w w' : World} {s : Sh} {p q : Int} {b g : Nat} (h : CellsD w s p q b) (hn : b ≠ g) (hf : ∀ k, k ≠ g → w'.heap[k]? = w.heap[k]?) : CellsD w' s p q b := by
  obtain ⟨c0, c1, c2, c3, c4, c5⟩ := h
  have e : ∀ o, w'.cell? ⟨b, o, none⟩ = w.cell? ⟨b, o, none⟩ := fun o => cell_same (hf b hn)
  exact ⟨(e 0).trans c0, (e 1).trans c1, (e 2).trans c2, (e 3).trans c3, (e 4).trans c4, (e 5).trans c5⟩
/-- The memory written by another one. -/
theorem BxOr.store (h : BxOr w s T g A n c F m d D V w1) {A' : Option Addr} {n' c' : Nat} {F' : Option Addr} {m' d' : Nat} {D' : List Bool} {V' : List Int} (hm : IsM w1 A' n' c' F' m' d' D' V') :
    BxOr w s T g A' n' c' F' m' d' D' V' ((w1.setCell ⟨g, 0, none⟩ (.slice A' n' c')).setCell ⟨g, 1, none⟩ (.slice F' m' d')) := by
  have hf : ∀ k, k ≠ g → ((w1.setCell ⟨g, 0, none⟩ (.slice A' n' c')).setCell ⟨g, 1, none⟩ (.slice F' m' d')).heap[k]? = w1.heap[k]? := fun k hk => by rw [heap_setCell_other _ _ _ _ hk, heap_setCell_other _ _ _ _ hk]
  exact ⟨h.bel.trans (below_set2 (Nat.le_of_lt h.gt) _ _), h.cd.far (Nat.ne_of_lt h.gt) hf, h.gt, row_set2 h.row _ _, isM_set h.row hm _ _⟩
end
theorem new_list9 (W : World) (A : Option Addr) (c : Nat) (zs : List Int) (hl : zs.length ≤ 1000) (hZ : Ints W W.heap.size A zs) (hA : A = none → zs.length = 0 ∧ c = 0) :
    ∃ A' c' w', (Builtin.append_ #[30, 30] 30 #[.slice (some ⟨W.heap.size, 0, none⟩) 0 0, .slice A zs.length c]).run Tryz.prog (W.alloc (.cells #[] 3)) = .ok (.slice A' zs.length c') w' ∧ OwnI w' W.heap.size (.slice A' zs.length c') zs ∧ Below W.heap.size W w' := by
  obtain ⟨v', w', hr, ho, hb⟩ := new_ints8 W 30 A c zs hl hZ hA
  obtain ⟨A', c', rfl, _⟩ := OwnI.slice ho
  exact ⟨A', c', w', hr, ho, hb⟩
theorem ints_at9 {w : World} {B b off q : Nat} {zs : List Int} {y : Int} (h : Ints w B (some ⟨b, off, none⟩) zs) (hq : zs[q]? = some y) : w.cell? ⟨b, off + q, none⟩ = some (.int .i64 y) := by
  obtain ⟨b', off', y', e, _, hy, hc⟩ := h.at_ (k := q) (List.getElem?_eq_some_iff.mp hq).1
  injection e with e
  injection e with e1 e2
  subst e1 e2
  rw [hq] at hy
  rw [Option.some.inj hy]
  exact hc
/-- A new list, as a region makes it. -/
theorem app_list9 {w : World} {base ni ci : Nat} {v : Value} {Ai : Option Addr} {inp : List Int} (hv : NewRow 3 w base v) (hi : InI w Ai ni ci inp) (hl : ni ≤ 1000) (hb : base ≤ w.heap.size) :
    ∃ A8 c8 w2, (Builtin.append_ #[30, 30] 30 #[v, .slice Ai ni ci]).run Tryz.prog w = .ok (.slice A8 ni c8) w2 ∧ GLq ni inp (.slice A8 ni c8) w2 ∧ Below w.heap.size w w2 := by
  obtain ⟨i0, hi0, hz0, hz1, hz2⟩ := info_parts5 int_cell_info
  obtain rfl := hi.hn
  obtain ⟨g, rfl, hg, hgl⟩ := hv
  obtain ⟨v', w2, hr, how, hbb⟩ := fresh_append (P := Tryz.prog) w 30 30 3 i0 (.int .i64 0) 1 8 Tryz.underlying30 hi0 hz0 hz1 hz2 rfl (by omega) base g hg hgl hb Ai inp.length ci (inp.map (Value.int .i64)) (by simp) hi.hA (fun ad e => by have q := hi.ints; rw [e] at q; exact q.cells) (oneCell_ints inp) (by unfold maxLen; omega) (by omega)
  have how' : OwnI w2 base v' inp := how
  obtain ⟨A8, c8, rfl, hi8⟩ := OwnI.slice how'
  exact ⟨A8, c8, w2, hr, ⟨A8, c8, rfl, hi8⟩, hbb⟩
end Go.Proofs.YtmelgolnmnebpaaGreatDoor
set_option linter.unusedVariables false
namespace Go.Proofs.YtmelgolnmnebpaaGreatDoor

/-- A task one part of which is a number. -/
def conT (T : Task) (x : Nat) (arg : Int) : Task := { T with parts := T.parts.set x (1, arg, (T.parts.getD x (0, 0, 0)).2.2) }
section
variable {T : Task} {x : Nat} {arg : Int}
theorem conT_len : (conT T x arg).parts.length = T.parts.length := by unfold conT; rw [List.length_set]
theorem conT_at {j : Nat} (hj : j < T.parts.length) : partAt (conT T x arg) j = if x = j then (1, arg, (partAt T j).2.2) else partAt T j := by
  unfold partAt conT
  show (T.parts.set x (1, arg, (T.parts.getD x (0, 0, 0)).2.2)).getD j (0, 0, 0) = _
  rw [List.getD_eq_getElem?_getD, List.getElem?_set]
  by_cases e : x = j
  · subst e
    rw [if_pos rfl, if_pos hj, if_pos rfl]
    rfl
  · rw [if_neg e, if_neg e, List.getD_eq_getElem?_getD]
theorem conT_work (j : Nat) : ((conT T x arg).parts.getD j (0, 0, 0)).2.2 = (T.parts.getD j (0, 0, 0)).2.2 := by
  by_cases hj : j < T.parts.length
  · have h := conT_at (T := T) (x := x) (arg := arg) hj
    unfold partAt at h
    rw [h]
    split <;> rfl
  · rw [List.getD_eq_getElem?_getD, List.getD_eq_getElem?_getD, List.getElem?_eq_none (by rw [conT_len]; omega), List.getElem?_eq_none (by omega)]
theorem conT_P : lowP (conT T x arg) = lowP T := by unfold lowP; rw [conT_len]; rfl
theorem conT_E : lowE (conT T x arg) = lowE T := by unfold lowE; rw [conT_len]; rfl
theorem conT_W : lowW (conT T x arg) = lowW T := by
  have key : ∀ n, wPs T.futures (conT T x arg).parts n = wPs T.futures T.parts n := by
    intro n
    induction n with
    | zero => rfl
    | succ n ih =>
      rw [wPs, wPs, ih]
      unfold endsL
      rw [conT_work]
  unfold lowW
  rw [conT_len]
  exact congrArg (· ++ _) (key _)
theorem conT_may (h : MayT T) (hx : x < T.parts.length) (ha : 0 ≤ arg ∧ arg ≤ 2147483647) : MayT (conT T x arg) where
  few := by
    have := h.few
    unfold ManyT at *
    rw [conT_len]
    exact this
  time := h.time
  parts := by
    intro e he
    rcases List.mem_or_eq_of_mem_set he with h1 | rfl
    · exact h.parts e h1
    · have h2 := h.parts _ (List.getElem_mem hx)
      rw [List.getD_eq_getElem?_getD, List.getElem?_eq_getElem hx]
      unfold partOk at h2 ⊢
      simp only [Option.getD_some]
      omega
  edges := by rw [conT_len]; exact h.edges
  futures := ⟨fun f hf => by
    have k := h.futures.each f hf
    refine ⟨by rw [conT_len]; exact k.maker, by rw [conT_len]; exact k.user, k.apart, k.first, fun e he => ?_⟩
    have hu : f.2.1.toNat < T.parts.length := by have := k.user; omega
    have h2 := k.last _ (List.getElem?_eq_getElem hu)
    have h3 := conT_work (T := T) (x := x) (arg := arg) f.2.1.toNat
    rw [List.getD_eq_getElem?_getD, he, List.getD_eq_getElem?_getD, List.getElem?_eq_getElem hu] at h3
    simp only [Option.getD_some] at h3
    rw [h3]
    exact h2, h.futures.once⟩
  bars := by rw [conT_len]; exact h.bars
theorem conT_low (h : LowOk T) (hx : x < T.parts.length) (ha : 0 ≤ arg ∧ arg ≤ 2147483647) : LowOk (conT T x arg) := ⟨conT_may h.1 hx ha, by rw [conT_W, conT_E]; exact h.2⟩
/-- What the part comes to then. -/
theorem reach_is (h : LowOk T) (hx : x < T.parts.length) (ha : 0 ≤ arg ∧ arg ≤ 2147483647) (inp : List Int) : (runV (conT T x arg) inp).getD x 0 = arg := by
  have f := run_fixed (conT_low h hx ha) inp
  rw [f.2 x (by rw [conT_len]; exact hx)]
  unfold partV
  rw [conT_at hx, if_pos rfl]
  show comeV 1 arg inp _ = arg
  unfold comeV
  rw [if_pos (by decide), show noneV 1 arg inp = val32 arg from rfl, val32_same ha.1 (by omega)]
  generalize feedV (conT T x arg) (runV (conT T x arg) inp) x = l
  unfold foldV
  induction l with
  | nil => rfl
  | cons z l ih => rw [List.foldl_cons]; exact ih
/-- What doesn't wait for it comes to the same. -/
theorem reach_same (h : LowOk T) (hx : x < T.parts.length) (ha : 0 ≤ arg ∧ arg ≤ 2147483647) (inp : List Int) {i : Nat} (hi : i < T.parts.length) (hne : i ≠ x) (hw : ¬ Way (lowE T) (lasN T.futures x) (lasN T.futures i)) : (runV T inp).getD i 0 = (runV (conT T x arg) inp).getD i 0 := by
  refine fixed_part h conT_len rfl rfl (run_fixed h inp) (run_fixed (conT_low h hx ha) inp) (fun j => j ≠ x ∧ ¬ Way (lowE T) (lasN T.futures x) (lasN T.futures j)) ?_ ?_ i hi ⟨hne, hw⟩
  · rintro j y hj ⟨h1, h2⟩ hy
    obtain ⟨k, e, _, hk⟩ := feeds_way h.1 hj hy
    obtain rfl : y = k := by omega
    refine ⟨fun e => h2 (by rw [← e]; exact hk), fun hwy => h2 (hwy.trans hk)⟩
  · rintro j hj ⟨h1, _⟩ l
    rw [conT_at hj, if_neg (fun e => h1 e.symm)]
end
end Go.Proofs.YtmelgolnmnebpaaGreatDoor
set_option linter.unusedVariables false
namespace Go.Proofs.YtmelgolnmnebpaaGreatDoor
open Go Go.RowKit

theorem own_set {w : World} {base : Nat} {t : TypeId} {s n c g j : Nat} {xs : List Value} (h : w.ownsRow base t s (.slice (some ⟨g, 0, none⟩) n c) n xs) (hj : j < xs.length) (u : Value) : (w.setCell ⟨g, j, none⟩ u).ownsRow base t s (.slice (some ⟨g, 0, none⟩) n c) n (xs.set j u) := by
  refine ⟨by rw [List.length_set]; exact h.1, ?_⟩
  rcases h.2 with ⟨e, _⟩ | ⟨g', cap, cur, e, hg, hgg, hnc, hcm, hcs, htake⟩
  · cases e
  · injection e with e1 e2 e3
    injection e1 with e1
    injection e1 with e1
    subst e1 e3
    refine .inr ⟨g, _, cur.setIfInBounds j u, rfl, hg, heap_setCell_same w g j _ _ _ hgg, hnc, hcm, by rw [Array.size_setIfInBounds]; exact hcs, ?_⟩
    rw [Array.toList_setIfInBounds, ← htake, List.take_set]
theorem flatT_set : ∀ (es : List (Int × Int × Int)) (x : Nat) (e : Int × Int × Int), x < es.length → flatT (es.set x e) = (((flatT es).set (x * 3) (.int .i64 e.1)).set (x * 3 + 1) (.int .i64 e.2.1)).set (x * 3 + 2) (.int .i64 e.2.2)
  | [], x, e, h => by simp at h
  | y :: es, 0, e, _ => rfl
  | y :: es, x + 1, e, h => by
    have ih := flatT_set es x e (by simpa using h)
    unfold flatT at ih ⊢
    rw [List.set_cons_succ, List.flatMap_cons, List.flatMap_cons, ih, show (x + 1) * 3 = x * 3 + 1 + 1 + 1 by omega]
    rfl
/-- A task in a box g of the call's own, with rows of its own (from base on). -/
structure BoxRe (base : Nat) (T : Task) (g : Nat) (u1 u2 u3 u4 : Value) (w : World) : Prop where
  row : w.heap[g]? = some (.cells #[.int .i64 T.period, .int .i64 T.deadline, u1, u2, u3, u4] 27 (0, 0))
  le : base ≤ g
  parts : OwnT 62 w base u1 T.parts
  edges : OwnE w base u2 T.edges
  futures : OwnT 67 w base u3 T.futures
  bars : OwnB w base u4 T.bars
section
variable {base g : Nat} {T : Task} {u1 u2 u3 u4 : Value} {w w' : World}
theorem BoxRe.below (h : BoxRe base T g u1 u2 u3 u4 w) (hb : Below w.heap.size w w') : BoxRe base T g u1 u2 u3 u4 w' :=
  ⟨by rw [hb.block g (Array.getElem?_eq_some_iff.1 h.row).1]; exact h.row, h.le, h.parts.below hb, own_below h.edges hb, h.futures.below hb, h.bars.below hb⟩
theorem BoxRe.lies (h : BoxRe base T g u1 u2 u3 u4 w) (hF : FewT T) (hW : DTab w) : ∃ s : Sh, u1 = .slice s.P s.np s.pc ∧ u2 = .slice s.E s.ne s.ec ∧ u3 = .slice s.F s.nf s.fc ∧ u4 = .slice s.R s.nr s.rc ∧ CellsD w s T.period T.deadline g ∧ IsD w s T := by
  have q2 := h.edges
  have q3 := h.futures
  obtain ⟨P, pc, rfl, t1, n1⟩ := h.parts.slice
  obtain ⟨E, ec, rfl, t2, n2⟩ := h.edges.slice'
  obtain ⟨F, fc, rfl, t3, n3⟩ := h.futures.slice
  obtain ⟨R, rc, rfl, t4, n4⟩ := h.bars.slice
  have d0 := cell_of_row w g 0 _ _ _ h.row
  have d1 := cell_of_row w g 1 _ _ _ h.row
  have d2 := cell_of_row w g 2 _ _ _ h.row
  have d3 := cell_of_row w g 3 _ _ _ h.row
  have d4 := cell_of_row w g 4 _ _ _ h.row
  have d5 := cell_of_row w g 5 _ _ _ h.row
  exact ⟨⟨P, _, pc, E, _, ec, F, _, fc, R, _, rc⟩, rfl, rfl, rfl, rfl, ⟨d0, d1, d2, d3, d4, d5⟩, ⟨⟨rfl, rfl, rfl, rfl, t1, t2, t3, t4, n1, n2, n3, n4⟩, hF, hW, own_cap q2, own_cap q3⟩⟩
/-- Own's task, as a value. -/
theorem own_re {s : Sh} (h : IsD w s T) : Calls Tryz.prog 12 #[s.arg T.period T.deadline] w fun e w' =>
    ∃ A1 c1 A2 c2 A3 c3 A4 c4, e = .returned (.agg #[.int .i64 T.period, .int .i64 T.deadline, .slice A1 s.np c1, .slice A2 s.ne c2, .slice A3 s.nf c3, .slice A4 s.nr c4]) ∧
      OwnT 62 w' w.heap.size (.slice A1 s.np c1) T.parts ∧ OwnE w' w.heap.size (.slice A2 s.ne c2) T.edges ∧ OwnT 67 w' w.heap.size (.slice A3 s.nf c3) T.futures ∧ OwnB w' w.heap.size (.slice A4 s.nr c4) T.bars ∧ Below w.heap.size w w' :=
  (down_any s T w h.few h.t).mono fun e w' ⟨u1, u2, u3, u4, he, h1, h2, h3, h4, b⟩ => by
    have q1 := h1
    have q2 := h2
    have q3 := h3
    have q4 := h4
    obtain ⟨P, pc, rfl, _⟩ := h1.slice
    obtain ⟨E, ec, rfl, _⟩ := h2.slice'
    obtain ⟨F, fc, rfl, _⟩ := h3.slice
    obtain ⟨R, rc, rfl, _⟩ := h4.slice
    rw [h.t.hp] at q1 he
    rw [h.t.he] at q2 he
    rw [h.t.hf] at q3 he
    rw [h.t.hr] at q4 he
    exact ⟨P, pc, E, ec, F, fc, R, rc, he, q1, q2, q3, q4, b⟩
/-- A store of a part. -/
theorem ox_part {o : Oper} {a : Act} {x : World} {K : Act → World → Prop} {Q : Exit → Act → World → Prop} {s y : Operand} {gP k : Nat} {i j l : Int} {cur : Array Value} (hop : o.op = .store 62 s y) (hdst : o.dst = none)
    (hs : a.eval s = .pointer (some ⟨gP, k, none⟩)) (hy : a.eval y = .agg #[.int .i64 i, .int .i64 j, .int .i64 l]) (hg : x.heap[gP]? = some (.cells cur 62 (0, 0))) (hk : k + 2 < cur.size)
    (hK : K a (((x.setCell ⟨gP, k, none⟩ (.int .i64 i)).setCell ⟨gP, k + 1, none⟩ (.int .i64 j)).setCell ⟨gP, k + 2, none⟩ (.int .i64 l))) : o.wp Tryz.prog a x K Q := by
  obtain ⟨v0, hv0⟩ : ∃ v, cur[k]? = some v := ⟨_, Array.getElem?_eq_getElem (by omega)⟩
  obtain ⟨v1, hv1⟩ : ∃ v, cur[k + 1]? = some v := ⟨_, Array.getElem?_eq_getElem (by omega)⟩
  obtain ⟨v2, hv2⟩ : ∃ v, cur[k + 2]? = some v := ⟨_, Array.getElem?_eq_getElem (by omega)⟩
  have d0 : x.cell? ⟨gP, k, none⟩ = some v0 := by rw [cell_of_row _ _ _ _ _ _ hg]; exact hv0
  have z0 := frozen_of_row x gP k _ _ hg
  have hg1 := heap_setCell_same x gP k _ _ (.int .i64 i) hg
  have d1 : (x.setCell ⟨gP, k, none⟩ (.int .i64 i)).cell? ⟨gP, k + 1, none⟩ = some v1 := by rw [cell_of_row _ _ _ _ _ _ hg1, Array.getElem?_setIfInBounds_ne (by omega)]; exact hv1
  have z1 := frozen_of_row _ gP (k + 1) _ _ hg1
  have hg2 := heap_setCell_same _ gP (k + 1) _ _ (.int .i64 j) hg1
  have d2 : ((x.setCell ⟨gP, k, none⟩ (.int .i64 i)).setCell ⟨gP, k + 1, none⟩ (.int .i64 j)).cell? ⟨gP, k + 2, none⟩ = some v2 := by rw [cell_of_row _ _ _ _ _ _ hg2, Array.getElem?_setIfInBounds_ne (by omega), Array.getElem?_setIfInBounds_ne (by omega)]; exact hv2
  have z2 := frozen_of_row _ gP (k + 2) _ _ hg2
  have hr : (execOp a.eval o).run Tryz.prog x = .ok .skip (((x.setCell ⟨gP, k, none⟩ (.int .i64 i)).setCell ⟨gP, k + 1, none⟩ (.int .i64 j)).setCell ⟨gP, k + 2, none⟩ (.int .i64 l)) := by
    simp only [execOp, hop]
    rw [hs, hy]
    simp [go_sem, d0, z0, d1, z1, d2, z2]
  unfold Oper.wp
  rw [hr, Oper.upon_skip, hdst]
  exact hK
/-- A part is made a number. -/
theorem BoxRe.setPart {gP np c x : Nat} {arg : Int} (h : BoxRe base T g (.slice (some ⟨gP, 0, none⟩) np c) u2 u3 u4 w) (hx : x < T.parts.length) : ∃ cur, w.heap[gP]? = some (.cells cur 62 (0, 0)) ∧ x * 3 + 2 < cur.size ∧ base ≤ gP ∧
    BoxRe base (conT T x arg) g (.slice (some ⟨gP, 0, none⟩) np c) u2 u3 u4 (((w.setCell ⟨gP, x * 3, none⟩ (.int .i64 1)).setCell ⟨gP, x * 3 + 1, none⟩ (.int .i64 arg)).setCell ⟨gP, x * 3 + 2, none⟩ (.int .i64 (partAt T x).2.2)) := by
  have hrow : ∃ cur cap, w.heap[gP]? = some (.cells cur 62 (0, 0)) ∧ T.parts.length = np ∧ T.parts.length ≤ cap ∧ cur.size = cap * 3 ∧ base ≤ gP := by
    have h1 := h.parts.2
    rcases h1 with ⟨e, _⟩ | ⟨g', cap, cur, e, hg, hgg, hnc, hcm, hcs, _⟩
    · cases e
    · injection e with e1 e2 e3
      injection e1 with e1
      injection e1 with e1
      subst e1
      exact ⟨cur, _, hgg, e2.symm, hnc, hcs, hg⟩
  obtain ⟨cur, cap, hgg, hnp, hnc, hcs, hbg⟩ := hrow
  subst hnp
  obtain ⟨w3, hw3⟩ : ∃ w3, w3 = ((w.setCell ⟨gP, x * 3, none⟩ (.int .i64 1)).setCell ⟨gP, x * 3 + 1, none⟩ (.int .i64 arg)).setCell ⟨gP, x * 3 + 2, none⟩ (.int .i64 (partAt T x).2.2) := ⟨_, rfl⟩
  have hk : ∀ k, k ≠ gP → w3.heap[k]? = w.heap[k]? := fun k hk => by rw [hw3, heap_setCell_other _ _ _ _ hk, heap_setCell_other _ _ _ _ hk, heap_setCell_other _ _ _ _ hk]
  have hgne : g ≠ gP := fun e => by
    have := h.row
    rw [e, hgg] at this
    injection this with this
    injection this with _ e2 _
    exact absurd e2 (by decide)
  have hlen := flatT_length T.parts
  have hp : OwnT 62 w3 base (.slice (some ⟨gP, 0, none⟩) T.parts.length c) (conT T x arg).parts := by
    have h1 := own_set (own_set (own_set h.parts (j := x * 3) (by omega) (.int .i64 1)) (j := x * 3 + 1) (by rw [List.length_set]; omega) (.int .i64 arg)) (j := x * 3 + 2) (by rw [List.length_set, List.length_set]; omega) (.int .i64 (partAt T x).2.2)
    rw [← hw3] at h1
    unfold OwnT
    rw [conT_len]
    have h2 := flatT_set T.parts x (1, arg, (partAt T x).2.2) hx
    have h3 : (conT T x arg).parts = T.parts.set x (1, arg, (partAt T x).2.2) := rfl
    rw [h3, h2]
    exact h1
  refine ⟨cur, hgg, by omega, hbg, ?_⟩
  rw [← hw3]
  exact ⟨by rw [hk g hgne]; exact h.row, h.le, hp, other_own h.edges hgg (by decide) hk, other_own h.futures hgg (by decide) hk, by
    obtain ⟨cs', h4, h5, h6⟩ := h.bars
    exact ⟨cs', h4, other_own h5 hgg (by decide) hk, fun k c b hc hb => ⟨other_own (h6 k c b hc hb).1 hgg (by decide) hk, other_own (h6 k c b hc hb).2 hgg (by decide) hk⟩⟩⟩
end
theorem BoxRe.isD {base g : Nat} {T : Task} {w : World} {A1 A2 A3 A4 : Option Addr} {n1 c1 n2 c2 n3 c3 n4 c4 : Nat} (h : BoxRe base T g (.slice A1 n1 c1) (.slice A2 n2 c2) (.slice A3 n3 c3) (.slice A4 n4 c4) w) (hF : FewT T) (hW : DTab w) : IsD w ⟨A1, n1, c1, A2, n2, c2, A3, n3, c3, A4, n4, c4⟩ T := by
  obtain ⟨s, e1, e2, e3, e4, _, h5⟩ := h.lies hF hW
  injection e1 with a1 a2 a3
  injection e2 with b1 b2 b3
  injection e3 with d1 d2 d3
  injection e4 with f1 f2 f3
  subst a1 a2 a3 b1 b2 b3 d1 d2 d3 f1 f2 f3
  exact h5
theorem CellsD.low {w w' : World} {s : Sh} {p q : Int} {b B : Nat} (h : CellsD w s p q b) (hb : Below B w w') (hlt : b < B) : CellsD w' s p q b := by
  obtain ⟨c0, c1, c2, c3, c4, c5⟩ := h
  exact ⟨(hb.cell hlt).trans c0, (hb.cell hlt).trans c1, (hb.cell hlt).trans c2, (hb.cell hlt).trans c3, (hb.cell hlt).trans c4, (hb.cell hlt).trans c5⟩
theorem trips_at {w : World} {B b off k : Nat} {es : List (Int × Int × Int)} {e : Int × Int × Int} (h : Trips w B (some ⟨b, off, none⟩) es) (he : es[k]? = some e) : w.cell? ⟨b, off + k * 3 + 2, none⟩ = some (.int .i64 e.2.2) := by
  obtain ⟨b', off', e1, _, hc⟩ := h (by have := (List.getElem?_eq_some_iff.mp he).1; omega)
  injection e1 with e1
  injection e1 with e1 e2
  subst e1 e2
  exact (hc k e he).2.2
theorem conT_few {T : Task} {x : Nat} {arg : Int} (h : FewT T) : FewT (conT T x arg) := ⟨by rw [conT_len]; exact h.np, h.ne, h.nf, h.nr, h.bars⟩
/-- A lowered task in a box, and two lists. -/
structure BxRr (w : World) (gl : Nat) (A : Option Addr) (n c : Nat) (F : Option Addr) (m d : Nat) (R : Option Addr) (k e : Nat) (W : List Int) (E P : List (Int × Int)) (A5 : Option Addr) (la : List Int) (A9 : Option Addr) (lb : List Int) (w' : World) : Prop where
  bel : Below w.heap.size w w'
  row : w'.heap[gl]? = some (.cells #[.slice A n c, .slice F m d, .slice R k e] 35 (0, 0))
  l : IsL w' A n c F m d R k e W E P
  a : Ints w' w'.heap.size A5 la
  b : Ints w' w'.heap.size A9 lb
section
variable {w w1 w2 : World} {gl : Nat} {A : Option Addr} {n c : Nat} {F : Option Addr} {m d : Nat} {R : Option Addr} {k e : Nat} {W : List Int} {E P : List (Int × Int)} {A5 : Option Addr} {la : List Int} {A9 : Option Addr} {lb : List Int}
theorem BxRr.next (h : BxRr w gl A n c F m d R k e W E P A5 la A9 lb w1) (hb : Below w1.heap.size w1 w2) : BxRr w gl A n c F m d R k e W E P A5 la A9 lb w2 :=
  ⟨h.bel.trans (hb.mono h.bel.size), by rw [hb.block _ (Array.getElem?_eq_some_iff.1 h.row).1]; exact h.row, h.l.below hb, h.a.step hb, h.b.step hb⟩
theorem BxRr.c0 (h : BxRr w gl A n c F m d R k e W E P A5 la A9 lb w1) : w1.cell? ⟨gl, 0, none⟩ = some (.slice A n c) := by rw [cell_of_row _ _ _ _ _ _ h.row]; rfl
theorem BxRr.c1 (h : BxRr w gl A n c F m d R k e W E P A5 la A9 lb w1) : w1.cell? ⟨gl, 1, none⟩ = some (.slice F m d) := by rw [cell_of_row _ _ _ _ _ _ h.row]; rfl
theorem BxRr.c2 (h : BxRr w gl A n c F m d R k e W E P A5 la A9 lb w1) : w1.cell? ⟨gl, 2, none⟩ = some (.slice R k e) := by rw [cell_of_row _ _ _ _ _ _ h.row]; rfl
end
set_option maxRecDepth 100000 in
theorem idx_eqT9 {ρ : Operand → Value} {o : Oper} {x y : Operand} {lb lo n c k : Nat} {w : World} (ho : o.op = .indexAddr 22 x y) (hx : ρ x = .slice (some ⟨lb, lo, none⟩) n c) (hy : ρ y = .int .i64 (k : Int)) (hk : k < n) :
    (execOp ρ o).run Tryz.prog w = .ok (.value (.pointer (some ⟨lb, lo + k * 3, none⟩))) w := by
  have hk2 : (k : Int) < (n : Int) := by omega
  simp [execOp, ho, hx, hy, hk2, go_sem]
/-- What stands in the end. -/
theorem reach_law {T : Task} {x i : Nat} {arg : Int} (h : LowOk T) (hx : x < T.parts.length) (ha : 0 ≤ arg ∧ arg ≤ 2147483647) (inp : List Int) (hi : i < T.parts.length) (hne : i ≠ x)
    (hb : beforeV (lowWv (conT T x arg)) (lowEv (conT T x arg)) (lastV (lowPv (conT T x arg)) (x : Int)) (lastV (lowPv (conT T x arg)) (i : Int)) = false) : (runV T inp).getD i 0 = (runV (conT T x arg) inp).getD i 0 := by
  refine reach_same h hx ha inp hi hne fun hw => ?_
  obtain ⟨e1, e2, e3⟩ := low_yes (conT_low h hx ha)
  rw [e1, e2, e3, conT_P, conT_W, conT_E, last_last hx, last_last hi] at hb
  unfold beforeV at hb
  rw [if_pos ⟨h.2, by omega, by omega, by simpa using hw⟩] at hb
  cases hb
end Go.Proofs.YtmelgolnmnebpaaGreatDoor
