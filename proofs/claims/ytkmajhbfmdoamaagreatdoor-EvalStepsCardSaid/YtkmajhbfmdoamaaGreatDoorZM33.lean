/- What the regions of layer 8's laws yield, in the seat YtkmajhbfmdoamaaGreatDoor.
   Who is ready, and may be finished, in plain words, in the seat YtkmajhbfmdoamaaGreatDoor.
   How many are done; a task and a memory that is written, in boxes: in the seat YtkmajhbfmdoamaaGreatDoor.
   No statement is proved here. -/
import Derived.Test.YtkmajhbfmdoamaaGreatDoorZM31
import Derived.Test.YtkmajhbfmdoamaaGreatDoorZEvalFinish
import Derived.Test.YtkmajhbfmdoamaaGreatDoorZM4
import Derived.Test.YtkmajhbfmdoamaaGreatDoorZM27
set_option linter.unusedSimpArgs false
set_option linter.unusedVariables false
namespace Go.Proofs.YtkmajhbfmdoamaaGreatDoor
open Go.RowKit

theorem Ints.step {w w' : World} {A : Option Addr} {zs : List Int} (h : Ints w w.heap.size A zs) (hb : Below w.heap.size w w') : Ints w' w'.heap.size A zs := (h.below hb).more hb.size
/-- A task, a memory, a list, handed out. -/
def GDq (T : Task) (v : Value) (w : World) : Prop := ∃ s' : Sh, v = s'.arg T.period T.deadline ∧ IsD w s' T
def GMq (n m : Nat) (D : List Bool) (V : List Int) (v : Value) (w : World) : Prop := ∃ A1 c1 F1 d1, v = .agg #[.slice A1 n c1, .slice F1 m d1] ∧ IsM w A1 n c1 F1 m d1 D V
def GLq (k : Nat) (zs : List Int) (v : Value) (w : World) : Prop := ∃ A1 c1, v = .slice A1 k c1 ∧ Ints w w.heap.size A1 zs
/-- A memory and an error. -/
def GFq (D : List Bool) (V : List Int) (z : Int) (v : Value) (w : World) : Prop := ∃ A1 n1 c1 F1 m1 d1, v = .tuple #[.agg #[.slice A1 n1 c1, .slice F1 m1 d1], .int .i64 z] ∧ IsM w A1 n1 c1 F1 m1 d1 D V
def GXq (D : List Bool) (V : List Int) (v : Value) (w : World) : Prop := ∃ A1 n1 c1 F1 m1 d1, v = .agg #[.slice A1 n1 c1, .slice F1 m1 d1] ∧ IsM w A1 n1 c1 F1 m1 d1 D V
/-- A new block for a memory. -/
def GNq (hb : Nat) (v : Value) (w : World) : Prop := ∃ g, v = .pointer (some ⟨g, 0, none⟩) ∧ hb ≤ g ∧ w.heap[g]? = some (.cells #[.slice none 0 0, .slice none 0 0] 31 (0, 0))
section
variable {T : Task} {n m k hb : Nat} {D : List Bool} {V zs : List Int} {z : Int} {v : Value} {w w' : World}
theorem GDq.below (h : GDq T v w) (hb : Below w.heap.size w w') : GDq T v w' := by
  obtain ⟨s', h1, h2⟩ := h
  exact ⟨s', h1, h2.below hb⟩
theorem GMq.below (h : GMq n m D V v w) (hb : Below w.heap.size w w') : GMq n m D V v w' := by
  obtain ⟨A1, c1, F1, d1, h1, h2⟩ := h
  exact ⟨A1, c1, F1, d1, h1, h2.below hb⟩
theorem GLq.below (h : GLq k zs v w) (hb : Below w.heap.size w w') : GLq k zs v w' := by
  obtain ⟨A1, c1, h1, h2⟩ := h
  exact ⟨A1, c1, h1, (h2.below hb).more hb.size⟩
theorem GFq.below (h : GFq D V z v w) (hb : Below w.heap.size w w') : GFq D V z v w' := by
  obtain ⟨A1, n1, c1, F1, m1, d1, h1, h2⟩ := h
  exact ⟨A1, n1, c1, F1, m1, d1, h1, h2.below hb⟩
theorem GXq.below (h : GXq D V v w) (hb : Below w.heap.size w w') : GXq D V v w' := by
  obtain ⟨A1, n1, c1, F1, m1, d1, h1, h2⟩ := h
  exact ⟨A1, n1, c1, F1, m1, d1, h1, h2.below hb⟩
theorem GNq.below (h : GNq hb v w) (hb' : Below w.heap.size w w') : GNq hb v w' := by
  obtain ⟨g, h1, h2, h3⟩ := h
  exact ⟨g, h1, h2, by rw [hb'.block _ (Array.getElem?_eq_some_iff.1 h3).1]; exact h3⟩
theorem IsM.gx {A1 n1 c1 F1 m1 d1} (h : IsM w A1 n1 c1 F1 m1 d1 D V) : GXq D V (.agg #[.slice A1 n1 c1, .slice F1 m1 d1]) w := ⟨A1, n1, c1, F1, m1, d1, rfl, h⟩
end
/-- A memory's lists stay when a variable of slices is written. -/
theorem Bools.far {w w' : World} {g B : Nat} {t : TypeId} {cs : Array Value} {fr : Nat × Nat} (hg : w.heap[g]? = some (.cells cs t fr)) (hn : ∀ (b : Bool), ∀ u ∈ cs, u ≠ .bool b) (hf : ∀ k, k ≠ g → w'.heap[k]? = w.heap[k]?)
    {A : Option Addr} {zs : List Bool} (h : Bools w B A zs) : Bools w' B A zs := fun hp => by
  obtain ⟨b, off, e, hb, hc⟩ := h hp
  exact ⟨b, off, e, hb, fun k hk => (cell_same (hf b (cell_ne hg (hc k hk) (hn _)))).trans (hc k hk)⟩
theorem slices_ne {A F : Option Addr} {n c m d : Nat} : (∀ (z : Int), ∀ u ∈ (#[.slice A n c, .slice F m d] : Array Value), u ≠ .int .i64 z) ∧ ∀ (b : Bool), ∀ u ∈ (#[.slice A n c, .slice F m d] : Array Value), u ≠ .bool b := by
  constructor <;> (intro z u hu e; subst e; simp at hu)
theorem isM_set {w : World} {g : Nat} {t : TypeId} {B E : Option Addr} {b b' e e' : Nat} (hg : w.heap[g]? = some (.cells #[.slice B b b', .slice E e e'] t (0, 0))) {A : Option Addr} {n c : Nat} {F : Option Addr} {m d : Nat} {D : List Bool} {V : List Int} (h : IsM w A n c F m d D V) (u v : Value) :
    IsM ((w.setCell ⟨g, 0, none⟩ u).setCell ⟨g, 1, none⟩ v) A n c F m d D V := by
  have hs := size_set2 w g u v
  have hf : ∀ k, k ≠ g → ((w.setCell ⟨g, 0, none⟩ u).setCell ⟨g, 1, none⟩ v).heap[k]? = w.heap[k]? := fun k hk => by rw [heap_setCell_other _ _ _ _ hk, heap_setCell_other _ _ _ _ hk]
  exact ⟨h.hn, h.hm, h.ln, h.lm, by rw [hs]; exact h.bools.far hg slices_ne.2 hf, by rw [hs]; exact h.ints.far hg slices_ne.1 hf, h.hA, h.hF⟩
theorem InM.isM {w : World} {A : Option Addr} {n c : Nat} {F : Option Addr} {m d : Nat} {D : List Bool} {V : List Int} (h : InM w A n c F m d D V) (l1 : n ≤ 400) (l2 : m ≤ 400) : IsM w A n c F m d D V := ⟨h.hn, h.hm, l1, l2, h.bools, h.ints, h.hA, h.hF⟩
/-- Behind a store of a memory into a new block, whose address lies in a slot. -/
def ThM (wd : World) (slot : Nat) (D : List Bool) (V : List Int) (f : Nat → Value) (w : World) : Prop := ∃ g A4 n4 c4 F4 m4 d4, f slot = .pointer (some ⟨g, 0, none⟩) ∧ Below wd.heap.size wd w ∧ wd.heap.size ≤ g ∧ w.heap[g]? = some (.cells #[.slice A4 n4 c4, .slice F4 m4 d4] 31 (0, 0)) ∧ IsM w A4 n4 c4 F4 m4 d4 D V
theorem ThM.slot {wd w : World} {slot : Nat} {D : List Bool} {V : List Int} {f f' : Nat → Value} (h : ThM wd slot D V f w) (e : f slot = f' slot) : ThM wd slot D V f' w := by
  obtain ⟨g, A4, n4, c4, F4, m4, d4, h1, h2⟩ := h
  exact ⟨g, A4, n4, c4, F4, m4, d4, e ▸ h1, h2⟩
/-- The store itself. -/
theorem stM {o : Oper} {a : Act} {w wd : World} {K : Act → World → Prop} {Q : Exit → Act → World → Prop} {slot : Nat} {s y : Operand} {D : List Bool} {V : List Int} (hop : o.op = .store 31 s y) (hdst : o.dst = none)
    (hs : a.eval s = a.eval (.tmp slot)) (h9 : GNq wd.heap.size (a.eval (.tmp slot)) w) (h7 : GXq D V (a.eval y) w) (hb : Below wd.heap.size wd w) (hK : ∀ w', ThM wd slot D V (fun t => a.eval (.tmp t)) w' → K a w') : o.wp Tryz.prog a w K Q := by
  obtain ⟨g, q9, hg1, hg2⟩ := h9
  obtain ⟨A4, n4, c4, F4, m4, d4, q7, hM4⟩ := h7
  exact ox_store2 (g := g) (u := .slice A4 n4 c4) (v := .slice F4 m4 d4) hop hdst (hs.trans q9) q7 ⟨_, _, _, _, _, _, rfl, rfl⟩ hg2 (hK _ ⟨g, A4, n4, c4, F4, m4, d4, q9, hb.trans (below_set2 hg1 _ _), hg1, row_set2 hg2 _ _, isM_set hg2 hM4 _ _⟩)
/-- The boxes of a law over a task and a memory. -/
structure BxV (w : World) (s : Sh) (T : Task) (A : Option Addr) (n c : Nat) (F : Option Addr) (m d : Nat) (D : List Bool) (V : List Int) (w' : World) : Prop where
  k : BxK w s T A n c F m d w'
  l : InM w' A n c F m d D V
theorem BxV.next {w w1 w2 : World} {s : Sh} {T : Task} {A : Option Addr} {n c : Nat} {F : Option Addr} {m d : Nat} {D : List Bool} {V : List Int} (h : BxV w s T A n c F m d D V w1) (hb : Below w1.heap.size w1 w2) : BxV w s T A n c F m d D V w2 := ⟨h.k.next hb, h.l.below hb⟩
theorem BxV.start {w : World} {s : Sh} {T : Task} {A : Option Addr} {n c : Nat} {F : Option Addr} {m d : Nat} {D : List Bool} {V : List Int} (hd : IsT w w.heap.size s T) (hm : InM w A n c F m d D V) :
    BxV w s T A n c F m d D V ((w.alloc (.cells #[.int .i64 T.period, .int .i64 T.deadline, .slice s.P s.np s.pc, .slice s.E s.ne s.ec, .slice s.F s.nf s.fc, .slice s.R s.nr s.rc] 27)).alloc (.cells #[.slice A n c, .slice F m d] 31)) :=
  ⟨BxK.start hd, hm.below (below_alloc2 _ _)⟩
section
variable {w w' w1 w2 : World} {s : Sh} {T : Task} {A : Option Addr} {n c : Nat} {F : Option Addr} {m d : Nat} {D : List Bool} {V : List Int} {A2 : Option Addr} {zs : List Int} {g : Nat} {A3 : Option Addr} {n3 c3 : Nat} {F3 : Option Addr} {m3 d3 : Nat} {D' : List Bool} {V' : List Int}
end
end Go.Proofs.YtkmajhbfmdoamaaGreatDoor
set_option linter.unusedVariables false
namespace Go.Proofs.YtkmajhbfmdoamaaGreatDoor

section
variable {T : Task} {D : List Bool} {V : List Int}
end
end Go.Proofs.YtkmajhbfmdoamaaGreatDoor
set_option linter.unusedVariables false
namespace Go.Proofs.YtkmajhbfmdoamaaGreatDoor
open Go.RowKit

section
variable {w w1 w2 : World} {s : Sh} {T : Task} {g : Nat} {A : Option Addr} {n c : Nat} {F : Option Addr} {m d : Nat} {D : List Bool} {V : List Int}
theorem CellsD.far {w w' : World} {s : Sh} {p q : Int} {b g : Nat} (h : CellsD w s p q b) (hn : b ≠ g) (hf : ∀ k, k ≠ g → w'.heap[k]? = w.heap[k]?) : CellsD w' s p q b := by
  obtain ⟨c0, c1, c2, c3, c4, c5⟩ := h
  have e : ∀ o, w'.cell? ⟨b, o, none⟩ = w.cell? ⟨b, o, none⟩ := fun o => cell_same (hf b hn)
  exact ⟨(e 0).trans c0, (e 1).trans c1, (e 2).trans c2, (e 3).trans c3, (e 4).trans c4, (e 5).trans c5⟩
end
/-- A new list, as a region makes it. -/
theorem app_list9 {w : World} {base ni ci : Nat} {v : Value} {Ai : Option Addr} {inp : List Int} (hv : NewRow 3 w base v) (hi : InI w Ai ni ci inp) (hl : ni ≤ 1000) (hb : base ≤ w.heap.size) :
    ∃ A8 c8 w2, (Builtin.append_ #[28, 28] 28 #[v, .slice Ai ni ci]).run Tryz.prog w = .ok (.slice A8 ni c8) w2 ∧ GLq ni inp (.slice A8 ni c8) w2 ∧ Below w.heap.size w w2 := by
  obtain ⟨i0, hi0, hz0, hz1, hz2⟩ := info_parts5 int_cell_info
  obtain rfl := hi.hn
  obtain ⟨g, rfl, hg, hgl⟩ := hv
  obtain ⟨v', w2, hr, how, hbb⟩ := fresh_append (P := Tryz.prog) w 28 28 3 i0 (.int .i64 0) 1 8 Tryz.underlying28 hi0 hz0 hz1 hz2 rfl (by omega) base g hg hgl hb Ai inp.length ci (inp.map (Value.int .i64)) (by simp) hi.hA (fun ad e => by have q := hi.ints; rw [e] at q; exact q.cells) (oneCell_ints inp) (by unfold maxLen; omega) (by omega)
  have how' : OwnI w2 base v' inp := how
  obtain ⟨A8, c8, rfl, hi8⟩ := OwnI.slice how'
  exact ⟨A8, c8, w2, hr, ⟨A8, c8, rfl, hi8⟩, hbb⟩
end Go.Proofs.YtkmajhbfmdoamaaGreatDoor
