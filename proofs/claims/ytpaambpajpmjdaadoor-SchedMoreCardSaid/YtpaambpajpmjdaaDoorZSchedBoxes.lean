/- A graph that a drawn region of a law makes and lays in a variable, in the seat YtpaambpajpmjdaaDoor. No statement is proved here. -/
import Derived.Test.YtpaambpajpmjdaaDoorZSchedGx
import Derived.Test.YtpaambpajpmjdaaDoorZM11
set_option linter.unusedSimpArgs false
set_option linter.unusedVariables false
namespace Go.Proofs.YtpaambpajpmjdaaDoor
open Go Go.RowKit

theorem Pairs.stored {w : World} {B g : Nat} {A : Option Addr} {es : List (Int × Int)} {t : TypeId} {vs : List Value} (h : Pairs w B A es) (hr : RowV g t vs w) (hs : ∀ v ∈ vs, ∃ A n c, v = .slice A n c) (j : Nat) (v : Value) : Pairs (w.setCell ⟨g, j, none⟩ v) B A es := fun hn => by
  obtain ⟨b, off, e, hb, hc⟩ := h hn
  have key : ∀ (p : Nat) (x : Int), w.cell? ⟨b, p, none⟩ = some (.int .i64 x) → (w.setCell ⟨g, j, none⟩ v).cell? ⟨b, p, none⟩ = some (.int .i64 x) := fun p x h1 => by
    rw [World.cell?_setCell_other]
    · exact h1
    · intro e
      have hbg : b = g := (congrArg Addr.block e).symm
      rw [hbg, cell_of_row _ _ _ _ _ _ hr] at h1
      obtain ⟨A', n', c', h2⟩ := hs _ (List.mem_of_getElem? (by simpa using h1))
      cases h2
  exact ⟨b, off, e, hb, fun k x hx => ⟨key _ _ (hc k x hx).1, key _ _ (hc k x hx).2⟩⟩
def GXr (t : TypeId) (hbs : Nat) (v : Value) (w : World) : Prop := ∃ g, v = .slice (some ⟨g, 0, none⟩) 0 0 ∧ w.heap[g]? = some (.cells #[] t (0, 0)) ∧ hbs ≤ g
theorem GXr.below {t : TypeId} {hbs : Nat} {v : Value} {w w' : World} (h : GXr t hbs v w) (hb : Below w.heap.size w w') : GXr t hbs v w' := by
  obtain ⟨g, e, hg, hl⟩ := h
  exact ⟨g, e, by rw [hb.block _ (Array.getElem?_eq_some_iff.1 hg).1]; exact hg, hl⟩
def GXe (m : Nat) (E : List (Int × Int)) (v : Value) (w : World) : Prop := ∃ F d, v = .slice F m d ∧ Pairs w w.heap.size F E ∧ (F = none → m = 0 ∧ d = 0)
theorem GXe.below {m : Nat} {E : List (Int × Int)} {v : Value} {w w' : World} (h : GXe m E v w) (hb : Below w.heap.size w w') : GXe m E v w' := by
  obtain ⟨F, d, e, hp, hn⟩ := h
  exact ⟨F, d, e, (hp.below hb).more hb.size, hn⟩
def GXa (hbs : Nat) (v : Value) (w : World) : Prop := ∃ g, v = .pointer (some ⟨g, 0, none⟩) ∧ hbs ≤ g ∧ w.heap[g]? = some (.cells #[.slice none 0 0, .slice none 0 0] 25 (0, 0))
theorem GXa.below {hbs : Nat} {v : Value} {w w' : World} (h : GXa hbs v w) (hb : Below w.heap.size w w') : GXa hbs v w' := by
  obtain ⟨g, e, hl, hg⟩ := h
  exact ⟨g, e, hl, by rw [hb.block _ (Array.getElem?_eq_some_iff.1 hg).1]; exact hg⟩
/-- 'append([]api.Edge{}, l...)'. -/
theorem app_edges {w : World} {base m d : Nat} {v : Value} {F : Option Addr} {E : List (Int × Int)} (hv : GXr 45 base v w) (hm : E.length = m) (hl : m ≤ 400) (hP : Pairs w w.heap.size F E) (hF : F = none → m = 0 ∧ d = 0) (hb : base ≤ w.heap.size) :
    ∃ F2 d2 w2, (Builtin.append_ #[23, 23] 23 #[v, .slice F m d]).run Tryd.prog w = .ok (.slice F2 m d2) w2 ∧ GXe m E (.slice F2 m d2) w2 ∧ Below w.heap.size w w2 := by
  obtain ⟨i0, hi0, hz0, hz1, hz2⟩ := info_partsS edge_cell_info
  subst hm
  obtain ⟨g, rfl, hg, hgl⟩ := hv
  obtain ⟨v', w2, hr, how, hbb⟩ := fresh_append (P := Tryd.prog) w 23 23 45 i0 (.agg #[.int .i64 0, .int .i64 0]) 2 16 Tryd.underlying23 hi0 hz0 hz1 hz2 rfl (by omega) base g hg hgl hb F E.length d (flatE E) (flatE_length E) hF (fun ad e => by subst e; exact hP.news) (flatE_one E) (by unfold maxLen; omega) (by omega)
  have how' : OwnE w2 base v' E := how
  obtain ⟨F2, d2, rfl, hp⟩ := how'.slice
  exact ⟨F2, d2, w2, hr, ⟨F2, d2, rfl, hp, fun e => by subst e; exact how'.none_nil⟩, hbb⟩
theorem below_setD {g B : Nat} {w : World} (hg : B ≤ g) (u v : Value) : Below B w ((w.setCell ⟨g, 0, none⟩ u).setCell ⟨g, 1, none⟩ v) := ((Below.refl B w).setCell hg _).setCell hg _
/-- A graph lies in block g. -/
structure InBox (g : Nat) (n m : Nat) (W : List Int) (E : List (Int × Int)) (A : Option Addr) (c : Nat) (F : Option Addr) (d : Nat) (w : World) : Prop where
  row : w.heap[g]? = some (.cells #[.slice A n c, .slice F m d] 25 (0, 0))
  g : IsG w A n c F m d W E
theorem InBox.below {g n m : Nat} {W : List Int} {E : List (Int × Int)} {A : Option Addr} {c : Nat} {F : Option Addr} {d : Nat} {w w' : World} (h : InBox g n m W E A c F d w) (hb : Below w.heap.size w w') : InBox g n m W E A c F d w' :=
  ⟨by rw [hb.block _ (Array.getElem?_eq_some_iff.1 h.row).1]; exact h.row, h.g.below hb⟩
theorem InBox.cells {g n m : Nat} {W : List Int} {E : List (Int × Int)} {A : Option Addr} {c : Nat} {F : Option Addr} {d : Nat} {w : World} (h : InBox g n m W E A c F d w) : w.cell? ⟨g, 0, none⟩ = some (.slice A n c) ∧ w.cell? ⟨g, 1, none⟩ = some (.slice F m d) :=
  ⟨by rw [cell_of_row _ _ _ _ _ _ h.row]; rfl, by rw [cell_of_row _ _ _ _ _ _ h.row]; rfl⟩
def ThD (wd : World) (slot n m : Nat) (W : List Int) (E : List (Int × Int)) (f : Nat → Value) (w : World) : Prop := ∃ g A c F d, f slot = .pointer (some ⟨g, 0, none⟩) ∧ Below wd.heap.size wd w ∧ wd.heap.size ≤ g ∧ InBox g n m W E A c F d w
theorem ThD.slot {wd w : World} {slot n m : Nat} {W : List Int} {E : List (Int × Int)} {f f' : Nat → Value} (h : ThD wd slot n m W E f w) (e : f slot = f' slot) : ThD wd slot n m W E f' w := by
  obtain ⟨g, A, c, F, d, h1, h2⟩ := h
  exact ⟨g, A, c, F, d, e ▸ h1, h2⟩
/-- The store itself. -/
theorem stD {o : Oper} {a : Act} {w wd : World} {K : Act → World → Prop} {Q : Exit → Act → World → Prop} {slot : Nat} {s y : Operand} {n m : Nat} {W : List Int} {E : List (Int × Int)} (hop : o.op = .store 25 s y) (hdst : o.dst = none)
    (hs : a.eval s = a.eval (.tmp slot)) (h9 : GXa wd.heap.size (a.eval (.tmp slot)) w) (h7 : GXd n m W E (a.eval y) w) (hb : Below wd.heap.size wd w) (hB0 : 0 < wd.heap.size) (hK : ∀ w', ThD wd slot n m W E (fun t => a.eval (.tmp t)) w' → K a w') : o.wp Tryd.prog a w K Q := by
  obtain ⟨g, q9, hg1, hg⟩ := h9
  obtain ⟨A, c, F, d, q7, hM⟩ := h7
  have d0 := cell_of_row w g 0 _ _ _ hg
  have z0 := frozen_of_row w g 0 _ _ hg
  have hrow0 : RowV g 25 [.slice none 0 0, .slice none 0 0] w := hg
  have hg1' := heap_setCell_same w g 0 _ _ (.slice A n c) hg
  have d1' := cell_of_row _ g 1 _ _ _ hg1'
  have z1' := frozen_of_row _ g 1 _ _ hg1'
  have hrow1 : RowV g 25 [.slice A n c, .slice none 0 0] (w.setCell ⟨g, 0, none⟩ (.slice A n c)) := by
    have := hrow0.set 0 (.slice A n c)
    exact this
  have hrow2 : RowV g 25 [.slice A n c, .slice F m d] ((w.setCell ⟨g, 0, none⟩ (.slice A n c)).setCell ⟨g, 1, none⟩ (.slice F m d)) := by
    have := hrow1.set 1 (.slice F m d)
    exact this
  simp at d0 d1'
  have hr : (execOp a.eval o).run Tryd.prog w = .ok .skip ((w.setCell ⟨g, 0, none⟩ (.slice A n c)).setCell ⟨g, 1, none⟩ (.slice F m d)) := by
    simp only [execOp, hop]
    rw [hs, q9, q7]
    simp [go_sem, d0, z0, d1', z1']
  unfold Oper.wp
  rw [hr, Oper.upon_skip, hdst]
  have hs0 : ∀ v ∈ [Value.slice none 0 0, Value.slice none 0 0], ∃ A n c, v = .slice A n c := fun v hv => by
    rcases (by simpa using hv : v = .slice none 0 0) with rfl
    exact ⟨_, _, _, rfl⟩
  have hs1 : ∀ v ∈ [Value.slice A n c, Value.slice none 0 0], ∃ A n c, v = .slice A n c := fun v hv => by
    rcases (by simpa using hv : v = .slice A n c ∨ v = .slice none 0 0) with rfl | rfl <;> exact ⟨_, _, _, rfl⟩
  have hsz : ((w.setCell ⟨g, 0, none⟩ (.slice A n c)).setCell ⟨g, 1, none⟩ (.slice F m d)).heap.size = w.heap.size := by simp
  refine hK _ ⟨g, A, c, F, d, q9, hb.trans (below_setD hg1 _ _), hg1, hrow2, hM.hn, hM.hm, hM.ln, hM.lm, ?_, ?_, hM.hA, hM.hF, hM.tab.below (below_setD hg1 _ _) hB0⟩
  · rw [hsz]
    exact (hM.ints.stored hrow0 hs0 0 _).stored hrow1 hs1 1 _
  · rw [hsz]
    exact (hM.pairs.stored hrow0 hs0 0 _).stored hrow1 hs1 1 _
end Go.Proofs.YtpaambpajpmjdaaDoor
