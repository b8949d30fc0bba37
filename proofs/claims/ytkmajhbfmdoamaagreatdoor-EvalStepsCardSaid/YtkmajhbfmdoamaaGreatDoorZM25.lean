/- What the walks over tasks share, in the seat YtkmajhbfmdoamaaGreatDoor (parted out of DescWalk0 in round 6). No statement is proved here. -/
import Derived.Test.YtkmajhbfmdoamaaGreatDoorZM10
import Derived.Test.YtkmajhbfmdoamaaGreatDoorZM16
import Derived.Test.YtkmajhbfmdoamaaGreatDoorZM6
set_option linter.unusedSimpArgs false
set_option linter.unusedVariables false
namespace Go.Proofs.YtkmajhbfmdoamaaGreatDoor
open Go.RowKit

/-- A task, as a row hands it over. -/
structure InD (w : World) (s : Sh) (T : Task) : Prop where
  t : IsT w w.heap.size s T
  lE : s.ne ≤ s.ec
  lF : s.nf ≤ s.fc
theorem InD.isD {w : World} {s : Sh} {T : Task} (h : InD w s T) (hT : DTab w) (hF : FewD T) : IsD w s T := ⟨h.t, hF.few, hT, h.lE, h.lF⟩
theorem own_d {s : Sh} {T : Task} {w : World} (h : IsD w s T) :
    Calls Tryz.prog 7 #[s.arg T.period T.deadline] w fun e w' => ∃ s' : Sh, e = .returned (s'.arg T.period T.deadline) ∧ IsD w' s' T ∧ Below w.heap.size w w' :=
  (down_any s T w h.few h.t).mono fun _ _ k => k.isD h.few h.tab
theorem few_d {s : Sh} {T : Task} {w : World} {p q : Int} (h : IsT w w.heap.size s T) (hF : FewD T) :
    Calls Tryz.prog 20 #[s.arg p q] w fun e w' => e = .returned (.bool true) ∧ Below w.heap.size w w' := dfew_any s T p q true ⟨fun _ => hF, fun _ => rfl⟩ w h
theorem few_n {s : Sh} {T : Task} {w : World} {p q : Int} (h : IsT w w.heap.size s T) (hF : ¬ FewD T) :
    Calls Tryz.prog 20 #[s.arg p q] w fun e w' => e = .returned (.bool false) ∧ Below w.heap.size w w' := dfew_any s T p q false ⟨fun k => Bool.noConfusion k, fun k => absurd k hF⟩ w h
theorem rcheck_d {s : Sh} {T : Task} {w : World} (h : IsD w s T) :
    Calls Tryz.prog 47 #[s.arg T.period T.deadline] w fun e w' => e = .returned (.int .i64 (chkT T)) ∧ Below w.heap.size w w' := dcheck_any s T w h.few h.t
/-- The boxes' cells. -/
def CellsD (w : World) (s : Sh) (p q : Int) (g : Nat) : Prop :=
  w.cell? ⟨g, 0, none⟩ = some (.int .i64 p) ∧ w.cell? ⟨g, 1, none⟩ = some (.int .i64 q) ∧ w.cell? ⟨g, 2, none⟩ = some (.slice s.P s.np s.pc) ∧ w.cell? ⟨g, 3, none⟩ = some (.slice s.E s.ne s.ec) ∧ w.cell? ⟨g, 4, none⟩ = some (.slice s.F s.nf s.fc) ∧ w.cell? ⟨g, 5, none⟩ = some (.slice s.R s.nr s.rc)
theorem ld_desc {ρ : Operand → Value} {o : Oper} {t : Operand} {w : World} {g : Nat} {s : Sh} {p q : Int} (ho : o.op = .load 27 t) (ht : ρ t = .pointer (some ⟨g, 0, none⟩)) (hc : CellsD w s p q g) : (execOp ρ o).run Tryz.prog w = .ok (.value (s.arg p q)) w := by
  obtain ⟨c0, c1, c2, c3, c4, c5⟩ := hc
  simp [execOp, ho, ht, c0, c1, c2, c3, c4, c5, go_sem]
theorem CellsD.next {w w' : World} {s : Sh} {p q : Int} {g : Nat} (h : CellsD w s p q g) (hb : Below w.heap.size w w') : CellsD w' s p q g := by
  have hlt : g < w.heap.size := World.block_lt_of_cell? _ _ h.1
  exact ⟨(hb.cell hlt).trans h.1, (hb.cell hlt).trans h.2.1, (hb.cell hlt).trans h.2.2.1, (hb.cell hlt).trans h.2.2.2.1, (hb.cell hlt).trans h.2.2.2.2.1, (hb.cell hlt).trans h.2.2.2.2.2⟩
/-- One task lies in a box of the call's own (it began in w), and as it came. -/
structure Bx1D (w : World) (s : Sh) (T : Task) (w' : World) : Prop where
  bel : Below w.heap.size w w'
  c : CellsD w' s T.period T.deadline w.heap.size
  d : IsD w' s T
theorem Bx1D.next {w w1 w2 : World} {s : Sh} {T : Task} (h : Bx1D w s T w1) (hb : Below w1.heap.size w1 w2) : Bx1D w s T w2 := ⟨h.bel.trans (hb.mono h.bel.size), h.c.next hb, h.d.below hb⟩
/-- .. of whatever size. -/
structure Bx1T (w : World) (s : Sh) (T : Task) (w' : World) : Prop where
  bel : Below w.heap.size w w'
  c : CellsD w' s T.period T.deadline w.heap.size
  t : IsT w' w'.heap.size s T
theorem Bx1T.next {w w1 w2 : World} {s : Sh} {T : Task} (h : Bx1T w s T w1) (hb : Below w1.heap.size w1 w2) : Bx1T w s T w2 := ⟨h.bel.trans (hb.mono h.bel.size), h.c.next hb, (h.t.below hb).more hb.size⟩
theorem Bx1T.start {w : World} {s : Sh} {T : Task} (h : IsT w w.heap.size s T) : Bx1T w s T (w.alloc (.cells #[.int .i64 T.period, .int .i64 T.deadline, .slice s.P s.np s.pc, .slice s.E s.ne s.ec, .slice s.F s.nf s.fc, .slice s.R s.nr s.rc] 27)) := by
  refine ⟨below_alloc _, ⟨?_, ?_, ?_, ?_, ?_, ?_⟩, (h.below (below_alloc _)).more (by simp)⟩ <;> (rw [World.cell?_alloc_at _ _ _ _ rfl]; rfl)
theorem Bx1T.few {w w' : World} {s : Sh} {T : Task} (h : Bx1T w s T w') (i : InD w s T) (hT : DTab w) (hF : FewD T) : Bx1D w s T w' := ⟨h.bel, h.c, (i.isD hT hF).below h.bel⟩
end Go.Proofs.YtkmajhbfmdoamaaGreatDoor
