/- The contract of trefoilref05.Check in the seat YtecjpclkiiaidaaDoor (printed by desc/mk_check.py). No statement is proved here. -/
import Derived.Test.YtecjpclkiiaidaaDoorZM2
set_option linter.unusedVariables false
namespace Go.Proofs.YtecjpclkiiaidaaDoor
open Go.RowKit

/-- A task as an argument. -/
@[reducible] def Sh.arg (s : Sh) (p q : Int) : Value := .agg #[.int .i64 p, .int .i64 q, .slice s.P s.np s.pc, .slice s.E s.ne s.ec, .slice s.F s.nf s.fc, .slice s.R s.nr s.rc]
def ManyT (T : Task) : Prop := T.parts.length < 1 ∨ 16 < T.parts.length ∨ 48 < T.edges.length ∨ 16 < T.futures.length ∨ 4 < T.bars.length
open Classical in
/-- What is said of a task. -/
noncomputable def chkT (T : Task) : Int :=
  if ManyT T then 50 else if timeE T.period T.deadline = false then 51 else if ¬ partsOk T.parts then 52 else if ¬ EdgesOk T.parts.length T.edges then 53 else if ¬ FutsOk T.parts T.futures then 54 else if ¬ BarsOk T.parts.length T.bars then 55 else 0
/-- It may be. -/
structure MayT (T : Task) : Prop where
  few : ¬ ManyT T
  time : timeE T.period T.deadline = true
  parts : partsOk T.parts
  edges : EdgesOk T.parts.length T.edges
  futures : FutsOk T.parts T.futures
  bars : BarsOk T.parts.length T.bars
theorem chkT_zero {T : Task} : chkT T = 0 ↔ MayT T := by
  unfold chkT
  constructor
  · intro h
    split at h
    · cases h
    · rename_i h0
      split at h
      · cases h
      · rename_i h1
        split at h
        · cases h
        · rename_i h2
          split at h
          · cases h
          · rename_i h3
            split at h
            · cases h
            · rename_i h4
              split at h
              · cases h
              · rename_i h5
                exact ⟨h0, by simpa using h1, Classical.not_not.mp h2, Classical.not_not.mp h3, Classical.not_not.mp h4, Classical.not_not.mp h5⟩
  · rintro ⟨h0, h1, h2, h3, h4, h5⟩
    rw [if_neg h0, if_neg (by rw [h1]; exact fun k => Bool.noConfusion k), if_neg (fun k => k h2), if_neg (fun k => k h3), if_neg (fun k => k h4), if_neg (fun k => k h5)]
/-- Sizes that the reference's functions are held to. -/
structure FewT (T : Task) : Prop where
  np : T.parts.length ≤ 400
  ne : T.edges.length ≤ 400
  nf : T.futures.length ≤ 400
  nr : T.bars.length ≤ 400
  bars : ∀ b ∈ T.bars, b.1.length ≤ 400 ∧ b.2.length ≤ 400
/-- A task lies in its box, and as it came. -/
structure BxT (w : World) (p q : Int) (P : Option Addr) (np pc : Nat) (E : Option Addr) (ne ec : Nat) (F : Option Addr) (nf fc : Nat) (R : Option Addr) (nr rc : Nat) (T : Task) (w' : World) : Prop where
  b : BxD w p q P np pc E ne ec F nf fc R nr rc w'
  t : IsT w' w'.heap.size ⟨P, np, pc, E, ne, ec, F, nf, fc, R, nr, rc⟩ T
section
variable {P : Option Addr} {np pc : Nat} {E : Option Addr} {ne ec : Nat} {F : Option Addr} {nf fc : Nat} {R : Option Addr} {nr rc : Nat} {p q : Int} {T : Task}
theorem BxT.next {w w1 w2 : World} (h : BxT w p q P np pc E ne ec F nf fc R nr rc T w1) (hb : Below w1.heap.size w1 w2) : BxT w p q P np pc E ne ec F nf fc R nr rc T w2 := ⟨h.b.next hb, (h.t.below hb).more hb.size⟩
theorem BxT.start {w : World} (h : IsT w w.heap.size ⟨P, np, pc, E, ne, ec, F, nf, fc, R, nr, rc⟩ T) (p q : Int) : BxT w p q P np pc E ne ec F nf fc R nr rc T (w.alloc (.cells #[.int .i64 p, .int .i64 q, .slice P np pc, .slice E ne ec, .slice F nf fc, .slice R nr rc] 42)) :=
  ⟨BxD.start w p q P np pc E ne ec F nf fc R nr rc, (h.below (below_alloc _)).more (by simp)⟩
end
end Go.Proofs.YtecjpclkiiaidaaDoor
