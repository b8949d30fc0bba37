/- What every row of the layer crc in the seat YtjngnejmgfncnaaDoor lists of package-level variables (crc.steps), and a world that holds it. No statement is proved here. -/
import Derived.Test.YtjngnejmgfncnaaDoorCards
import Derived.Test.YtjngnejmgfncnaaDoorTie
import Derived.Test.YtjngnejmgfncnaaDoorCrcStep
import Derived.ProofKit
import Derived.OpenShut
import Derived.ShutString
import Derived.ChangeOld
import Derived.ChangeMaps5
import Derived.Deep.DeepHandedRow
import Derived.Lib.LaidTab
import Derived.Stop.LaidErr
namespace Go.Proofs.YtjngnejmgfncnaaDoor
open Go.ChangeShapes Go.WideShapes Go.ChangeAt Go.RowKit

theorem own : ownKnob Tryd.prog.godebug = none := by kernel_rfl
theorem laidOut : laidOutB Tryd.prog = true := by kernel_rfl
theorem gSteps : Tryd.prog.globalNamed "trefoil/crc.steps" = some 0 := by kernel_rfl
theorem gStepsType : (Tryd.prog.globals[0]?).map (·.type) = some 40 := by kernel_rfl
theorem cells16 : Tryd.prog.cellsOf 40 = 16 := by kernel_rfl
theorem cells32 : Tryd.prog.cellsOf 23 = 1 := by kernel_rfl

/-- What the rows' list gives: the table's cells hold its numbers. -/
theorem tabs_of {W : World} (h : laidMetH Tryd.prog [("trefoil/crc.steps", Rows.laid_trefoil_crc_steps)] W) : Tab W := by
  have h2 : laidMet Tryd.prog [("trefoil/crc.steps", Rows.laid_trefoil_crc_steps)] W := h
  have h3 : Lib.TabIs Tryd.prog W "trefoil/crc.steps" .u32 tabL :=
    Lib.tabIs_of_head (rest := []) gSteps gStepsType Tryd.underlying40 Tryd.underlying23 cells32 cells16 h2
  intro j hj
  exact h3.cell gSteps j hj

def setTab (l : List Int) : Obj → Obj
  | .cells _ t frozen => .cells (l.map fun n => Value.int .u32 n).toArray t frozen
  | o => o
/-- A world for the witness: the settled one, the table holding what its initialiser lays. -/
noncomputable def laidWorld (os : Os) : World :=
  { World.holding Tryd.prog os ⟨#[], #[], []⟩ with heap := (World.holding Tryd.prog os ⟨#[], #[], []⟩).heap.modify 0 (setTab tabL) }
end Go.Proofs.YtjngnejmgfncnaaDoor
