/- What every row of the layer dag in the seat YtmgfbpnphdkgiaaDoor lists of package-level variables (math/bits' table of 64), and a world that holds it. No statement is proved here. -/
import Derived.Test.YtmgfbpnphdkgiaaDoorCards
import Derived.Test.YtmgfbpnphdkgiaaDoorTie
import Derived.Test.YtmgfbpnphdkgiaaDoorTz64
import Derived.Test.YtmgfbpnphdkgiaaDoorPlain
import Derived.ProofKit
import Derived.OpenShut
import Derived.ShutString
import Derived.ChangeOld
import Derived.ChangeMaps5
import Derived.Deep.DeepHandedRow
import Derived.Lib.LaidTab
import Derived.Stop.LaidErr
namespace Go.Proofs.YtmgfbpnphdkgiaaDoor
open Go.ChangeShapes Go.WideShapes Go.ChangeAt Go.RowKit

theorem gTab64 : Tryd.prog.globalNamed "math/bits.deBruijn64tab" = some 0 := by kernel_rfl
theorem gTab64Type : (Tryd.prog.globals[0]?).map (·.type) = some 65 := by kernel_rfl
theorem cells64 : Tryd.prog.cellsOf 65 = 64 := by kernel_rfl
theorem cells8 : Tryd.prog.cellsOf 5 = 1 := by kernel_rfl

/-- What the rows' list gives: the table's cells hold its numbers. -/
theorem tabs_of {W : World} (h : laidMetH Tryd.prog [("math/bits.deBruijn64tab", Rows.laid_math_bits_deBruijn64tab)] W) : Tab64 W := by
  have h2 : laidMet Tryd.prog [("math/bits.deBruijn64tab", Rows.laid_math_bits_deBruijn64tab)] W := h
  have h3 : Lib.TabIs Tryd.prog W "math/bits.deBruijn64tab" .u8 (Lib.deBruijn64tab.map Int.ofNat) :=
    Lib.tabIs_of_head (rest := []) gTab64 gTab64Type Tryd.underlying65 Tryd.underlying5 cells8 cells64 h2
  intro j hj
  rw [h3.cell gTab64 j (by simpa using hj)]
  congr 2
  rw [List.getD_eq_getElem?_getD, List.getElem?_map, List.getElem?_eq_getElem hj, List.getD_eq_getElem?_getD, List.getElem?_eq_getElem hj]
  rfl

def setTab (l : List Nat) : Obj → Obj
  | .cells _ t frozen => .cells (l.map fun n => Value.int .u8 (Int.ofNat n)).toArray t frozen
  | o => o
/-- A world for the witness: the settled one, the table holding what its initialiser lays. -/
noncomputable def laidWorld (os : Os) : World :=
  { World.holding Tryd.prog os ⟨#[], #[], []⟩ with heap := (World.holding Tryd.prog os ⟨#[], #[], []⟩).heap.modify 0 (setTab Lib.deBruijn64tab) }
end Go.Proofs.YtmgfbpnphdkgiaaDoor
