/- The walk of the law PartOrder over what its row hands over, in the seat YtngdbbligebcbaaDoor. No statement is proved here. -/
import Derived.Test.YtngdbbligebcbaaDoorZPartOrderWalk
import Derived.Test.YtngdbbligebcbaaDoorZM11
set_option linter.unusedSimpArgs false
set_option linter.unusedVariables false
namespace Go.Proofs.YtngdbbligebcbaaDoor
open Go Go.RowKit
theorem walk_PartOrder {A : Option Addr} {n c : Nat} {es : List Shp} (w : World) (g : InShps w A n c es) (hT : DTab w) :
    Calls Tryd.prog 6 #[.slice A n c] w fun e w' => e = .returned (.bool true) ∧ Below w.heap.size w w' := law_PartOrder w hT g.hn g.shps g.hA
end Go.Proofs.YtngdbbligebcbaaDoor
