/- The walk of the law PartEnough over what its row hands over, in the seat YtngdbbligebcbaaDoor. No statement is proved here. -/
import Derived.Test.YtngdbbligebcbaaDoorZPartEnoughWalk
import Derived.Test.YtngdbbligebcbaaDoorZM11
set_option linter.unusedSimpArgs false
set_option linter.unusedVariables false
namespace Go.Proofs.YtngdbbligebcbaaDoor
open Go Go.RowKit
theorem walk_PartEnough {A : Option Addr} {n c : Nat} {es : List Shp} (w : World) (g : InShps w A n c es) (m : Int) (hm : -9223372036854775808 ≤ m ∧ m ≤ 9223372036854775807) (hT : DTab w) :
    Calls Tryd.prog 4 #[.slice A n c, .int .i64 m] w fun e w' => e = .returned (.bool true) ∧ Below w.heap.size w w' := law_PartEnough m w hT g.hn g.shps g.hA hm
end Go.Proofs.YtngdbbligebcbaaDoor
