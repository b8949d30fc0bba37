/- The walk of the law PartMore over what its row hands over, in the seat YtngdbbligebcbaaDoor. No statement is proved here. -/
import Derived.Test.YtngdbbligebcbaaDoorZPartMoreWalk
import Derived.Test.YtngdbbligebcbaaDoorZM11
set_option linter.unusedSimpArgs false
set_option linter.unusedVariables false
namespace Go.Proofs.YtngdbbligebcbaaDoor
open Go Go.RowKit
theorem walk_PartMore {A : Option Addr} {n c : Nat} {es : List Shp} (w : World) (g : InShps w A n c es) (m : Int) (hm : -9223372036854775808 ≤ m ∧ m ≤ 9223372036854775807) (hT : DTab w) :
    Calls Tryd.prog 5 #[.slice A n c, .int .i64 m] w fun e w' => e = .returned (.bool true) ∧ Below w.heap.size w w' := law_PartMore m w hT g.hn g.shps g.hA hm
end Go.Proofs.YtngdbbligebcbaaDoor
