/- The walk of the law EdfAlways over what its row hands over, in the seat YtohgdeddepfanaaDoor. No statement is proved here. -/
import Derived.Test.YtohgdeddepfanaaDoorEdfAlwaysWalk
import Derived.Test.YtohgdeddepfanaaDoorEdfOpen
set_option linter.unusedVariables false
namespace Go.Proofs.YtohgdeddepfanaaDoor
open Go Go.RowKit
theorem walk_EdfAlways {A : Option Addr} {n c : Nat} {es : List Shp} (w : World) (g : InShps w A n c es) (t : Int) (ht : -9223372036854775808 ≤ t ∧ t ≤ 9223372036854775807) (hT : DTab w) :
    Calls Tryd.prog 5 #[.slice A n c, .int .i64 t] w fun e w' => e = .returned (.bool true) ∧ Below w.heap.size w w' := law_EdfAlways t w hT g.hn g.shps g.hA
end Go.Proofs.YtohgdeddepfanaaDoor
