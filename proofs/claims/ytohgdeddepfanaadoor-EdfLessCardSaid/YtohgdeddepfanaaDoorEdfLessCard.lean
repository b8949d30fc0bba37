/- The walk of the law EdfLess over what its row hands over, in the seat YtohgdeddepfanaaDoor. No statement is proved here. -/
import Derived.Test.YtohgdeddepfanaaDoorEdfLessWalk
import Derived.Test.YtohgdeddepfanaaDoorEdfOpen
set_option linter.unusedVariables false
namespace Go.Proofs.YtohgdeddepfanaaDoor
open Go Go.RowKit
theorem walk_EdfLess {A : Option Addr} {n c : Nat} {es : List Shp} (w : World) (g : InShps w A n c es) (t : Int) (ht : -9223372036854775808 ≤ t ∧ t ≤ 9223372036854775807) (hT : DTab w) :
    Calls Tryd.prog 6 #[.slice A n c, .int .i64 t] w fun e w' => e = .returned (.bool true) ∧ Below w.heap.size w w' := law_EdfLess t w hT g.hn g.shps g.hA g.hc
end Go.Proofs.YtohgdeddepfanaaDoor
