/- The walk of the law EdfFits over what its row hands over, in the seat YtohgdeddepfanaaDoor. No statement is proved here. -/
import Derived.Test.YtohgdeddepfanaaDoorEdfFitsWalk
import Derived.Test.YtohgdeddepfanaaDoorEdfOpen
namespace Go.Proofs.YtohgdeddepfanaaDoor
open Go Go.RowKit
theorem walk_EdfFits {A : Option Addr} {n c : Nat} {es : List Shp} (w : World) (g : InShps w A n c es) (hT : DTab w) :
    Calls Tryd.prog 4 #[.slice A n c] w fun e w' => e = .returned (.bool true) ∧ Below w.heap.size w w' := law_EdfFits w hT g.hn g.shps g.hA
end Go.Proofs.YtohgdeddepfanaaDoor
