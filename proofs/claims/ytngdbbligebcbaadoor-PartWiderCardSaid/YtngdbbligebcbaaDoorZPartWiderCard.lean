/- The walk of the law PartWider over what its row hands over, in the seat YtngdbbligebcbaaDoor. No statement is proved here. -/
import Derived.Test.YtngdbbligebcbaaDoorZPartWiderWalk
import Derived.Test.YtngdbbligebcbaaDoorZM11
set_option linter.unusedSimpArgs false
set_option linter.unusedVariables false
namespace Go.Proofs.YtngdbbligebcbaaDoor
open Go Go.RowKit
theorem walk_PartWider {A : Option Addr} {n c : Nat} {es : List Shp} (w : World) (g : InShps w A n c es) {P : Option Addr} {q d : Nat} {zs : List Int} (h : InNum w P q d zs) (m : Int) (hm : -9223372036854775808 ≤ m ∧ m ≤ 9223372036854775807) (k : Int) (hk : -9223372036854775808 ≤ k ∧ k ≤ 9223372036854775807) (hT : DTab w) :
    Calls Tryd.prog 8 #[.slice A n c, .slice P q d, .int .i64 m, .int .i64 k] w fun e w' => e = .returned (.bool true) ∧ Below w.heap.size w w' := law_PartWider m k w hT g.hn g.shps g.hA h.hn h.ints h.hA hm hk
end Go.Proofs.YtngdbbligebcbaaDoor
