import Derived.Test.YtlfekmbalgkmeaaGreatDoorYAdmLessWalk
import Derived.Test.YtlfekmbalgkmeaaGreatDoorYM37
set_option linter.unusedSimpArgs false
set_option linter.unnecessarySimpa false
set_option linter.unusedVariables false
namespace Go.Proofs.YtlfekmbalgkmeaaGreatDoor
open Go Go.RowKit
theorem walk_AdmitLess {A: Option Addr} {n c: Nat} {l: List (Sh × Task)} (w: World) (g: InTl w A n c l) (m: Int) (hm: -9223372036854775808 <= m /\ m <= 9223372036854775807) (hT: DTab w) :
  Calls Tryz.prog 8 #[.slice A n c,.int .i64 m] w fun e w' => e = .returned (.bool true) /\ Below w.heap.size w w':=law_AdmitLess m w hT g.hn g.ts g.hA g.hc hm
end Go.Proofs.YtlfekmbalgkmeaaGreatDoor
