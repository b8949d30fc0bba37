import Derived.Test.YtlfekmbalgkmeaaGreatDoorYM37
set_option linter.unusedSimpArgs false
set_option linter.unnecessarySimpa false
set_option linter.unusedVariables false
namespace Go.Proofs.YtlfekmbalgkmeaaGreatDoor
open Go Go.RowKit
end Go.Proofs.YtlfekmbalgkmeaaGreatDoor
