import Derived.Test.YtfahabphncmbfaaGreatDoorZQ43
set_option linter.all false
namespace Go.Proofs.YtfahabphncmbfaaGreatDoor
open Go Go.RowKit
section
variable {AW FE: Option Addr}{nW cW mE dE: Nat}{W: List Int}{E: List (Int × Int)}{N: Option Addr}{nn nc: Nat}{need: List Int}
end
section
variable {base m: Nat}{g: Gng}{L: List Int}{ad: GAd}
end
section
variable {base m: Nat}{g: Gng}{L: List Int}{ad: GAd}
end
section
variable {base m: Nat}{g: Gng}{L: List Int}{ad: GAd}
end
end Go.Proofs.YtfahabphncmbfaaGreatDoor
