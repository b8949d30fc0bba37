/-
  DERIVED. GIVEN WITH THE SEED: THE CARDS: each row of YtkmajhbfmdoamaaGreatDoorRows.lean that lists a variable, with what it lists TIED to the program's text (the seventh form; the later family's looks); each row that meets fmt, with fmt's text TOLD by the authors' own Lean function (tested against real Go, not proved from fmt's source: count such statements apart). THE CARD IS WHAT COUNTS. Prove the row's statement (the work); the ties are given (YtkmajhbfmdoamaaGreatDoorTie.lean); close each card by the builder's one call (the guide's Derived/Test/ToyasCard.lean, 'card_holds'). Laid BY PROGRAM, IN A SANDBOX (cutbox-door.mjs). By AI agents, Wed Nov 11 2026. No macro, syntax, notation, axiom, sorry.
-/
import Derived.Test.YtkmajhbfmdoamaaGreatDoorRows
import GoSem.ClaimSeven
namespace Go.Proofs.YtkmajhbfmdoamaaGreatDoor
namespace Rows

/-- THE TIED CARD OF 'trefoillaw08.EvalSteps'. -/
def evalStepsCard : Claim7 := { stood := { row := evalStepsRow, standIns := [], harness := (true, "a312decd0deb005f73c7a940bf5e375cb0b2daec7c21e0cdde9ce29682602c94"), looks := false }, kinds := [], alts := [], laidByText := true, laidKinds := [.data, .data], laidTests := true, laidLooks := .later }
def EvalStepsCardSaid : Prop := Claim7.holds Tryz.pinned (.plain (OpenSpec.ofChange evalStepsSpec)) evalStepsCard

/-- THE SECOND FORM's CARD OF 'trefoillaw08.EvalSteps'. -/
def evalStepsUptoCard : Claim7 := { stood := { row := evalStepsUptoRow, standIns := [], harness := (true, "a312decd0deb005f73c7a940bf5e375cb0b2daec7c21e0cdde9ce29682602c94"), looks := false }, kinds := [], alts := [], laidByText := true, laidKinds := [.data, .data], laidTests := true, laidLooks := .later }
def EvalStepsUptoCardSaid : Prop := Claim7.holds Tryz.pinned (.plain (OpenSpec.upto evalStepsSpec)) evalStepsUptoCard
end Rows
end Go.Proofs.YtkmajhbfmdoamaaGreatDoor
