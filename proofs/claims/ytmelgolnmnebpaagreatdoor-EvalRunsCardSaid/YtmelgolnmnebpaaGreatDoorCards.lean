/-
  DERIVED. GIVEN WITH THE SEED: THE CARDS: each row of YtmelgolnmnebpaaGreatDoorRows.lean that lists a variable, with what it lists TIED to the program's text (the seventh form; the later family's looks); each row that meets fmt, with fmt's text TOLD by the authors' own Lean function (tested against real Go, not proved from fmt's source: count such statements apart). THE CARD IS WHAT COUNTS. Prove the row's statement (the work); the ties are given (YtmelgolnmnebpaaGreatDoorTie.lean); close each card by the builder's one call (the guide's Derived/Test/ToyasCard.lean, 'card_holds'). Laid BY PROGRAM, IN A SANDBOX (cutbox-door.mjs). By AI agents, Wed Nov 11 2026. No macro, syntax, notation, axiom, sorry.
-/
import Derived.Test.YtmelgolnmnebpaaGreatDoorRows
import GoSem.ClaimSeven
namespace Go.Proofs.YtmelgolnmnebpaaGreatDoor
namespace Rows

/-- THE TIED CARD OF 'trefoillaw07.LowTells'. -/
def lowTellsCard : Claim7 := { stood := { row := lowTellsRow, standIns := [], harness := (true, "bf86b36cd57f2890a1c52df6ce8390707fd13bbd5fdfeade7715d4aa70824ee2"), looks := false }, kinds := [], alts := [], laidByText := true, laidKinds := [.data, .data], laidTests := true, laidLooks := .later }
def LowTellsCardSaid : Prop := Claim7.holds Tryz.pinned (.plain (OpenSpec.ofChange lowTellsSpec)) lowTellsCard

/-- THE TIED CARD OF 'trefoillaw08.EvalSteps'. -/
def evalStepsCard : Claim7 := { stood := { row := evalStepsRow, standIns := [], harness := (true, "bf86b36cd57f2890a1c52df6ce8390707fd13bbd5fdfeade7715d4aa70824ee2"), looks := false }, kinds := [], alts := [], laidByText := true, laidKinds := [.data, .data], laidTests := true, laidLooks := .later }
def EvalStepsCardSaid : Prop := Claim7.holds Tryz.pinned (.plain (OpenSpec.ofChange evalStepsSpec)) evalStepsCard

/-- THE TIED CARD OF 'trefoillaw08.EvalRuns'. -/
def evalRunsCard : Claim7 := { stood := { row := evalRunsRow, standIns := [], harness := (true, "bf86b36cd57f2890a1c52df6ce8390707fd13bbd5fdfeade7715d4aa70824ee2"), looks := false }, kinds := [], alts := [], laidByText := true, laidKinds := [.data, .data], laidTests := true, laidLooks := .later }
def EvalRunsCardSaid : Prop := Claim7.holds Tryz.pinned (.plain (OpenSpec.ofChange evalRunsSpec)) evalRunsCard

/-- THE TIED CARD OF 'trefoillaw08.EvalOrder'. -/
def evalOrderCard : Claim7 := { stood := { row := evalOrderRow, standIns := [], harness := (true, "bf86b36cd57f2890a1c52df6ce8390707fd13bbd5fdfeade7715d4aa70824ee2"), looks := false }, kinds := [], alts := [], laidByText := true, laidKinds := [.data, .data], laidTests := true, laidLooks := .later }
def EvalOrderCardSaid : Prop := Claim7.holds Tryz.pinned (.plain (OpenSpec.ofChange evalOrderSpec)) evalOrderCard

/-- THE TIED CARD OF 'trefoillaw08.EvalReady'. -/
def evalReadyCard : Claim7 := { stood := { row := evalReadyRow, standIns := [], harness := (true, "bf86b36cd57f2890a1c52df6ce8390707fd13bbd5fdfeade7715d4aa70824ee2"), looks := false }, kinds := [], alts := [], laidByText := true, laidKinds := [.data, .data], laidTests := true, laidLooks := .later }
def EvalReadyCardSaid : Prop := Claim7.holds Tryz.pinned (.plain (OpenSpec.ofChange evalReadySpec)) evalReadyCard

/-- THE TIED CARD OF 'trefoillaw08.EvalReach'. -/
def evalReachCard : Claim7 := { stood := { row := evalReachRow, standIns := [], harness := (true, "bf86b36cd57f2890a1c52df6ce8390707fd13bbd5fdfeade7715d4aa70824ee2"), looks := false }, kinds := [], alts := [], laidByText := true, laidKinds := [.data, .data], laidTests := true, laidLooks := .later }
def EvalReachCardSaid : Prop := Claim7.holds Tryz.pinned (.plain (OpenSpec.ofChange evalReachSpec)) evalReachCard

/-- THE SECOND FORM's CARD OF 'trefoillaw07.LowTells'. -/
def lowTellsUptoCard : Claim7 := { stood := { row := lowTellsUptoRow, standIns := [], harness := (true, "bf86b36cd57f2890a1c52df6ce8390707fd13bbd5fdfeade7715d4aa70824ee2"), looks := false }, kinds := [], alts := [], laidByText := true, laidKinds := [.data, .data], laidTests := true, laidLooks := .later }
def LowTellsUptoCardSaid : Prop := Claim7.holds Tryz.pinned (.plain (OpenSpec.upto lowTellsSpec)) lowTellsUptoCard

/-- THE SECOND FORM's CARD OF 'trefoillaw08.EvalSteps'. -/
def evalStepsUptoCard : Claim7 := { stood := { row := evalStepsUptoRow, standIns := [], harness := (true, "bf86b36cd57f2890a1c52df6ce8390707fd13bbd5fdfeade7715d4aa70824ee2"), looks := false }, kinds := [], alts := [], laidByText := true, laidKinds := [.data, .data], laidTests := true, laidLooks := .later }
def EvalStepsUptoCardSaid : Prop := Claim7.holds Tryz.pinned (.plain (OpenSpec.upto evalStepsSpec)) evalStepsUptoCard

/-- THE SECOND FORM's CARD OF 'trefoillaw08.EvalRuns'. -/
def evalRunsUptoCard : Claim7 := { stood := { row := evalRunsUptoRow, standIns := [], harness := (true, "bf86b36cd57f2890a1c52df6ce8390707fd13bbd5fdfeade7715d4aa70824ee2"), looks := false }, kinds := [], alts := [], laidByText := true, laidKinds := [.data, .data], laidTests := true, laidLooks := .later }
def EvalRunsUptoCardSaid : Prop := Claim7.holds Tryz.pinned (.plain (OpenSpec.upto evalRunsSpec)) evalRunsUptoCard

/-- THE SECOND FORM's CARD OF 'trefoillaw08.EvalOrder'. -/
def evalOrderUptoCard : Claim7 := { stood := { row := evalOrderUptoRow, standIns := [], harness := (true, "bf86b36cd57f2890a1c52df6ce8390707fd13bbd5fdfeade7715d4aa70824ee2"), looks := false }, kinds := [], alts := [], laidByText := true, laidKinds := [.data, .data], laidTests := true, laidLooks := .later }
def EvalOrderUptoCardSaid : Prop := Claim7.holds Tryz.pinned (.plain (OpenSpec.upto evalOrderSpec)) evalOrderUptoCard

/-- THE SECOND FORM's CARD OF 'trefoillaw08.EvalReady'. -/
def evalReadyUptoCard : Claim7 := { stood := { row := evalReadyUptoRow, standIns := [], harness := (true, "bf86b36cd57f2890a1c52df6ce8390707fd13bbd5fdfeade7715d4aa70824ee2"), looks := false }, kinds := [], alts := [], laidByText := true, laidKinds := [.data, .data], laidTests := true, laidLooks := .later }
def EvalReadyUptoCardSaid : Prop := Claim7.holds Tryz.pinned (.plain (OpenSpec.upto evalReadySpec)) evalReadyUptoCard

/-- THE SECOND FORM's CARD OF 'trefoillaw08.EvalReach'. -/
def evalReachUptoCard : Claim7 := { stood := { row := evalReachUptoRow, standIns := [], harness := (true, "bf86b36cd57f2890a1c52df6ce8390707fd13bbd5fdfeade7715d4aa70824ee2"), looks := false }, kinds := [], alts := [], laidByText := true, laidKinds := [.data, .data], laidTests := true, laidLooks := .later }
def EvalReachUptoCardSaid : Prop := Claim7.holds Tryz.pinned (.plain (OpenSpec.upto evalReachSpec)) evalReachUptoCard
end Rows
end Go.Proofs.YtmelgolnmnebpaaGreatDoor
