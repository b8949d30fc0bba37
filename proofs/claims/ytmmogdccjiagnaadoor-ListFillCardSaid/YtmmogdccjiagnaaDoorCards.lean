/-
  DERIVED. GIVEN WITH THE SEED: THE CARDS: each row of YtmmogdccjiagnaaDoorRows.lean that lists a variable, with what it lists TIED to the program's text (the seventh form; the later family's looks); each row that meets fmt, with fmt's text TOLD by the authors' own Lean function (tested against real Go, not proved from fmt's source: count such statements apart). THE CARD IS WHAT COUNTS. Prove the row's statement (the work); the ties are given (YtmmogdccjiagnaaDoorTie.lean); close each card by the builder's one call (the guide's Derived/Test/ToyasCard.lean, 'card_holds'). Laid BY PROGRAM, IN A SANDBOX (cutbox-door.mjs). By AI agents, Wed Nov 11 2026. No macro, syntax, notation, axiom, sorry.
-/
import Derived.Test.YtmmogdccjiagnaaDoorRows
import GoSem.ClaimSeven
namespace Go.Proofs.YtmmogdccjiagnaaDoor
namespace Rows

/-- THE TIED CARD OF 'trefoillaw11.ListSteps'. -/
def listStepsCard : Claim7 := { stood := { row := listStepsRow, standIns := [], harness := (true, "9bd0c93c17c257c9c8c38735c80596d6de2874e47dc27d4f9ffb80c3bcd6e6cb"), looks := false }, kinds := [], alts := [], laidByText := true, laidKinds := [.data], laidTests := true, laidLooks := .later }
def ListStepsCardSaid : Prop := Claim7.holds Tryd.pinned (.plain (OpenSpec.ofChange listStepsSpec)) listStepsCard

/-- THE TIED CARD OF 'trefoillaw11.ListRuns'. -/
def listRunsCard : Claim7 := { stood := { row := listRunsRow, standIns := [], harness := (true, "9bd0c93c17c257c9c8c38735c80596d6de2874e47dc27d4f9ffb80c3bcd6e6cb"), looks := false }, kinds := [], alts := [], laidByText := true, laidKinds := [.data], laidTests := true, laidLooks := .later }
def ListRunsCardSaid : Prop := Claim7.holds Tryd.pinned (.plain (OpenSpec.ofChange listRunsSpec)) listRunsCard

/-- THE TIED CARD OF 'trefoillaw11.ListSched'. -/
def listSchedCard : Claim7 := { stood := { row := listSchedRow, standIns := [], harness := (true, "9bd0c93c17c257c9c8c38735c80596d6de2874e47dc27d4f9ffb80c3bcd6e6cb"), looks := false }, kinds := [], alts := [], laidByText := true, laidKinds := [.data], laidTests := true, laidLooks := .later }
def ListSchedCardSaid : Prop := Claim7.holds Tryd.pinned (.plain (OpenSpec.ofChange listSchedSpec)) listSchedCard

/-- THE TIED CARD OF 'trefoillaw11.ListFill'. -/
def listFillCard : Claim7 := { stood := { row := listFillRow, standIns := [], harness := (true, "9bd0c93c17c257c9c8c38735c80596d6de2874e47dc27d4f9ffb80c3bcd6e6cb"), looks := false }, kinds := [], alts := [], laidByText := true, laidKinds := [.data], laidTests := true, laidLooks := .later }
def ListFillCardSaid : Prop := Claim7.holds Tryd.pinned (.plain (OpenSpec.ofChange listFillSpec)) listFillCard

/-- THE TIED CARD OF 'trefoillaw11.ListTick'. -/
def listTickCard : Claim7 := { stood := { row := listTickRow, standIns := [], harness := (true, "9bd0c93c17c257c9c8c38735c80596d6de2874e47dc27d4f9ffb80c3bcd6e6cb"), looks := false }, kinds := [], alts := [], laidByText := true, laidKinds := [.data], laidTests := true, laidLooks := .later }
def ListTickCardSaid : Prop := Claim7.holds Tryd.pinned (.plain (OpenSpec.ofChange listTickSpec)) listTickCard

/-- THE TIED CARD OF 'trefoillaw11.ListOne'. -/
def listOneCard : Claim7 := { stood := { row := listOneRow, standIns := [], harness := (true, "9bd0c93c17c257c9c8c38735c80596d6de2874e47dc27d4f9ffb80c3bcd6e6cb"), looks := false }, kinds := [], alts := [], laidByText := true, laidKinds := [.data], laidTests := true, laidLooks := .later }
def ListOneCardSaid : Prop := Claim7.holds Tryd.pinned (.plain (OpenSpec.ofChange listOneSpec)) listOneCard

/-- THE SECOND FORM's CARD OF 'trefoillaw11.ListSteps'. -/
def listStepsUptoCard : Claim7 := { stood := { row := listStepsUptoRow, standIns := [], harness := (true, "9bd0c93c17c257c9c8c38735c80596d6de2874e47dc27d4f9ffb80c3bcd6e6cb"), looks := false }, kinds := [], alts := [], laidByText := true, laidKinds := [.data], laidTests := true, laidLooks := .later }
def ListStepsUptoCardSaid : Prop := Claim7.holds Tryd.pinned (.plain (OpenSpec.upto listStepsSpec)) listStepsUptoCard

/-- THE SECOND FORM's CARD OF 'trefoillaw11.ListRuns'. -/
def listRunsUptoCard : Claim7 := { stood := { row := listRunsUptoRow, standIns := [], harness := (true, "9bd0c93c17c257c9c8c38735c80596d6de2874e47dc27d4f9ffb80c3bcd6e6cb"), looks := false }, kinds := [], alts := [], laidByText := true, laidKinds := [.data], laidTests := true, laidLooks := .later }
def ListRunsUptoCardSaid : Prop := Claim7.holds Tryd.pinned (.plain (OpenSpec.upto listRunsSpec)) listRunsUptoCard

/-- THE SECOND FORM's CARD OF 'trefoillaw11.ListSched'. -/
def listSchedUptoCard : Claim7 := { stood := { row := listSchedUptoRow, standIns := [], harness := (true, "9bd0c93c17c257c9c8c38735c80596d6de2874e47dc27d4f9ffb80c3bcd6e6cb"), looks := false }, kinds := [], alts := [], laidByText := true, laidKinds := [.data], laidTests := true, laidLooks := .later }
def ListSchedUptoCardSaid : Prop := Claim7.holds Tryd.pinned (.plain (OpenSpec.upto listSchedSpec)) listSchedUptoCard

/-- THE SECOND FORM's CARD OF 'trefoillaw11.ListFill'. -/
def listFillUptoCard : Claim7 := { stood := { row := listFillUptoRow, standIns := [], harness := (true, "9bd0c93c17c257c9c8c38735c80596d6de2874e47dc27d4f9ffb80c3bcd6e6cb"), looks := false }, kinds := [], alts := [], laidByText := true, laidKinds := [.data], laidTests := true, laidLooks := .later }
def ListFillUptoCardSaid : Prop := Claim7.holds Tryd.pinned (.plain (OpenSpec.upto listFillSpec)) listFillUptoCard

/-- THE SECOND FORM's CARD OF 'trefoillaw11.ListTick'. -/
def listTickUptoCard : Claim7 := { stood := { row := listTickUptoRow, standIns := [], harness := (true, "9bd0c93c17c257c9c8c38735c80596d6de2874e47dc27d4f9ffb80c3bcd6e6cb"), looks := false }, kinds := [], alts := [], laidByText := true, laidKinds := [.data], laidTests := true, laidLooks := .later }
def ListTickUptoCardSaid : Prop := Claim7.holds Tryd.pinned (.plain (OpenSpec.upto listTickSpec)) listTickUptoCard

/-- THE SECOND FORM's CARD OF 'trefoillaw11.ListOne'. -/
def listOneUptoCard : Claim7 := { stood := { row := listOneUptoRow, standIns := [], harness := (true, "9bd0c93c17c257c9c8c38735c80596d6de2874e47dc27d4f9ffb80c3bcd6e6cb"), looks := false }, kinds := [], alts := [], laidByText := true, laidKinds := [.data], laidTests := true, laidLooks := .later }
def ListOneUptoCardSaid : Prop := Claim7.holds Tryd.pinned (.plain (OpenSpec.upto listOneSpec)) listOneUptoCard
end Rows
end Go.Proofs.YtmmogdccjiagnaaDoor
