/-
  DERIVED. GIVEN WITH THE SEED: THE CARDS: each row of YtfahabphncmbfaaGreatDoorRows.lean that lists a variable, with what it lists TIED to the program's text (the seventh form; the later family's looks); each row that meets fmt, with fmt's text TOLD by the authors' own Lean function (tested against real Go, not proved from fmt's source: count such statements apart). THE CARD IS WHAT COUNTS. Prove the row's statement (the work); the ties are given (YtfahabphncmbfaaGreatDoorTie.lean); close each card by the builder's one call (the guide's Derived/Test/ToyasCard.lean, 'card_holds'). Laid BY PROGRAM, IN A SANDBOX (cutbox-door.mjs). By AI agents, Wed Nov 11 2026. No macro, syntax, notation, axiom, sorry.
-/
import Derived.Test.YtfahabphncmbfaaGreatDoorRows
import GoSem.ClaimSeven
namespace Go.Proofs.YtfahabphncmbfaaGreatDoor
namespace Rows

/-- THE TIED CARD OF 'trefoillaw13.StealRuns'. -/
def stealRunsCard : Claim7 := { stood := { row := stealRunsRow, standIns := [], harness := (true, "544028cf2004446b5eb7a5a7a0d1ac59853766d6dfbced891d78ae5ceb4a7d45"), looks := false }, kinds := [], alts := [], laidByText := true, laidKinds := [.data, .data], laidTests := true, laidLooks := .later }
def StealRunsCardSaid : Prop := Claim7.holds Tryz.pinned (.plain (OpenSpec.ofChange stealRunsSpec)) stealRunsCard

/-- THE TIED CARD OF 'trefoillaw13.StealCalm'. -/
def stealCalmCard : Claim7 := { stood := { row := stealCalmRow, standIns := [], harness := (true, "544028cf2004446b5eb7a5a7a0d1ac59853766d6dfbced891d78ae5ceb4a7d45"), looks := false }, kinds := [], alts := [], laidByText := true, laidKinds := [.data, .data], laidTests := true, laidLooks := .later }
def StealCalmCardSaid : Prop := Claim7.holds Tryz.pinned (.plain (OpenSpec.ofChange stealCalmSpec)) stealCalmCard

/-- THE TIED CARD OF 'trefoillaw13.StealOnce'. -/
def stealOnceCard : Claim7 := { stood := { row := stealOnceRow, standIns := [], harness := (true, "544028cf2004446b5eb7a5a7a0d1ac59853766d6dfbced891d78ae5ceb4a7d45"), looks := false }, kinds := [], alts := [], laidByText := true, laidKinds := [.data, .data], laidTests := true, laidLooks := .later }
def StealOnceCardSaid : Prop := Claim7.holds Tryz.pinned (.plain (OpenSpec.ofChange stealOnceSpec)) stealOnceCard

/-- THE TIED CARD OF 'trefoillaw14.ClassShapes'. -/
def classShapesCard : Claim7 := { stood := { row := classShapesRow, standIns := [], harness := (true, "544028cf2004446b5eb7a5a7a0d1ac59853766d6dfbced891d78ae5ceb4a7d45"), looks := false }, kinds := [], alts := [], laidByText := true, laidKinds := [.data, .data], laidTests := true, laidLooks := .later }
def ClassShapesCardSaid : Prop := Claim7.holds Tryz.pinned (.plain (OpenSpec.ofChange classShapesSpec)) classShapesCard

/-- THE TIED CARD OF 'trefoillaw14.ClassMeets'. -/
def classMeetsCard : Claim7 := { stood := { row := classMeetsRow, standIns := [], harness := (true, "544028cf2004446b5eb7a5a7a0d1ac59853766d6dfbced891d78ae5ceb4a7d45"), looks := false }, kinds := [], alts := [], laidByText := true, laidKinds := [.data, .data], laidTests := true, laidLooks := .later }
def ClassMeetsCardSaid : Prop := Claim7.holds Tryz.pinned (.plain (OpenSpec.ofChange classMeetsSpec)) classMeetsCard

/-- THE SECOND FORM's CARD OF 'trefoillaw13.StealRuns'. -/
def stealRunsUptoCard : Claim7 := { stood := { row := stealRunsUptoRow, standIns := [], harness := (true, "544028cf2004446b5eb7a5a7a0d1ac59853766d6dfbced891d78ae5ceb4a7d45"), looks := false }, kinds := [], alts := [], laidByText := true, laidKinds := [.data, .data], laidTests := true, laidLooks := .later }
def StealRunsUptoCardSaid : Prop := Claim7.holds Tryz.pinned (.plain (OpenSpec.upto stealRunsSpec)) stealRunsUptoCard

/-- THE SECOND FORM's CARD OF 'trefoillaw13.StealCalm'. -/
def stealCalmUptoCard : Claim7 := { stood := { row := stealCalmUptoRow, standIns := [], harness := (true, "544028cf2004446b5eb7a5a7a0d1ac59853766d6dfbced891d78ae5ceb4a7d45"), looks := false }, kinds := [], alts := [], laidByText := true, laidKinds := [.data, .data], laidTests := true, laidLooks := .later }
def StealCalmUptoCardSaid : Prop := Claim7.holds Tryz.pinned (.plain (OpenSpec.upto stealCalmSpec)) stealCalmUptoCard

/-- THE SECOND FORM's CARD OF 'trefoillaw13.StealOnce'. -/
def stealOnceUptoCard : Claim7 := { stood := { row := stealOnceUptoRow, standIns := [], harness := (true, "544028cf2004446b5eb7a5a7a0d1ac59853766d6dfbced891d78ae5ceb4a7d45"), looks := false }, kinds := [], alts := [], laidByText := true, laidKinds := [.data, .data], laidTests := true, laidLooks := .later }
def StealOnceUptoCardSaid : Prop := Claim7.holds Tryz.pinned (.plain (OpenSpec.upto stealOnceSpec)) stealOnceUptoCard

/-- THE SECOND FORM's CARD OF 'trefoillaw14.ClassShapes'. -/
def classShapesUptoCard : Claim7 := { stood := { row := classShapesUptoRow, standIns := [], harness := (true, "544028cf2004446b5eb7a5a7a0d1ac59853766d6dfbced891d78ae5ceb4a7d45"), looks := false }, kinds := [], alts := [], laidByText := true, laidKinds := [.data, .data], laidTests := true, laidLooks := .later }
def ClassShapesUptoCardSaid : Prop := Claim7.holds Tryz.pinned (.plain (OpenSpec.upto classShapesSpec)) classShapesUptoCard

/-- THE SECOND FORM's CARD OF 'trefoillaw14.ClassMeets'. -/
def classMeetsUptoCard : Claim7 := { stood := { row := classMeetsUptoRow, standIns := [], harness := (true, "544028cf2004446b5eb7a5a7a0d1ac59853766d6dfbced891d78ae5ceb4a7d45"), looks := false }, kinds := [], alts := [], laidByText := true, laidKinds := [.data, .data], laidTests := true, laidLooks := .later }
def ClassMeetsUptoCardSaid : Prop := Claim7.holds Tryz.pinned (.plain (OpenSpec.upto classMeetsSpec)) classMeetsUptoCard
end Rows
end Go.Proofs.YtfahabphncmbfaaGreatDoor
