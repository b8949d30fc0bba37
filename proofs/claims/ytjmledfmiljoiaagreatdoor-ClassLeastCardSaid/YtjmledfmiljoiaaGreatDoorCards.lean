/-
  DERIVED. GIVEN WITH THE SEED: THE CARDS: each row of YtjmledfmiljoiaaGreatDoorRows.lean that lists a variable, with what it lists TIED to the program's text (the seventh form; the later family's looks); each row that meets fmt, with fmt's text TOLD by the authors' own Lean function (tested against real Go, not proved from fmt's source: count such statements apart). THE CARD IS WHAT COUNTS. Prove the row's statement (the work); the ties are given (YtjmledfmiljoiaaGreatDoorTie.lean); close each card by the builder's one call (the guide's Derived/Test/ToyasCard.lean, 'card_holds'). Laid BY PROGRAM, IN A SANDBOX (cutbox-door.mjs). By AI agents, Wed Nov 11 2026. No macro, syntax, notation, axiom, sorry.
-/
import Derived.Test.YtjmledfmiljoiaaGreatDoorRows
import GoSem.ClaimSeven
namespace Go.Proofs.YtjmledfmiljoiaaGreatDoor
namespace Rows

/-- THE TIED CARD OF 'trefoillaw14.ClassTells'. -/
def classTellsCard : Claim7 := { stood := { row := classTellsRow, standIns := [], harness := (true, "44f2efed3458e13d79e2e55845e4ba75bb36918e4caf1038ad565a54b713d432"), looks := false }, kinds := [], alts := [], laidByText := true, laidKinds := [.data, .data], laidTests := true, laidLooks := .later }
def ClassTellsCardSaid : Prop := Claim7.holds Tryz.pinned (.plain (OpenSpec.ofChange classTellsSpec)) classTellsCard

/-- THE TIED CARD OF 'trefoillaw14.ClassShapes'. -/
def classShapesCard : Claim7 := { stood := { row := classShapesRow, standIns := [], harness := (true, "44f2efed3458e13d79e2e55845e4ba75bb36918e4caf1038ad565a54b713d432"), looks := false }, kinds := [], alts := [], laidByText := true, laidKinds := [.data, .data], laidTests := true, laidLooks := .later }
def ClassShapesCardSaid : Prop := Claim7.holds Tryz.pinned (.plain (OpenSpec.ofChange classShapesSpec)) classShapesCard

/-- THE TIED CARD OF 'trefoillaw14.ClassLeast'. -/
def classLeastCard : Claim7 := { stood := { row := classLeastRow, standIns := [], harness := (true, "44f2efed3458e13d79e2e55845e4ba75bb36918e4caf1038ad565a54b713d432"), looks := false }, kinds := [], alts := [], laidByText := true, laidKinds := [.data, .data], laidTests := true, laidLooks := .later }
def ClassLeastCardSaid : Prop := Claim7.holds Tryz.pinned (.plain (OpenSpec.ofChange classLeastSpec)) classLeastCard

/-- THE TIED CARD OF 'trefoillaw14.ClassMore'. -/
def classMoreCard : Claim7 := { stood := { row := classMoreRow, standIns := [], harness := (true, "44f2efed3458e13d79e2e55845e4ba75bb36918e4caf1038ad565a54b713d432"), looks := false }, kinds := [], alts := [], laidByText := true, laidKinds := [.data, .data], laidTests := true, laidLooks := .later }
def ClassMoreCardSaid : Prop := Claim7.holds Tryz.pinned (.plain (OpenSpec.ofChange classMoreSpec)) classMoreCard

/-- THE SECOND FORM's CARD OF 'trefoillaw14.ClassTells'. -/
def classTellsUptoCard : Claim7 := { stood := { row := classTellsUptoRow, standIns := [], harness := (true, "44f2efed3458e13d79e2e55845e4ba75bb36918e4caf1038ad565a54b713d432"), looks := false }, kinds := [], alts := [], laidByText := true, laidKinds := [.data, .data], laidTests := true, laidLooks := .later }
def ClassTellsUptoCardSaid : Prop := Claim7.holds Tryz.pinned (.plain (OpenSpec.upto classTellsSpec)) classTellsUptoCard

/-- THE SECOND FORM's CARD OF 'trefoillaw14.ClassShapes'. -/
def classShapesUptoCard : Claim7 := { stood := { row := classShapesUptoRow, standIns := [], harness := (true, "44f2efed3458e13d79e2e55845e4ba75bb36918e4caf1038ad565a54b713d432"), looks := false }, kinds := [], alts := [], laidByText := true, laidKinds := [.data, .data], laidTests := true, laidLooks := .later }
def ClassShapesUptoCardSaid : Prop := Claim7.holds Tryz.pinned (.plain (OpenSpec.upto classShapesSpec)) classShapesUptoCard

/-- THE SECOND FORM's CARD OF 'trefoillaw14.ClassLeast'. -/
def classLeastUptoCard : Claim7 := { stood := { row := classLeastUptoRow, standIns := [], harness := (true, "44f2efed3458e13d79e2e55845e4ba75bb36918e4caf1038ad565a54b713d432"), looks := false }, kinds := [], alts := [], laidByText := true, laidKinds := [.data, .data], laidTests := true, laidLooks := .later }
def ClassLeastUptoCardSaid : Prop := Claim7.holds Tryz.pinned (.plain (OpenSpec.upto classLeastSpec)) classLeastUptoCard

/-- THE SECOND FORM's CARD OF 'trefoillaw14.ClassMore'. -/
def classMoreUptoCard : Claim7 := { stood := { row := classMoreUptoRow, standIns := [], harness := (true, "44f2efed3458e13d79e2e55845e4ba75bb36918e4caf1038ad565a54b713d432"), looks := false }, kinds := [], alts := [], laidByText := true, laidKinds := [.data, .data], laidTests := true, laidLooks := .later }
def ClassMoreUptoCardSaid : Prop := Claim7.holds Tryz.pinned (.plain (OpenSpec.upto classMoreSpec)) classMoreUptoCard
end Rows
end Go.Proofs.YtjmledfmiljoiaaGreatDoor
