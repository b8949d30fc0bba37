/-
  DERIVED. GIVEN WITH THE SEED: THE CARDS: each row of YtmgfbpnphdkgiaaDoorRows.lean that lists a variable, with what it lists TIED to the program's text (the seventh form; the later family's looks); each row that meets fmt, with fmt's text TOLD by the authors' own Lean function (tested against real Go, not proved from fmt's source: count such statements apart). THE CARD IS WHAT COUNTS. Prove the row's statement (the work); the ties are given (YtmgfbpnphdkgiaaDoorTie.lean); close each card by the builder's one call (the guide's Derived/Test/ToyasCard.lean, 'card_holds'). Laid BY PROGRAM, IN A SANDBOX (cutbox-door.mjs). By AI agents, Wed Nov 11 2026. No macro, syntax, notation, axiom, sorry.
-/
import Derived.Test.YtmgfbpnphdkgiaaDoorRows
import GoSem.ClaimSeven
namespace Go.Proofs.YtmgfbpnphdkgiaaDoor
namespace Rows

/-- THE TIED CARD OF 'trefoillaw04.DagChecks'. -/
def dagChecksCard : Claim7 := { stood := { row := dagChecksRow, standIns := [], harness := (true, "ae75770bb7164a7dfe5927da6d965ec59c5bd69ecc44d944f2d22496da62417e"), looks := false }, kinds := [], alts := [], laidByText := true, laidKinds := [.data], laidTests := true, laidLooks := .later }
def DagChecksCardSaid : Prop := Claim7.holds Tryd.pinned (.plain (OpenSpec.ofChange dagChecksSpec)) dagChecksCard

/-- THE TIED CARD OF 'trefoillaw04.DagTells'. -/
def dagTellsCard : Claim7 := { stood := { row := dagTellsRow, standIns := [], harness := (true, "ae75770bb7164a7dfe5927da6d965ec59c5bd69ecc44d944f2d22496da62417e"), looks := false }, kinds := [], alts := [], laidByText := true, laidKinds := [.data], laidTests := true, laidLooks := .later }
def DagTellsCardSaid : Prop := Claim7.holds Tryd.pinned (.plain (OpenSpec.ofChange dagTellsSpec)) dagTellsCard

/-- THE TIED CARD OF 'trefoillaw04.DagOrder'. -/
def dagOrderCard : Claim7 := { stood := { row := dagOrderRow, standIns := [], harness := (true, "ae75770bb7164a7dfe5927da6d965ec59c5bd69ecc44d944f2d22496da62417e"), looks := false }, kinds := [], alts := [], laidByText := true, laidKinds := [.data], laidTests := true, laidLooks := .later }
def DagOrderCardSaid : Prop := Claim7.holds Tryd.pinned (.plain (OpenSpec.ofChange dagOrderSpec)) dagOrderCard

/-- THE TIED CARD OF 'trefoillaw04.DagLong'. -/
def dagLongCard : Claim7 := { stood := { row := dagLongRow, standIns := [], harness := (true, "ae75770bb7164a7dfe5927da6d965ec59c5bd69ecc44d944f2d22496da62417e"), looks := false }, kinds := [], alts := [], laidByText := true, laidKinds := [.data], laidTests := true, laidLooks := .later }
def DagLongCardSaid : Prop := Claim7.holds Tryd.pinned (.plain (OpenSpec.ofChange dagLongSpec)) dagLongCard

/-- THE TIED CARD OF 'trefoillaw04.DagBefore'. -/
def dagBeforeCard : Claim7 := { stood := { row := dagBeforeRow, standIns := [], harness := (true, "ae75770bb7164a7dfe5927da6d965ec59c5bd69ecc44d944f2d22496da62417e"), looks := false }, kinds := [], alts := [], laidByText := true, laidKinds := [.data], laidTests := true, laidLooks := .later }
def DagBeforeCardSaid : Prop := Claim7.holds Tryd.pinned (.plain (OpenSpec.ofChange dagBeforeSpec)) dagBeforeCard

/-- THE TIED CARD OF 'trefoillaw04.DagRounds'. -/
def dagRoundsCard : Claim7 := { stood := { row := dagRoundsRow, standIns := [], harness := (true, "ae75770bb7164a7dfe5927da6d965ec59c5bd69ecc44d944f2d22496da62417e"), looks := false }, kinds := [], alts := [], laidByText := true, laidKinds := [.data], laidTests := true, laidLooks := .later }
def DagRoundsCardSaid : Prop := Claim7.holds Tryd.pinned (.plain (OpenSpec.ofChange dagRoundsSpec)) dagRoundsCard

/-- THE TIED CARD OF 'trefoillaw04.DagLess'. -/
def dagLessCard : Claim7 := { stood := { row := dagLessRow, standIns := [], harness := (true, "ae75770bb7164a7dfe5927da6d965ec59c5bd69ecc44d944f2d22496da62417e"), looks := false }, kinds := [], alts := [], laidByText := true, laidKinds := [.data], laidTests := true, laidLooks := .later }
def DagLessCardSaid : Prop := Claim7.holds Tryd.pinned (.plain (OpenSpec.ofChange dagLessSpec)) dagLessCard

/-- THE SECOND FORM's CARD OF 'trefoillaw04.DagChecks'. -/
def dagChecksUptoCard : Claim7 := { stood := { row := dagChecksUptoRow, standIns := [], harness := (true, "ae75770bb7164a7dfe5927da6d965ec59c5bd69ecc44d944f2d22496da62417e"), looks := false }, kinds := [], alts := [], laidByText := true, laidKinds := [.data], laidTests := true, laidLooks := .later }
def DagChecksUptoCardSaid : Prop := Claim7.holds Tryd.pinned (.plain (OpenSpec.upto dagChecksSpec)) dagChecksUptoCard

/-- THE SECOND FORM's CARD OF 'trefoillaw04.DagTells'. -/
def dagTellsUptoCard : Claim7 := { stood := { row := dagTellsUptoRow, standIns := [], harness := (true, "ae75770bb7164a7dfe5927da6d965ec59c5bd69ecc44d944f2d22496da62417e"), looks := false }, kinds := [], alts := [], laidByText := true, laidKinds := [.data], laidTests := true, laidLooks := .later }
def DagTellsUptoCardSaid : Prop := Claim7.holds Tryd.pinned (.plain (OpenSpec.upto dagTellsSpec)) dagTellsUptoCard

/-- THE SECOND FORM's CARD OF 'trefoillaw04.DagOrder'. -/
def dagOrderUptoCard : Claim7 := { stood := { row := dagOrderUptoRow, standIns := [], harness := (true, "ae75770bb7164a7dfe5927da6d965ec59c5bd69ecc44d944f2d22496da62417e"), looks := false }, kinds := [], alts := [], laidByText := true, laidKinds := [.data], laidTests := true, laidLooks := .later }
def DagOrderUptoCardSaid : Prop := Claim7.holds Tryd.pinned (.plain (OpenSpec.upto dagOrderSpec)) dagOrderUptoCard

/-- THE SECOND FORM's CARD OF 'trefoillaw04.DagLong'. -/
def dagLongUptoCard : Claim7 := { stood := { row := dagLongUptoRow, standIns := [], harness := (true, "ae75770bb7164a7dfe5927da6d965ec59c5bd69ecc44d944f2d22496da62417e"), looks := false }, kinds := [], alts := [], laidByText := true, laidKinds := [.data], laidTests := true, laidLooks := .later }
def DagLongUptoCardSaid : Prop := Claim7.holds Tryd.pinned (.plain (OpenSpec.upto dagLongSpec)) dagLongUptoCard

/-- THE SECOND FORM's CARD OF 'trefoillaw04.DagBefore'. -/
def dagBeforeUptoCard : Claim7 := { stood := { row := dagBeforeUptoRow, standIns := [], harness := (true, "ae75770bb7164a7dfe5927da6d965ec59c5bd69ecc44d944f2d22496da62417e"), looks := false }, kinds := [], alts := [], laidByText := true, laidKinds := [.data], laidTests := true, laidLooks := .later }
def DagBeforeUptoCardSaid : Prop := Claim7.holds Tryd.pinned (.plain (OpenSpec.upto dagBeforeSpec)) dagBeforeUptoCard

/-- THE SECOND FORM's CARD OF 'trefoillaw04.DagRounds'. -/
def dagRoundsUptoCard : Claim7 := { stood := { row := dagRoundsUptoRow, standIns := [], harness := (true, "ae75770bb7164a7dfe5927da6d965ec59c5bd69ecc44d944f2d22496da62417e"), looks := false }, kinds := [], alts := [], laidByText := true, laidKinds := [.data], laidTests := true, laidLooks := .later }
def DagRoundsUptoCardSaid : Prop := Claim7.holds Tryd.pinned (.plain (OpenSpec.upto dagRoundsSpec)) dagRoundsUptoCard

/-- THE SECOND FORM's CARD OF 'trefoillaw04.DagLess'. -/
def dagLessUptoCard : Claim7 := { stood := { row := dagLessUptoRow, standIns := [], harness := (true, "ae75770bb7164a7dfe5927da6d965ec59c5bd69ecc44d944f2d22496da62417e"), looks := false }, kinds := [], alts := [], laidByText := true, laidKinds := [.data], laidTests := true, laidLooks := .later }
def DagLessUptoCardSaid : Prop := Claim7.holds Tryd.pinned (.plain (OpenSpec.upto dagLessSpec)) dagLessUptoCard
end Rows
end Go.Proofs.YtmgfbpnphdkgiaaDoor
