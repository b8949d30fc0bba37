/-
  DERIVED. GIVEN WITH THE SEED: THE CARDS: each row of YtpckmhmabmmllaaDoorRows.lean that lists a variable, with what it lists TIED to the program's text (the seventh form; the later family's looks); each row that meets fmt, with fmt's text TOLD by the authors' own Lean function (tested against real Go, not proved from fmt's source: count such statements apart). THE CARD IS WHAT COUNTS. Prove the row's statement (the work); the ties are given (YtpckmhmabmmllaaDoorTie.lean); close each card by the builder's one call (the guide's Derived/Test/ToyasCard.lean, 'card_holds'). Laid BY PROGRAM, IN A SANDBOX (cutbox-door.mjs). By AI agents, Wed Nov 11 2026. No macro, syntax, notation, axiom, sorry.
-/
import Derived.Test.YtpckmhmabmmllaaDoorRows
import GoSem.ClaimSeven
namespace Go.Proofs.YtpckmhmabmmllaaDoor
namespace Rows

/-- THE TIED CARD OF 'trefoillaw05.DescChecks'. -/
def descChecksCard : Claim7 := { stood := { row := descChecksRow, standIns := [], harness := (true, "1dd74cbbfb17247b940ebcff1dc2483709c1deb3a74c894f1490ea938aa0bcff"), looks := false }, kinds := [], alts := [], laidByText := true, laidKinds := [.data, .data], laidTests := true, laidLooks := .later }
def DescChecksCardSaid : Prop := Claim7.holds Tryd.pinned (.plain (OpenSpec.ofChange descChecksSpec)) descChecksCard

/-- THE TIED CARD OF 'trefoillaw05.DescFeeds'. -/
def descFeedsCard : Claim7 := { stood := { row := descFeedsRow, standIns := [], harness := (true, "1dd74cbbfb17247b940ebcff1dc2483709c1deb3a74c894f1490ea938aa0bcff"), looks := false }, kinds := [], alts := [], laidByText := true, laidKinds := [.data, .data], laidTests := true, laidLooks := .later }
def DescFeedsCardSaid : Prop := Claim7.holds Tryd.pinned (.plain (OpenSpec.ofChange descFeedsSpec)) descFeedsCard

/-- THE TIED CARD OF 'trefoillaw05.DescGaps'. -/
def descGapsCard : Claim7 := { stood := { row := descGapsRow, standIns := [], harness := (true, "1dd74cbbfb17247b940ebcff1dc2483709c1deb3a74c894f1490ea938aa0bcff"), looks := false }, kinds := [], alts := [], laidByText := true, laidKinds := [.data, .data], laidTests := true, laidLooks := .later }
def DescGapsCardSaid : Prop := Claim7.holds Tryd.pinned (.plain (OpenSpec.ofChange descGapsSpec)) descGapsCard

/-- THE TIED CARD OF 'trefoillaw05.DescCounts'. -/
def descCountsCard : Claim7 := { stood := { row := descCountsRow, standIns := [], harness := (true, "1dd74cbbfb17247b940ebcff1dc2483709c1deb3a74c894f1490ea938aa0bcff"), looks := false }, kinds := [], alts := [], laidByText := true, laidKinds := [.data, .data], laidTests := true, laidLooks := .later }
def DescCountsCardSaid : Prop := Claim7.holds Tryd.pinned (.plain (OpenSpec.ofChange descCountsSpec)) descCountsCard

/-- THE TIED CARD OF 'trefoillaw05.DescLess'. -/
def descLessCard : Claim7 := { stood := { row := descLessRow, standIns := [], harness := (true, "1dd74cbbfb17247b940ebcff1dc2483709c1deb3a74c894f1490ea938aa0bcff"), looks := false }, kinds := [], alts := [], laidByText := true, laidKinds := [.data, .data], laidTests := true, laidLooks := .later }
def DescLessCardSaid : Prop := Claim7.holds Tryd.pinned (.plain (OpenSpec.ofChange descLessSpec)) descLessCard

/-- THE TIED CARD OF 'trefoillaw05.DescSame'. -/
def descSameCard : Claim7 := { stood := { row := descSameRow, standIns := [], harness := (true, "1dd74cbbfb17247b940ebcff1dc2483709c1deb3a74c894f1490ea938aa0bcff"), looks := false }, kinds := [], alts := [], laidByText := true, laidKinds := [.data, .data], laidTests := true, laidLooks := .later }
def DescSameCardSaid : Prop := Claim7.holds Tryd.pinned (.plain (OpenSpec.ofChange descSameSpec)) descSameCard

/-- THE SECOND FORM's CARD OF 'trefoillaw05.DescChecks'. -/
def descChecksUptoCard : Claim7 := { stood := { row := descChecksUptoRow, standIns := [], harness := (true, "1dd74cbbfb17247b940ebcff1dc2483709c1deb3a74c894f1490ea938aa0bcff"), looks := false }, kinds := [], alts := [], laidByText := true, laidKinds := [.data, .data], laidTests := true, laidLooks := .later }
def DescChecksUptoCardSaid : Prop := Claim7.holds Tryd.pinned (.plain (OpenSpec.upto descChecksSpec)) descChecksUptoCard

/-- THE SECOND FORM's CARD OF 'trefoillaw05.DescFeeds'. -/
def descFeedsUptoCard : Claim7 := { stood := { row := descFeedsUptoRow, standIns := [], harness := (true, "1dd74cbbfb17247b940ebcff1dc2483709c1deb3a74c894f1490ea938aa0bcff"), looks := false }, kinds := [], alts := [], laidByText := true, laidKinds := [.data, .data], laidTests := true, laidLooks := .later }
def DescFeedsUptoCardSaid : Prop := Claim7.holds Tryd.pinned (.plain (OpenSpec.upto descFeedsSpec)) descFeedsUptoCard

/-- THE SECOND FORM's CARD OF 'trefoillaw05.DescGaps'. -/
def descGapsUptoCard : Claim7 := { stood := { row := descGapsUptoRow, standIns := [], harness := (true, "1dd74cbbfb17247b940ebcff1dc2483709c1deb3a74c894f1490ea938aa0bcff"), looks := false }, kinds := [], alts := [], laidByText := true, laidKinds := [.data, .data], laidTests := true, laidLooks := .later }
def DescGapsUptoCardSaid : Prop := Claim7.holds Tryd.pinned (.plain (OpenSpec.upto descGapsSpec)) descGapsUptoCard

/-- THE SECOND FORM's CARD OF 'trefoillaw05.DescCounts'. -/
def descCountsUptoCard : Claim7 := { stood := { row := descCountsUptoRow, standIns := [], harness := (true, "1dd74cbbfb17247b940ebcff1dc2483709c1deb3a74c894f1490ea938aa0bcff"), looks := false }, kinds := [], alts := [], laidByText := true, laidKinds := [.data, .data], laidTests := true, laidLooks := .later }
def DescCountsUptoCardSaid : Prop := Claim7.holds Tryd.pinned (.plain (OpenSpec.upto descCountsSpec)) descCountsUptoCard

/-- THE SECOND FORM's CARD OF 'trefoillaw05.DescLess'. -/
def descLessUptoCard : Claim7 := { stood := { row := descLessUptoRow, standIns := [], harness := (true, "1dd74cbbfb17247b940ebcff1dc2483709c1deb3a74c894f1490ea938aa0bcff"), looks := false }, kinds := [], alts := [], laidByText := true, laidKinds := [.data, .data], laidTests := true, laidLooks := .later }
def DescLessUptoCardSaid : Prop := Claim7.holds Tryd.pinned (.plain (OpenSpec.upto descLessSpec)) descLessUptoCard

/-- THE SECOND FORM's CARD OF 'trefoillaw05.DescSame'. -/
def descSameUptoCard : Claim7 := { stood := { row := descSameUptoRow, standIns := [], harness := (true, "1dd74cbbfb17247b940ebcff1dc2483709c1deb3a74c894f1490ea938aa0bcff"), looks := false }, kinds := [], alts := [], laidByText := true, laidKinds := [.data, .data], laidTests := true, laidLooks := .later }
def DescSameUptoCardSaid : Prop := Claim7.holds Tryd.pinned (.plain (OpenSpec.upto descSameSpec)) descSameUptoCard
end Rows
end Go.Proofs.YtpckmhmabmmllaaDoor
