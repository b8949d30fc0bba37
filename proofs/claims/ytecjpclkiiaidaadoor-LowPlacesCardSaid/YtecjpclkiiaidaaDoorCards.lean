/-
  DERIVED. GIVEN WITH THE SEED: THE CARDS: each row of YtecjpclkiiaidaaDoorRows.lean that lists a variable, with what it lists TIED to the program's text (the seventh form; the later family's looks); each row that meets fmt, with fmt's text TOLD by the authors' own Lean function (tested against real Go, not proved from fmt's source: count such statements apart). THE CARD IS WHAT COUNTS. Prove the row's statement (the work); the ties are given (YtecjpclkiiaidaaDoorTie.lean); close each card by the builder's one call (the guide's Derived/Test/ToyasCard.lean, 'card_holds'). Laid BY PROGRAM, IN A SANDBOX (cutbox-door.mjs). By AI agents, Wed Nov 11 2026. No macro, syntax, notation, axiom, sorry.
-/
import Derived.Test.YtecjpclkiiaidaaDoorRows
import GoSem.ClaimSeven
namespace Go.Proofs.YtecjpclkiiaidaaDoor
namespace Rows

/-- THE TIED CARD OF 'trefoillaw07.LowPlaces'. -/
def lowPlacesCard : Claim7 := { stood := { row := lowPlacesRow, standIns := [], harness := (true, "a79e5759f186b1f63b3de783f8322ff4817f22ad28611155c25a25bbdf4ab7c7"), looks := false }, kinds := [], alts := [], laidByText := true, laidKinds := [.data, .data], laidTests := true, laidLooks := .later }
def LowPlacesCardSaid : Prop := Claim7.holds Tryd.pinned (.plain (OpenSpec.ofChange lowPlacesSpec)) lowPlacesCard

/-- THE TIED CARD OF 'trefoillaw07.LowRound'. -/
def lowRoundCard : Claim7 := { stood := { row := lowRoundRow, standIns := [], harness := (true, "a79e5759f186b1f63b3de783f8322ff4817f22ad28611155c25a25bbdf4ab7c7"), looks := false }, kinds := [], alts := [], laidByText := true, laidKinds := [.data, .data], laidTests := true, laidLooks := .later }
def LowRoundCardSaid : Prop := Claim7.holds Tryd.pinned (.plain (OpenSpec.ofChange lowRoundSpec)) lowRoundCard

/-- THE TIED CARD OF 'trefoillaw07.LowLess'. -/
def lowLessCard : Claim7 := { stood := { row := lowLessRow, standIns := [], harness := (true, "a79e5759f186b1f63b3de783f8322ff4817f22ad28611155c25a25bbdf4ab7c7"), looks := false }, kinds := [], alts := [], laidByText := true, laidKinds := [.data, .data], laidTests := true, laidLooks := .later }
def LowLessCardSaid : Prop := Claim7.holds Tryd.pinned (.plain (OpenSpec.ofChange lowLessSpec)) lowLessCard

/-- THE SECOND FORM's CARD OF 'trefoillaw07.LowPlaces'. -/
def lowPlacesUptoCard : Claim7 := { stood := { row := lowPlacesUptoRow, standIns := [], harness := (true, "a79e5759f186b1f63b3de783f8322ff4817f22ad28611155c25a25bbdf4ab7c7"), looks := false }, kinds := [], alts := [], laidByText := true, laidKinds := [.data, .data], laidTests := true, laidLooks := .later }
def LowPlacesUptoCardSaid : Prop := Claim7.holds Tryd.pinned (.plain (OpenSpec.upto lowPlacesSpec)) lowPlacesUptoCard

/-- THE SECOND FORM's CARD OF 'trefoillaw07.LowRound'. -/
def lowRoundUptoCard : Claim7 := { stood := { row := lowRoundUptoRow, standIns := [], harness := (true, "a79e5759f186b1f63b3de783f8322ff4817f22ad28611155c25a25bbdf4ab7c7"), looks := false }, kinds := [], alts := [], laidByText := true, laidKinds := [.data, .data], laidTests := true, laidLooks := .later }
def LowRoundUptoCardSaid : Prop := Claim7.holds Tryd.pinned (.plain (OpenSpec.upto lowRoundSpec)) lowRoundUptoCard

/-- THE SECOND FORM's CARD OF 'trefoillaw07.LowLess'. -/
def lowLessUptoCard : Claim7 := { stood := { row := lowLessUptoRow, standIns := [], harness := (true, "a79e5759f186b1f63b3de783f8322ff4817f22ad28611155c25a25bbdf4ab7c7"), looks := false }, kinds := [], alts := [], laidByText := true, laidKinds := [.data, .data], laidTests := true, laidLooks := .later }
def LowLessUptoCardSaid : Prop := Claim7.holds Tryd.pinned (.plain (OpenSpec.upto lowLessSpec)) lowLessUptoCard
end Rows
end Go.Proofs.YtecjpclkiiaidaaDoor
