/-
  DERIVED. GIVEN WITH THE SEED: THE CARDS: each row of YtngdbbligebcbaaDoorRows.lean that lists a variable, with what it lists TIED to the program's text (the seventh form; the later family's looks); each row that meets fmt, with fmt's text TOLD by the authors' own Lean function (tested against real Go, not proved from fmt's source: count such statements apart). THE CARD IS WHAT COUNTS. Prove the row's statement (the work); the ties are given (YtngdbbligebcbaaDoorTie.lean); close each card by the builder's one call (the guide's Derived/Test/ToyasCard.lean, 'card_holds'). Laid BY PROGRAM, IN A SANDBOX (cutbox-door.mjs). By AI agents, Wed Nov 11 2026. No macro, syntax, notation, axiom, sorry.
-/
import Derived.Test.YtngdbbligebcbaaDoorRows
import GoSem.ClaimSeven
namespace Go.Proofs.YtngdbbligebcbaaDoor
namespace Rows

/-- THE TIED CARD OF 'trefoillaw16.PartRight'. -/
def partRightCard : Claim7 := { stood := { row := partRightRow, standIns := [], harness := (true, "1bf3c27bb21b21b484c540f13f02feaa2f0d7a71faa5011f3802448acaf430e7"), looks := false }, kinds := [], alts := [], laidByText := true, laidKinds := [.data, .data], laidTests := true, laidLooks := .later }
def PartRightCardSaid : Prop := Claim7.holds Tryd.pinned (.plain (OpenSpec.ofChange partRightSpec)) partRightCard

/-- THE TIED CARD OF 'trefoillaw16.PartEnough'. -/
def partEnoughCard : Claim7 := { stood := { row := partEnoughRow, standIns := [], harness := (true, "1bf3c27bb21b21b484c540f13f02feaa2f0d7a71faa5011f3802448acaf430e7"), looks := false }, kinds := [], alts := [], laidByText := true, laidKinds := [.data, .data], laidTests := true, laidLooks := .later }
def PartEnoughCardSaid : Prop := Claim7.holds Tryd.pinned (.plain (OpenSpec.ofChange partEnoughSpec)) partEnoughCard

/-- THE TIED CARD OF 'trefoillaw16.PartMore'. -/
def partMoreCard : Claim7 := { stood := { row := partMoreRow, standIns := [], harness := (true, "1bf3c27bb21b21b484c540f13f02feaa2f0d7a71faa5011f3802448acaf430e7"), looks := false }, kinds := [], alts := [], laidByText := true, laidKinds := [.data, .data], laidTests := true, laidLooks := .later }
def PartMoreCardSaid : Prop := Claim7.holds Tryd.pinned (.plain (OpenSpec.ofChange partMoreSpec)) partMoreCard

/-- THE TIED CARD OF 'trefoillaw16.PartOrder'. -/
def partOrderCard : Claim7 := { stood := { row := partOrderRow, standIns := [], harness := (true, "1bf3c27bb21b21b484c540f13f02feaa2f0d7a71faa5011f3802448acaf430e7"), looks := false }, kinds := [], alts := [], laidByText := true, laidKinds := [.data, .data], laidTests := true, laidLooks := .later }
def PartOrderCardSaid : Prop := Claim7.holds Tryd.pinned (.plain (OpenSpec.ofChange partOrderSpec)) partOrderCard

/-- THE TIED CARD OF 'trefoillaw16.PartFirst'. -/
def partFirstCard : Claim7 := { stood := { row := partFirstRow, standIns := [], harness := (true, "1bf3c27bb21b21b484c540f13f02feaa2f0d7a71faa5011f3802448acaf430e7"), looks := false }, kinds := [], alts := [], laidByText := true, laidKinds := [.data, .data], laidTests := true, laidLooks := .later }
def PartFirstCardSaid : Prop := Claim7.holds Tryd.pinned (.plain (OpenSpec.ofChange partFirstSpec)) partFirstCard

/-- THE TIED CARD OF 'trefoillaw16.PartWider'. -/
def partWiderCard : Claim7 := { stood := { row := partWiderRow, standIns := [], harness := (true, "1bf3c27bb21b21b484c540f13f02feaa2f0d7a71faa5011f3802448acaf430e7"), looks := false }, kinds := [], alts := [], laidByText := true, laidKinds := [.data, .data], laidTests := true, laidLooks := .later }
def PartWiderCardSaid : Prop := Claim7.holds Tryd.pinned (.plain (OpenSpec.ofChange partWiderSpec)) partWiderCard

/-- THE SECOND FORM's CARD OF 'trefoillaw16.PartRight'. -/
def partRightUptoCard : Claim7 := { stood := { row := partRightUptoRow, standIns := [], harness := (true, "1bf3c27bb21b21b484c540f13f02feaa2f0d7a71faa5011f3802448acaf430e7"), looks := false }, kinds := [], alts := [], laidByText := true, laidKinds := [.data, .data], laidTests := true, laidLooks := .later }
def PartRightUptoCardSaid : Prop := Claim7.holds Tryd.pinned (.plain (OpenSpec.upto partRightSpec)) partRightUptoCard

/-- THE SECOND FORM's CARD OF 'trefoillaw16.PartEnough'. -/
def partEnoughUptoCard : Claim7 := { stood := { row := partEnoughUptoRow, standIns := [], harness := (true, "1bf3c27bb21b21b484c540f13f02feaa2f0d7a71faa5011f3802448acaf430e7"), looks := false }, kinds := [], alts := [], laidByText := true, laidKinds := [.data, .data], laidTests := true, laidLooks := .later }
def PartEnoughUptoCardSaid : Prop := Claim7.holds Tryd.pinned (.plain (OpenSpec.upto partEnoughSpec)) partEnoughUptoCard

/-- THE SECOND FORM's CARD OF 'trefoillaw16.PartMore'. -/
def partMoreUptoCard : Claim7 := { stood := { row := partMoreUptoRow, standIns := [], harness := (true, "1bf3c27bb21b21b484c540f13f02feaa2f0d7a71faa5011f3802448acaf430e7"), looks := false }, kinds := [], alts := [], laidByText := true, laidKinds := [.data, .data], laidTests := true, laidLooks := .later }
def PartMoreUptoCardSaid : Prop := Claim7.holds Tryd.pinned (.plain (OpenSpec.upto partMoreSpec)) partMoreUptoCard

/-- THE SECOND FORM's CARD OF 'trefoillaw16.PartOrder'. -/
def partOrderUptoCard : Claim7 := { stood := { row := partOrderUptoRow, standIns := [], harness := (true, "1bf3c27bb21b21b484c540f13f02feaa2f0d7a71faa5011f3802448acaf430e7"), looks := false }, kinds := [], alts := [], laidByText := true, laidKinds := [.data, .data], laidTests := true, laidLooks := .later }
def PartOrderUptoCardSaid : Prop := Claim7.holds Tryd.pinned (.plain (OpenSpec.upto partOrderSpec)) partOrderUptoCard

/-- THE SECOND FORM's CARD OF 'trefoillaw16.PartFirst'. -/
def partFirstUptoCard : Claim7 := { stood := { row := partFirstUptoRow, standIns := [], harness := (true, "1bf3c27bb21b21b484c540f13f02feaa2f0d7a71faa5011f3802448acaf430e7"), looks := false }, kinds := [], alts := [], laidByText := true, laidKinds := [.data, .data], laidTests := true, laidLooks := .later }
def PartFirstUptoCardSaid : Prop := Claim7.holds Tryd.pinned (.plain (OpenSpec.upto partFirstSpec)) partFirstUptoCard

/-- THE SECOND FORM's CARD OF 'trefoillaw16.PartWider'. -/
def partWiderUptoCard : Claim7 := { stood := { row := partWiderUptoRow, standIns := [], harness := (true, "1bf3c27bb21b21b484c540f13f02feaa2f0d7a71faa5011f3802448acaf430e7"), looks := false }, kinds := [], alts := [], laidByText := true, laidKinds := [.data, .data], laidTests := true, laidLooks := .later }
def PartWiderUptoCardSaid : Prop := Claim7.holds Tryd.pinned (.plain (OpenSpec.upto partWiderSpec)) partWiderUptoCard
end Rows
end Go.Proofs.YtngdbbligebcbaaDoor
