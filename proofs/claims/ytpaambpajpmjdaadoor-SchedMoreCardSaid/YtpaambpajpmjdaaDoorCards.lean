/-
  DERIVED. GIVEN WITH THE SEED: THE CARDS: each row of YtpaambpajpmjdaaDoorRows.lean that lists a variable, with what it lists TIED to the program's text (the seventh form; the later family's looks); each row that meets fmt, with fmt's text TOLD by the authors' own Lean function (tested against real Go, not proved from fmt's source: count such statements apart). THE CARD IS WHAT COUNTS. Prove the row's statement (the work); the ties are given (YtpaambpajpmjdaaDoorTie.lean); close each card by the builder's one call (the guide's Derived/Test/ToyasCard.lean, 'card_holds'). Laid BY PROGRAM, IN A SANDBOX (cutbox-door.mjs). By AI agents, Wed Nov 11 2026. No macro, syntax, notation, axiom, sorry.
-/
import Derived.Test.YtpaambpajpmjdaaDoorRows
import GoSem.ClaimSeven
namespace Go.Proofs.YtpaambpajpmjdaaDoor
namespace Rows

/-- THE TIED CARD OF 'trefoillaw10.SchedChecks'. -/
def schedChecksCard : Claim7 := { stood := { row := schedChecksRow, standIns := [], harness := (true, "1d4479a5fea166413b47ed3c1a3c87f20f3a99d37a71960f07155a5de5d6af51"), looks := false }, kinds := [], alts := [], laidByText := true, laidKinds := [.data], laidTests := true, laidLooks := .later }
def SchedChecksCardSaid : Prop := Claim7.holds Tryd.pinned (.plain (OpenSpec.ofChange schedChecksSpec)) schedChecksCard

/-- THE TIED CARD OF 'trefoillaw10.SchedBounds'. -/
def schedBoundsCard : Claim7 := { stood := { row := schedBoundsRow, standIns := [], harness := (true, "1d4479a5fea166413b47ed3c1a3c87f20f3a99d37a71960f07155a5de5d6af51"), looks := false }, kinds := [], alts := [], laidByText := true, laidKinds := [.data], laidTests := true, laidLooks := .later }
def SchedBoundsCardSaid : Prop := Claim7.holds Tryd.pinned (.plain (OpenSpec.ofChange schedBoundsSpec)) schedBoundsCard

/-- THE TIED CARD OF 'trefoillaw10.SchedGraham'. -/
def schedGrahamCard : Claim7 := { stood := { row := schedGrahamRow, standIns := [], harness := (true, "1d4479a5fea166413b47ed3c1a3c87f20f3a99d37a71960f07155a5de5d6af51"), looks := false }, kinds := [], alts := [], laidByText := true, laidKinds := [.data], laidTests := true, laidLooks := .later }
def SchedGrahamCardSaid : Prop := Claim7.holds Tryd.pinned (.plain (OpenSpec.ofChange schedGrahamSpec)) schedGrahamCard

/-- THE TIED CARD OF 'trefoillaw10.SchedOrder'. -/
def schedOrderCard : Claim7 := { stood := { row := schedOrderRow, standIns := [], harness := (true, "1d4479a5fea166413b47ed3c1a3c87f20f3a99d37a71960f07155a5de5d6af51"), looks := false }, kinds := [], alts := [], laidByText := true, laidKinds := [.data], laidTests := true, laidLooks := .later }
def SchedOrderCardSaid : Prop := Claim7.holds Tryd.pinned (.plain (OpenSpec.ofChange schedOrderSpec)) schedOrderCard

/-- THE TIED CARD OF 'trefoillaw10.SchedCuts'. -/
def schedCutsCard : Claim7 := { stood := { row := schedCutsRow, standIns := [], harness := (true, "1d4479a5fea166413b47ed3c1a3c87f20f3a99d37a71960f07155a5de5d6af51"), looks := false }, kinds := [], alts := [], laidByText := true, laidKinds := [.data], laidTests := true, laidLooks := .later }
def SchedCutsCardSaid : Prop := Claim7.holds Tryd.pinned (.plain (OpenSpec.ofChange schedCutsSpec)) schedCutsCard

/-- THE TIED CARD OF 'trefoillaw10.SchedBusy'. -/
def schedBusyCard : Claim7 := { stood := { row := schedBusyRow, standIns := [], harness := (true, "1d4479a5fea166413b47ed3c1a3c87f20f3a99d37a71960f07155a5de5d6af51"), looks := false }, kinds := [], alts := [], laidByText := true, laidKinds := [.data], laidTests := true, laidLooks := .later }
def SchedBusyCardSaid : Prop := Claim7.holds Tryd.pinned (.plain (OpenSpec.ofChange schedBusySpec)) schedBusyCard

/-- THE TIED CARD OF 'trefoillaw10.SchedMore'. -/
def schedMoreCard : Claim7 := { stood := { row := schedMoreRow, standIns := [], harness := (true, "1d4479a5fea166413b47ed3c1a3c87f20f3a99d37a71960f07155a5de5d6af51"), looks := false }, kinds := [], alts := [], laidByText := true, laidKinds := [.data], laidTests := true, laidLooks := .later }
def SchedMoreCardSaid : Prop := Claim7.holds Tryd.pinned (.plain (OpenSpec.ofChange schedMoreSpec)) schedMoreCard

/-- THE SECOND FORM's CARD OF 'trefoillaw10.SchedChecks'. -/
def schedChecksUptoCard : Claim7 := { stood := { row := schedChecksUptoRow, standIns := [], harness := (true, "1d4479a5fea166413b47ed3c1a3c87f20f3a99d37a71960f07155a5de5d6af51"), looks := false }, kinds := [], alts := [], laidByText := true, laidKinds := [.data], laidTests := true, laidLooks := .later }
def SchedChecksUptoCardSaid : Prop := Claim7.holds Tryd.pinned (.plain (OpenSpec.upto schedChecksSpec)) schedChecksUptoCard

/-- THE SECOND FORM's CARD OF 'trefoillaw10.SchedBounds'. -/
def schedBoundsUptoCard : Claim7 := { stood := { row := schedBoundsUptoRow, standIns := [], harness := (true, "1d4479a5fea166413b47ed3c1a3c87f20f3a99d37a71960f07155a5de5d6af51"), looks := false }, kinds := [], alts := [], laidByText := true, laidKinds := [.data], laidTests := true, laidLooks := .later }
def SchedBoundsUptoCardSaid : Prop := Claim7.holds Tryd.pinned (.plain (OpenSpec.upto schedBoundsSpec)) schedBoundsUptoCard

/-- THE SECOND FORM's CARD OF 'trefoillaw10.SchedGraham'. -/
def schedGrahamUptoCard : Claim7 := { stood := { row := schedGrahamUptoRow, standIns := [], harness := (true, "1d4479a5fea166413b47ed3c1a3c87f20f3a99d37a71960f07155a5de5d6af51"), looks := false }, kinds := [], alts := [], laidByText := true, laidKinds := [.data], laidTests := true, laidLooks := .later }
def SchedGrahamUptoCardSaid : Prop := Claim7.holds Tryd.pinned (.plain (OpenSpec.upto schedGrahamSpec)) schedGrahamUptoCard

/-- THE SECOND FORM's CARD OF 'trefoillaw10.SchedOrder'. -/
def schedOrderUptoCard : Claim7 := { stood := { row := schedOrderUptoRow, standIns := [], harness := (true, "1d4479a5fea166413b47ed3c1a3c87f20f3a99d37a71960f07155a5de5d6af51"), looks := false }, kinds := [], alts := [], laidByText := true, laidKinds := [.data], laidTests := true, laidLooks := .later }
def SchedOrderUptoCardSaid : Prop := Claim7.holds Tryd.pinned (.plain (OpenSpec.upto schedOrderSpec)) schedOrderUptoCard

/-- THE SECOND FORM's CARD OF 'trefoillaw10.SchedCuts'. -/
def schedCutsUptoCard : Claim7 := { stood := { row := schedCutsUptoRow, standIns := [], harness := (true, "1d4479a5fea166413b47ed3c1a3c87f20f3a99d37a71960f07155a5de5d6af51"), looks := false }, kinds := [], alts := [], laidByText := true, laidKinds := [.data], laidTests := true, laidLooks := .later }
def SchedCutsUptoCardSaid : Prop := Claim7.holds Tryd.pinned (.plain (OpenSpec.upto schedCutsSpec)) schedCutsUptoCard

/-- THE SECOND FORM's CARD OF 'trefoillaw10.SchedBusy'. -/
def schedBusyUptoCard : Claim7 := { stood := { row := schedBusyUptoRow, standIns := [], harness := (true, "1d4479a5fea166413b47ed3c1a3c87f20f3a99d37a71960f07155a5de5d6af51"), looks := false }, kinds := [], alts := [], laidByText := true, laidKinds := [.data], laidTests := true, laidLooks := .later }
def SchedBusyUptoCardSaid : Prop := Claim7.holds Tryd.pinned (.plain (OpenSpec.upto schedBusySpec)) schedBusyUptoCard

/-- THE SECOND FORM's CARD OF 'trefoillaw10.SchedMore'. -/
def schedMoreUptoCard : Claim7 := { stood := { row := schedMoreUptoRow, standIns := [], harness := (true, "1d4479a5fea166413b47ed3c1a3c87f20f3a99d37a71960f07155a5de5d6af51"), looks := false }, kinds := [], alts := [], laidByText := true, laidKinds := [.data], laidTests := true, laidLooks := .later }
def SchedMoreUptoCardSaid : Prop := Claim7.holds Tryd.pinned (.plain (OpenSpec.upto schedMoreSpec)) schedMoreUptoCard
end Rows
end Go.Proofs.YtpaambpajpmjdaaDoor
