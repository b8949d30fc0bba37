/-
  DERIVED. GIVEN WITH THE SEED: THE CARDS: each row of YtngdbbligebcbabGreatDoorRows.lean that lists a variable, with what it lists TIED to the program's text (the seventh form; the later family's looks); each row that meets fmt, with fmt's text TOLD by the authors' own Lean function (tested against real Go, not proved from fmt's source: count such statements apart). THE CARD IS WHAT COUNTS. Prove the row's statement (the work); the ties are given (YtngdbbligebcbabGreatDoorTie.lean); close each card by the builder's one call (the guide's Derived/Test/ToyasCard.lean, 'card_holds'). Laid BY PROGRAM, IN A SANDBOX (cutbox-door.mjs). By AI agents, Wed Nov 11 2026. No macro, syntax, notation, axiom, sorry.
-/
import Derived.Test.YtngdbbligebcbabGreatDoorRows
import GoSem.ClaimSeven
namespace Go.Proofs.YtngdbbligebcbabGreatDoor
namespace Rows

/-- THE TIED CARD OF 'trefoillaw13.StealRuns'. -/
def stealRunsCard : Claim7 := { stood := { row := stealRunsRow, standIns := [], harness := (true, "560b5fbcb31908ea0293def91b5e43aa9e23fa9ae13cd3e8132ecc29ea4bc695"), looks := false }, kinds := [], alts := [], laidByText := true, laidKinds := [.data, .data], laidTests := true, laidLooks := .later }
def StealRunsCardSaid : Prop := Claim7.holds Tryz.pinned (.plain (OpenSpec.ofChange stealRunsSpec)) stealRunsCard

/-- THE TIED CARD OF 'trefoillaw13.StealCalm'. -/
def stealCalmCard : Claim7 := { stood := { row := stealCalmRow, standIns := [], harness := (true, "560b5fbcb31908ea0293def91b5e43aa9e23fa9ae13cd3e8132ecc29ea4bc695"), looks := false }, kinds := [], alts := [], laidByText := true, laidKinds := [.data, .data], laidTests := true, laidLooks := .later }
def StealCalmCardSaid : Prop := Claim7.holds Tryz.pinned (.plain (OpenSpec.ofChange stealCalmSpec)) stealCalmCard

/-- THE TIED CARD OF 'trefoillaw13.StealOnce'. -/
def stealOnceCard : Claim7 := { stood := { row := stealOnceRow, standIns := [], harness := (true, "560b5fbcb31908ea0293def91b5e43aa9e23fa9ae13cd3e8132ecc29ea4bc695"), looks := false }, kinds := [], alts := [], laidByText := true, laidKinds := [.data, .data], laidTests := true, laidLooks := .later }
def StealOnceCardSaid : Prop := Claim7.holds Tryz.pinned (.plain (OpenSpec.ofChange stealOnceSpec)) stealOnceCard

/-- THE SECOND FORM's CARD OF 'trefoillaw13.StealRuns'. -/
def stealRunsUptoCard : Claim7 := { stood := { row := stealRunsUptoRow, standIns := [], harness := (true, "560b5fbcb31908ea0293def91b5e43aa9e23fa9ae13cd3e8132ecc29ea4bc695"), looks := false }, kinds := [], alts := [], laidByText := true, laidKinds := [.data, .data], laidTests := true, laidLooks := .later }
def StealRunsUptoCardSaid : Prop := Claim7.holds Tryz.pinned (.plain (OpenSpec.upto stealRunsSpec)) stealRunsUptoCard

/-- THE SECOND FORM's CARD OF 'trefoillaw13.StealCalm'. -/
def stealCalmUptoCard : Claim7 := { stood := { row := stealCalmUptoRow, standIns := [], harness := (true, "560b5fbcb31908ea0293def91b5e43aa9e23fa9ae13cd3e8132ecc29ea4bc695"), looks := false }, kinds := [], alts := [], laidByText := true, laidKinds := [.data, .data], laidTests := true, laidLooks := .later }
def StealCalmUptoCardSaid : Prop := Claim7.holds Tryz.pinned (.plain (OpenSpec.upto stealCalmSpec)) stealCalmUptoCard

/-- THE SECOND FORM's CARD OF 'trefoillaw13.StealOnce'. -/
def stealOnceUptoCard : Claim7 := { stood := { row := stealOnceUptoRow, standIns := [], harness := (true, "560b5fbcb31908ea0293def91b5e43aa9e23fa9ae13cd3e8132ecc29ea4bc695"), looks := false }, kinds := [], alts := [], laidByText := true, laidKinds := [.data, .data], laidTests := true, laidLooks := .later }
def StealOnceUptoCardSaid : Prop := Claim7.holds Tryz.pinned (.plain (OpenSpec.upto stealOnceSpec)) stealOnceUptoCard
end Rows
end Go.Proofs.YtngdbbligebcbabGreatDoor
