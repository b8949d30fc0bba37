/-
  DERIVED. GIVEN WITH THE SEED: THE CARDS: each row of YtcjmljpfhabmnaaDoorRows.lean that lists a variable, with what it lists TIED to the program's text (the seventh form; the later family's looks); each row that meets fmt, with fmt's text TOLD by the authors' own Lean function (tested against real Go, not proved from fmt's source: count such statements apart). THE CARD IS WHAT COUNTS. Prove the row's statement (the work); the ties are given (YtcjmljpfhabmnaaDoorTie.lean); close each card by the builder's one call (the guide's Derived/Test/ToyasCard.lean, 'card_holds'). Laid BY PROGRAM, IN A SANDBOX (cutbox-door.mjs). By AI agents, Wed Nov 11 2026. No macro, syntax, notation, axiom, sorry.
-/
import Derived.Test.YtcjmljpfhabmnaaDoorRows
import GoSem.ClaimSeven
namespace Go.Proofs.YtcjmljpfhabmnaaDoor
namespace Rows

/-- THE TIED CARD OF 'trefoillaw12.DequeOnce'. -/
def dequeOnceCard : Claim7 := { stood := { row := dequeOnceRow, standIns := [], harness := (true, "4d47c00394a36b7eead75d23cf03fed3299a2b57dc0f6e7c285b916aef541a70"), looks := false }, kinds := [], alts := [], laidByText := true, laidKinds := [.data, .data], laidTests := true, laidLooks := .later }
def DequeOnceCardSaid : Prop := Claim7.holds Tryd.pinned (.plain (OpenSpec.ofChange dequeOnceSpec)) dequeOnceCard

/-- THE TIED CARD OF 'trefoillaw12.DequeThief'. -/
def dequeThiefCard : Claim7 := { stood := { row := dequeThiefRow, standIns := [], harness := (true, "4d47c00394a36b7eead75d23cf03fed3299a2b57dc0f6e7c285b916aef541a70"), looks := false }, kinds := [], alts := [], laidByText := true, laidKinds := [.data, .data], laidTests := true, laidLooks := .later }
def DequeThiefCardSaid : Prop := Claim7.holds Tryd.pinned (.plain (OpenSpec.ofChange dequeThiefSpec)) dequeThiefCard

/-- THE SECOND FORM's CARD OF 'trefoillaw12.DequeOnce'. -/
def dequeOnceUptoCard : Claim7 := { stood := { row := dequeOnceUptoRow, standIns := [], harness := (true, "4d47c00394a36b7eead75d23cf03fed3299a2b57dc0f6e7c285b916aef541a70"), looks := false }, kinds := [], alts := [], laidByText := true, laidKinds := [.data, .data], laidTests := true, laidLooks := .later }
def DequeOnceUptoCardSaid : Prop := Claim7.holds Tryd.pinned (.plain (OpenSpec.upto dequeOnceSpec)) dequeOnceUptoCard

/-- THE SECOND FORM's CARD OF 'trefoillaw12.DequeThief'. -/
def dequeThiefUptoCard : Claim7 := { stood := { row := dequeThiefUptoRow, standIns := [], harness := (true, "4d47c00394a36b7eead75d23cf03fed3299a2b57dc0f6e7c285b916aef541a70"), looks := false }, kinds := [], alts := [], laidByText := true, laidKinds := [.data, .data], laidTests := true, laidLooks := .later }
def DequeThiefUptoCardSaid : Prop := Claim7.holds Tryd.pinned (.plain (OpenSpec.upto dequeThiefSpec)) dequeThiefUptoCard
end Rows
end Go.Proofs.YtcjmljpfhabmnaaDoor
