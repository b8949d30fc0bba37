/-
  NARROWER THAN 'FOR EVERY INPUT', by the rows' own cells (each row's printed sentence says how): DagChecks: laid · DagTells: laid · DagOrder: laid · DagLong: laid · DagBefore: laid · DagRounds: laid · DagLess: laid.
  DERIVED. THE GIVEN ROWS OF THIS SEAT. 7 by the template 'for every input the law returns true; each argument reads behind the call as it read before'; 0 by the template 'total and deterministic' (their statements: YtmgfbpnphdkgiaaDoorTotals.lean).
  GIVEN WITH THE SEED: the statements are not yours to turn. If you find one false, say at which input.
  Laid BY PROGRAM, IN A SANDBOX (cutbox-rows.mjs): the forced cells as the released guide's own fill.sh prints them over the translation e60868876383f3b0… (all of the seat's roots in one cut). By AI agents, Wed Nov 11 2026. No macro, syntax, notation, axiom, sorry.
-/
import Derived.Test.YtmgfbpnphdkgiaaDoorChecked
import GoSem.Claim
import GoSem.ClaimJoined
import GoSem.ClaimMapViews
import Derived.JoinedTies
import Derived.KernelRfl
namespace Go.Proofs.YtmgfbpnphdkgiaaDoor
/- THE CELL 'sum', in the pinned program and in every row, IS THE sha256 OF THE DUMP (.gsa) THAT YtmgfbpnphdkgiaaDoorProg.lean LOADS. Nothing in Lean hashes anything: it is a label: what it is worth is what the hold of that sum in a sandbox is worth. -/
noncomputable def Tryd.pinned : Pinned := { name := "ytmgfbpnphdkgiaadoor", sum := "e60868876383f3b06607dcbefa55214a94374dee2a3005f9c5ef0a02b6f43d09", checked := Tryd.checked }
namespace Rows
def none {H : Type} : Left H := { results := [], args := [] }

/- WHAT THE LISTED PACKAGE-LEVEL VARIABLES READ AS WHEN THE CALL BEGINS. Each datum BY PROGRAM (the guide's laid-datum.mjs) off the statement by which the dump's own 'gosem.cut.vars' lays the variable. In a bare row this is a premise. The card (YtmgfbpnphdkgiaaDoorCards.lean) ties it to the program's text. -/
def laid_math_bits_deBruijn64tab {H : Type} : DataW H := .agg [.lit (.int .u8 0), .lit (.int .u8 1), .lit (.int .u8 56), .lit (.int .u8 2), .lit (.int .u8 57), .lit (.int .u8 49), .lit (.int .u8 28), .lit (.int .u8 3), .lit (.int .u8 61), .lit (.int .u8 58), .lit (.int .u8 42), .lit (.int .u8 50), .lit (.int .u8 38), .lit (.int .u8 29), .lit (.int .u8 17), .lit (.int .u8 4), .lit (.int .u8 62), .lit (.int .u8 47), .lit (.int .u8 59), .lit (.int .u8 36), .lit (.int .u8 45), .lit (.int .u8 43), .lit (.int .u8 51), .lit (.int .u8 22), .lit (.int .u8 53), .lit (.int .u8 39), .lit (.int .u8 33), .lit (.int .u8 30), .lit (.int .u8 24), .lit (.int .u8 18), .lit (.int .u8 12), .lit (.int .u8 5), .lit (.int .u8 63), .lit (.int .u8 55), .lit (.int .u8 48), .lit (.int .u8 27), .lit (.int .u8 60), .lit (.int .u8 41), .lit (.int .u8 37), .lit (.int .u8 16), .lit (.int .u8 46), .lit (.int .u8 35), .lit (.int .u8 44), .lit (.int .u8 21), .lit (.int .u8 52), .lit (.int .u8 32), .lit (.int .u8 23), .lit (.int .u8 11), .lit (.int .u8 54), .lit (.int .u8 26), .lit (.int .u8 40), .lit (.int .u8 15), .lit (.int .u8 34), .lit (.int .u8 20), .lit (.int .u8 31), .lit (.int .u8 10), .lit (.int .u8 25), .lit (.int .u8 14), .lit (.int .u8 19), .lit (.int .u8 9), .lit (.int .u8 13), .lit (.int .u8 8), .lit (.int .u8 7), .lit (.int .u8 6)]

/-- 'trefoillaw04.DagChecks': WHATEVER THE INPUT: true; the input reads as it did. -/
def dagChecksSpec : ChangeSpec := { name := "dagChecks", fn := fun _ => fun
  | [d1, d2] => { results := [.lit (.bool true)], args := [d1, d2] }
  | _ => none }
def dagChecksRow : OpenClaim := { program := "ytmgfbpnphdkgiaadoor", sum := "e60868876383f3b06607dcbefa55214a94374dee2a3005f9c5ef0a02b6f43d09", func := "trefoil/trefoillaw04.DagChecks", spec := "dagChecks", unfollowed := true, recurses := true, named := ["math/bits.deBruijn64tab"], apart := false, laid := [("math/bits.deBruijn64tab", laid_math_bits_deBruijn64tab)] }
def DagChecksSaid : Prop := dagChecksRow.holds Tryd.pinned (OpenSpec.ofChange dagChecksSpec)

/-- ITS FALSE NEIGHBOUR: 'it returns false'. Refute it at one input. -/
def dagChecksWrong : ChangeSpec := { name := "dagChecks", fn := fun _ => fun
  | [d1, d2] => { results := [.lit (.bool false)], args := [d1, d2] }
  | _ => none }
def DagChecksWrongFalsely : Prop := dagChecksRow.holds Tryd.pinned (OpenSpec.ofChange dagChecksWrong)

/-- 'trefoillaw04.DagTells': WHATEVER THE INPUT: true; the input reads as it did. -/
def dagTellsSpec : ChangeSpec := { name := "dagTells", fn := fun _ => fun
  | [d1, d2, d3] => { results := [.lit (.bool true)], args := [d1, d2, d3] }
  | _ => none }
def dagTellsRow : OpenClaim := { program := "ytmgfbpnphdkgiaadoor", sum := "e60868876383f3b06607dcbefa55214a94374dee2a3005f9c5ef0a02b6f43d09", func := "trefoil/trefoillaw04.DagTells", spec := "dagTells", unfollowed := true, recurses := true, named := ["math/bits.deBruijn64tab"], apart := false, laid := [("math/bits.deBruijn64tab", laid_math_bits_deBruijn64tab)] }
def DagTellsSaid : Prop := dagTellsRow.holds Tryd.pinned (OpenSpec.ofChange dagTellsSpec)

/-- ITS FALSE NEIGHBOUR: 'it returns false'. Refute it at one input. -/
def dagTellsWrong : ChangeSpec := { name := "dagTells", fn := fun _ => fun
  | [d1, d2, d3] => { results := [.lit (.bool false)], args := [d1, d2, d3] }
  | _ => none }
def DagTellsWrongFalsely : Prop := dagTellsRow.holds Tryd.pinned (OpenSpec.ofChange dagTellsWrong)

/-- 'trefoillaw04.DagOrder': WHATEVER THE INPUT: true; the input reads as it did. -/
def dagOrderSpec : ChangeSpec := { name := "dagOrder", fn := fun _ => fun
  | [d] => { results := [.lit (.bool true)], args := [d] }
  | _ => none }
def dagOrderRow : OpenClaim := { program := "ytmgfbpnphdkgiaadoor", sum := "e60868876383f3b06607dcbefa55214a94374dee2a3005f9c5ef0a02b6f43d09", func := "trefoil/trefoillaw04.DagOrder", spec := "dagOrder", unfollowed := true, recurses := true, named := ["math/bits.deBruijn64tab"], apart := false, laid := [("math/bits.deBruijn64tab", laid_math_bits_deBruijn64tab)] }
def DagOrderSaid : Prop := dagOrderRow.holds Tryd.pinned (OpenSpec.ofChange dagOrderSpec)

/-- ITS FALSE NEIGHBOUR: 'it returns false'. Refute it at one input. -/
def dagOrderWrong : ChangeSpec := { name := "dagOrder", fn := fun _ => fun
  | [d] => { results := [.lit (.bool false)], args := [d] }
  | _ => none }
def DagOrderWrongFalsely : Prop := dagOrderRow.holds Tryd.pinned (OpenSpec.ofChange dagOrderWrong)

/-- 'trefoillaw04.DagLong': WHATEVER THE INPUT: true; the input reads as it did. -/
def dagLongSpec : ChangeSpec := { name := "dagLong", fn := fun _ => fun
  | [d1, d2] => { results := [.lit (.bool true)], args := [d1, d2] }
  | _ => none }
def dagLongRow : OpenClaim := { program := "ytmgfbpnphdkgiaadoor", sum := "e60868876383f3b06607dcbefa55214a94374dee2a3005f9c5ef0a02b6f43d09", func := "trefoil/trefoillaw04.DagLong", spec := "dagLong", unfollowed := true, recurses := true, named := ["math/bits.deBruijn64tab"], apart := false, laid := [("math/bits.deBruijn64tab", laid_math_bits_deBruijn64tab)] }
def DagLongSaid : Prop := dagLongRow.holds Tryd.pinned (OpenSpec.ofChange dagLongSpec)

/-- ITS FALSE NEIGHBOUR: 'it returns false'. Refute it at one input. -/
def dagLongWrong : ChangeSpec := { name := "dagLong", fn := fun _ => fun
  | [d1, d2] => { results := [.lit (.bool false)], args := [d1, d2] }
  | _ => none }
def DagLongWrongFalsely : Prop := dagLongRow.holds Tryd.pinned (OpenSpec.ofChange dagLongWrong)

/-- 'trefoillaw04.DagBefore': WHATEVER THE INPUT: true; the input reads as it did. -/
def dagBeforeSpec : ChangeSpec := { name := "dagBefore", fn := fun _ => fun
  | [d1, d2, d3, d4] => { results := [.lit (.bool true)], args := [d1, d2, d3, d4] }
  | _ => none }
def dagBeforeRow : OpenClaim := { program := "ytmgfbpnphdkgiaadoor", sum := "e60868876383f3b06607dcbefa55214a94374dee2a3005f9c5ef0a02b6f43d09", func := "trefoil/trefoillaw04.DagBefore", spec := "dagBefore", unfollowed := true, recurses := true, named := ["math/bits.deBruijn64tab"], apart := false, laid := [("math/bits.deBruijn64tab", laid_math_bits_deBruijn64tab)] }
def DagBeforeSaid : Prop := dagBeforeRow.holds Tryd.pinned (OpenSpec.ofChange dagBeforeSpec)

/-- ITS FALSE NEIGHBOUR: 'it returns false'. Refute it at one input. -/
def dagBeforeWrong : ChangeSpec := { name := "dagBefore", fn := fun _ => fun
  | [d1, d2, d3, d4] => { results := [.lit (.bool false)], args := [d1, d2, d3, d4] }
  | _ => none }
def DagBeforeWrongFalsely : Prop := dagBeforeRow.holds Tryd.pinned (OpenSpec.ofChange dagBeforeWrong)

/-- 'trefoillaw04.DagRounds': WHATEVER THE INPUT: true; the input reads as it did. -/
def dagRoundsSpec : ChangeSpec := { name := "dagRounds", fn := fun _ => fun
  | [d1, d2, d3] => { results := [.lit (.bool true)], args := [d1, d2, d3] }
  | _ => none }
def dagRoundsRow : OpenClaim := { program := "ytmgfbpnphdkgiaadoor", sum := "e60868876383f3b06607dcbefa55214a94374dee2a3005f9c5ef0a02b6f43d09", func := "trefoil/trefoillaw04.DagRounds", spec := "dagRounds", unfollowed := true, recurses := true, named := ["math/bits.deBruijn64tab"], apart := false, laid := [("math/bits.deBruijn64tab", laid_math_bits_deBruijn64tab)] }
def DagRoundsSaid : Prop := dagRoundsRow.holds Tryd.pinned (OpenSpec.ofChange dagRoundsSpec)

/-- ITS FALSE NEIGHBOUR: 'it returns false'. Refute it at one input. -/
def dagRoundsWrong : ChangeSpec := { name := "dagRounds", fn := fun _ => fun
  | [d1, d2, d3] => { results := [.lit (.bool false)], args := [d1, d2, d3] }
  | _ => none }
def DagRoundsWrongFalsely : Prop := dagRoundsRow.holds Tryd.pinned (OpenSpec.ofChange dagRoundsWrong)

/-- 'trefoillaw04.DagLess': WHATEVER THE INPUT: true; the input reads as it did. -/
def dagLessSpec : ChangeSpec := { name := "dagLess", fn := fun _ => fun
  | [d1, d2] => { results := [.lit (.bool true)], args := [d1, d2] }
  | _ => none }
def dagLessRow : OpenClaim := { program := "ytmgfbpnphdkgiaadoor", sum := "e60868876383f3b06607dcbefa55214a94374dee2a3005f9c5ef0a02b6f43d09", func := "trefoil/trefoillaw04.DagLess", spec := "dagLess", unfollowed := true, recurses := true, named := ["math/bits.deBruijn64tab"], apart := false, laid := [("math/bits.deBruijn64tab", laid_math_bits_deBruijn64tab)] }
def DagLessSaid : Prop := dagLessRow.holds Tryd.pinned (OpenSpec.ofChange dagLessSpec)

/-- ITS FALSE NEIGHBOUR: 'it returns false'. Refute it at one input. -/
def dagLessWrong : ChangeSpec := { name := "dagLess", fn := fun _ => fun
  | [d1, d2] => { results := [.lit (.bool false)], args := [d1, d2] }
  | _ => none }
def DagLessWrongFalsely : Prop := dagLessRow.holds Tryd.pinned (OpenSpec.ofChange dagLessWrong)

/- THE SECOND FORM. 'bulk': how many values and letters a reading holds, each counted each time it is reached (what is shared counts as often as it is met; a slice's spare places count too). A statement '..UptoSaid' is the law's where the arguments, and the package variables that the reading takes, are together of bulk at most 1048576: NARROWER than '..Said'. Prove '..Said' where nothing that the law and all that it calls make is longer than what came in: it says more and counts as full. Else prove '..UptoSaid'. A law counts once. -/
mutual
def uptoBulk {H : Type} : DataW H → Nat
  | .lit (.string bytes) => bytes.length + 1
  | .lit _ => 1
  | .nil => 1
  | .ptr d => uptoBulk d + 1
  | .slice elems spare => uptoBulkAll elems + uptoBulkAll spare + 1
  | .agg parts => uptoBulkAll parts + 1
  | .iface _ d => uptoBulk d + 1
  | .map entries => uptoBulkEntries entries + 1
  | .held _ => 1
def uptoBulkAll {H : Type} : List (DataW H) → Nat
  | [] => 0
  | d :: r => uptoBulk d + uptoBulkAll r
def uptoBulkEntries {H : Type} : List (Lit × DataW H) → Nat
  | [] => 0
  | x :: r => uptoBulkEntry x + uptoBulkEntries r
def uptoBulkEntry {H : Type} : Lit × DataW H → Nat
  | (.string bytes, d) => bytes.length + uptoBulk d + 1
  | (_, d) => uptoBulk d + 1
 end
def uptoSmall : (H : Type) → List (DataW H) → Bool := fun _ ds => decide (uptoBulkAll ds ≤ 1048576)
def OpenSpec.upto (s : _root_.Go.ChangeSpec) : _root_.Go.OpenSpec := { _root_.Go.OpenSpec.ofChange s with cond := some uptoSmall }

/-- 'trefoillaw04.DagChecks', WHERE WHAT IT READS IS OF BULK AT MOST 1048576: true; the input reads as it did. -/
def dagChecksUptoRow : OpenClaim := { program := "ytmgfbpnphdkgiaadoor", sum := "e60868876383f3b06607dcbefa55214a94374dee2a3005f9c5ef0a02b6f43d09", func := "trefoil/trefoillaw04.DagChecks", spec := "dagChecks", unfollowed := true, recurses := true, named := ["math/bits.deBruijn64tab"], apart := false, laid := [("math/bits.deBruijn64tab", laid_math_bits_deBruijn64tab)], narrowed := true }
def DagChecksUptoSaid : Prop := dagChecksUptoRow.holds Tryd.pinned (OpenSpec.upto dagChecksSpec)

/-- 'trefoillaw04.DagTells', WHERE WHAT IT READS IS OF BULK AT MOST 1048576: true; the input reads as it did. -/
def dagTellsUptoRow : OpenClaim := { program := "ytmgfbpnphdkgiaadoor", sum := "e60868876383f3b06607dcbefa55214a94374dee2a3005f9c5ef0a02b6f43d09", func := "trefoil/trefoillaw04.DagTells", spec := "dagTells", unfollowed := true, recurses := true, named := ["math/bits.deBruijn64tab"], apart := false, laid := [("math/bits.deBruijn64tab", laid_math_bits_deBruijn64tab)], narrowed := true }
def DagTellsUptoSaid : Prop := dagTellsUptoRow.holds Tryd.pinned (OpenSpec.upto dagTellsSpec)

/-- 'trefoillaw04.DagOrder', WHERE WHAT IT READS IS OF BULK AT MOST 1048576: true; the input reads as it did. -/
def dagOrderUptoRow : OpenClaim := { program := "ytmgfbpnphdkgiaadoor", sum := "e60868876383f3b06607dcbefa55214a94374dee2a3005f9c5ef0a02b6f43d09", func := "trefoil/trefoillaw04.DagOrder", spec := "dagOrder", unfollowed := true, recurses := true, named := ["math/bits.deBruijn64tab"], apart := false, laid := [("math/bits.deBruijn64tab", laid_math_bits_deBruijn64tab)], narrowed := true }
def DagOrderUptoSaid : Prop := dagOrderUptoRow.holds Tryd.pinned (OpenSpec.upto dagOrderSpec)

/-- 'trefoillaw04.DagLong', WHERE WHAT IT READS IS OF BULK AT MOST 1048576: true; the input reads as it did. -/
def dagLongUptoRow : OpenClaim := { program := "ytmgfbpnphdkgiaadoor", sum := "e60868876383f3b06607dcbefa55214a94374dee2a3005f9c5ef0a02b6f43d09", func := "trefoil/trefoillaw04.DagLong", spec := "dagLong", unfollowed := true, recurses := true, named := ["math/bits.deBruijn64tab"], apart := false, laid := [("math/bits.deBruijn64tab", laid_math_bits_deBruijn64tab)], narrowed := true }
def DagLongUptoSaid : Prop := dagLongUptoRow.holds Tryd.pinned (OpenSpec.upto dagLongSpec)

/-- 'trefoillaw04.DagBefore', WHERE WHAT IT READS IS OF BULK AT MOST 1048576: true; the input reads as it did. -/
def dagBeforeUptoRow : OpenClaim := { program := "ytmgfbpnphdkgiaadoor", sum := "e60868876383f3b06607dcbefa55214a94374dee2a3005f9c5ef0a02b6f43d09", func := "trefoil/trefoillaw04.DagBefore", spec := "dagBefore", unfollowed := true, recurses := true, named := ["math/bits.deBruijn64tab"], apart := false, laid := [("math/bits.deBruijn64tab", laid_math_bits_deBruijn64tab)], narrowed := true }
def DagBeforeUptoSaid : Prop := dagBeforeUptoRow.holds Tryd.pinned (OpenSpec.upto dagBeforeSpec)

/-- 'trefoillaw04.DagRounds', WHERE WHAT IT READS IS OF BULK AT MOST 1048576: true; the input reads as it did. -/
def dagRoundsUptoRow : OpenClaim := { program := "ytmgfbpnphdkgiaadoor", sum := "e60868876383f3b06607dcbefa55214a94374dee2a3005f9c5ef0a02b6f43d09", func := "trefoil/trefoillaw04.DagRounds", spec := "dagRounds", unfollowed := true, recurses := true, named := ["math/bits.deBruijn64tab"], apart := false, laid := [("math/bits.deBruijn64tab", laid_math_bits_deBruijn64tab)], narrowed := true }
def DagRoundsUptoSaid : Prop := dagRoundsUptoRow.holds Tryd.pinned (OpenSpec.upto dagRoundsSpec)

/-- 'trefoillaw04.DagLess', WHERE WHAT IT READS IS OF BULK AT MOST 1048576: true; the input reads as it did. -/
def dagLessUptoRow : OpenClaim := { program := "ytmgfbpnphdkgiaadoor", sum := "e60868876383f3b06607dcbefa55214a94374dee2a3005f9c5ef0a02b6f43d09", func := "trefoil/trefoillaw04.DagLess", spec := "dagLess", unfollowed := true, recurses := true, named := ["math/bits.deBruijn64tab"], apart := false, laid := [("math/bits.deBruijn64tab", laid_math_bits_deBruijn64tab)], narrowed := true }
def DagLessUptoSaid : Prop := dagLessUptoRow.holds Tryd.pinned (OpenSpec.upto dagLessSpec)

end Rows
end Go.Proofs.YtmgfbpnphdkgiaaDoor
