/-
  NARROWER THAN 'FOR EVERY INPUT', by the rows' own cells (each row's printed sentence says how): SchedChecks: laid · SchedBounds: laid · SchedGraham: laid · SchedOrder: laid · SchedCuts: laid · SchedBusy: laid · SchedMore: laid.
  DERIVED. THE GIVEN ROWS OF THIS SEAT. 7 by the template 'for every input the law returns true; each argument reads behind the call as it read before'; 0 by the template 'total and deterministic' (their statements: YtpaambpajpmjdaaDoorTotals.lean).
  GIVEN WITH THE SEED: the statements are not yours to turn. If you find one false, say at which input.
  Laid BY PROGRAM, IN A SANDBOX (cutbox-rows.mjs): the forced cells as the released guide's own fill.sh prints them over the translation e0f6301fa7238045… (all of the seat's roots in one cut). By AI agents, Wed Nov 11 2026. No macro, syntax, notation, axiom, sorry.
-/
import Derived.Test.YtpaambpajpmjdaaDoorChecked
import GoSem.Claim
import GoSem.ClaimJoined
import GoSem.ClaimMapViews
import Derived.JoinedTies
import Derived.KernelRfl
namespace Go.Proofs.YtpaambpajpmjdaaDoor
/- THE CELL 'sum', in the pinned program and in every row, IS THE sha256 OF THE DUMP (.gsa) THAT YtpaambpajpmjdaaDoorProg.lean LOADS. Nothing in Lean hashes anything: it is a label: what it is worth is what the hold of that sum in a sandbox is worth. -/
noncomputable def Tryd.pinned : Pinned := { name := "ytpaambpajpmjdaadoor", sum := "e0f6301fa723804585a6a0147528a4d3817b0c600c1c1890e249ca54b2f8c9d0", checked := Tryd.checked }
namespace Rows
def none {H : Type} : Left H := { results := [], args := [] }

/- WHAT THE LISTED PACKAGE-LEVEL VARIABLES READ AS WHEN THE CALL BEGINS. Each datum BY PROGRAM (the guide's laid-datum.mjs) off the statement by which the dump's own 'gosem.cut.vars' lays the variable. In a bare row this is a premise. The card (YtpaambpajpmjdaaDoorCards.lean) ties it to the program's text. -/
def laid_math_bits_deBruijn64tab {H : Type} : DataW H := .agg [.lit (.int .u8 0), .lit (.int .u8 1), .lit (.int .u8 56), .lit (.int .u8 2), .lit (.int .u8 57), .lit (.int .u8 49), .lit (.int .u8 28), .lit (.int .u8 3), .lit (.int .u8 61), .lit (.int .u8 58), .lit (.int .u8 42), .lit (.int .u8 50), .lit (.int .u8 38), .lit (.int .u8 29), .lit (.int .u8 17), .lit (.int .u8 4), .lit (.int .u8 62), .lit (.int .u8 47), .lit (.int .u8 59), .lit (.int .u8 36), .lit (.int .u8 45), .lit (.int .u8 43), .lit (.int .u8 51), .lit (.int .u8 22), .lit (.int .u8 53), .lit (.int .u8 39), .lit (.int .u8 33), .lit (.int .u8 30), .lit (.int .u8 24), .lit (.int .u8 18), .lit (.int .u8 12), .lit (.int .u8 5), .lit (.int .u8 63), .lit (.int .u8 55), .lit (.int .u8 48), .lit (.int .u8 27), .lit (.int .u8 60), .lit (.int .u8 41), .lit (.int .u8 37), .lit (.int .u8 16), .lit (.int .u8 46), .lit (.int .u8 35), .lit (.int .u8 44), .lit (.int .u8 21), .lit (.int .u8 52), .lit (.int .u8 32), .lit (.int .u8 23), .lit (.int .u8 11), .lit (.int .u8 54), .lit (.int .u8 26), .lit (.int .u8 40), .lit (.int .u8 15), .lit (.int .u8 34), .lit (.int .u8 20), .lit (.int .u8 31), .lit (.int .u8 10), .lit (.int .u8 25), .lit (.int .u8 14), .lit (.int .u8 19), .lit (.int .u8 9), .lit (.int .u8 13), .lit (.int .u8 8), .lit (.int .u8 7), .lit (.int .u8 6)]

/-- 'trefoillaw10.SchedChecks': WHATEVER THE INPUT: true; the input reads as it did. -/
def schedChecksSpec : ChangeSpec := { name := "schedChecks", fn := fun _ => fun
  | [d1, d2, d3, d4] => { results := [.lit (.bool true)], args := [d1, d2, d3, d4] }
  | _ => none }
def schedChecksRow : OpenClaim := { program := "ytpaambpajpmjdaadoor", sum := "e0f6301fa723804585a6a0147528a4d3817b0c600c1c1890e249ca54b2f8c9d0", func := "trefoil/trefoillaw10.SchedChecks", spec := "schedChecks", unfollowed := true, recurses := true, named := ["math/bits.deBruijn64tab"], apart := false, laid := [("math/bits.deBruijn64tab", laid_math_bits_deBruijn64tab)] }
def SchedChecksSaid : Prop := schedChecksRow.holds Tryd.pinned (OpenSpec.ofChange schedChecksSpec)

/-- ITS FALSE NEIGHBOUR: 'it returns false'. Refute it at one input. -/
def schedChecksWrong : ChangeSpec := { name := "schedChecks", fn := fun _ => fun
  | [d1, d2, d3, d4] => { results := [.lit (.bool false)], args := [d1, d2, d3, d4] }
  | _ => none }
def SchedChecksWrongFalsely : Prop := schedChecksRow.holds Tryd.pinned (OpenSpec.ofChange schedChecksWrong)

/-- 'trefoillaw10.SchedBounds': WHATEVER THE INPUT: true; the input reads as it did. -/
def schedBoundsSpec : ChangeSpec := { name := "schedBounds", fn := fun _ => fun
  | [d1, d2, d3, d4] => { results := [.lit (.bool true)], args := [d1, d2, d3, d4] }
  | _ => none }
def schedBoundsRow : OpenClaim := { program := "ytpaambpajpmjdaadoor", sum := "e0f6301fa723804585a6a0147528a4d3817b0c600c1c1890e249ca54b2f8c9d0", func := "trefoil/trefoillaw10.SchedBounds", spec := "schedBounds", unfollowed := true, recurses := true, named := ["math/bits.deBruijn64tab"], apart := false, laid := [("math/bits.deBruijn64tab", laid_math_bits_deBruijn64tab)] }
def SchedBoundsSaid : Prop := schedBoundsRow.holds Tryd.pinned (OpenSpec.ofChange schedBoundsSpec)

/-- ITS FALSE NEIGHBOUR: 'it returns false'. Refute it at one input. -/
def schedBoundsWrong : ChangeSpec := { name := "schedBounds", fn := fun _ => fun
  | [d1, d2, d3, d4] => { results := [.lit (.bool false)], args := [d1, d2, d3, d4] }
  | _ => none }
def SchedBoundsWrongFalsely : Prop := schedBoundsRow.holds Tryd.pinned (OpenSpec.ofChange schedBoundsWrong)

/-- 'trefoillaw10.SchedGraham': WHATEVER THE INPUT: true; the input reads as it did. -/
def schedGrahamSpec : ChangeSpec := { name := "schedGraham", fn := fun _ => fun
  | [d1, d2, d3, d4] => { results := [.lit (.bool true)], args := [d1, d2, d3, d4] }
  | _ => none }
def schedGrahamRow : OpenClaim := { program := "ytpaambpajpmjdaadoor", sum := "e0f6301fa723804585a6a0147528a4d3817b0c600c1c1890e249ca54b2f8c9d0", func := "trefoil/trefoillaw10.SchedGraham", spec := "schedGraham", unfollowed := true, recurses := true, named := ["math/bits.deBruijn64tab"], apart := false, laid := [("math/bits.deBruijn64tab", laid_math_bits_deBruijn64tab)] }
def SchedGrahamSaid : Prop := schedGrahamRow.holds Tryd.pinned (OpenSpec.ofChange schedGrahamSpec)

/-- ITS FALSE NEIGHBOUR: 'it returns false'. Refute it at one input. -/
def schedGrahamWrong : ChangeSpec := { name := "schedGraham", fn := fun _ => fun
  | [d1, d2, d3, d4] => { results := [.lit (.bool false)], args := [d1, d2, d3, d4] }
  | _ => none }
def SchedGrahamWrongFalsely : Prop := schedGrahamRow.holds Tryd.pinned (OpenSpec.ofChange schedGrahamWrong)

/-- 'trefoillaw10.SchedOrder': WHATEVER THE INPUT: true; the input reads as it did. -/
def schedOrderSpec : ChangeSpec := { name := "schedOrder", fn := fun _ => fun
  | [d1, d2, d3, d4] => { results := [.lit (.bool true)], args := [d1, d2, d3, d4] }
  | _ => none }
def schedOrderRow : OpenClaim := { program := "ytpaambpajpmjdaadoor", sum := "e0f6301fa723804585a6a0147528a4d3817b0c600c1c1890e249ca54b2f8c9d0", func := "trefoil/trefoillaw10.SchedOrder", spec := "schedOrder", unfollowed := true, recurses := true, named := ["math/bits.deBruijn64tab"], apart := false, laid := [("math/bits.deBruijn64tab", laid_math_bits_deBruijn64tab)] }
def SchedOrderSaid : Prop := schedOrderRow.holds Tryd.pinned (OpenSpec.ofChange schedOrderSpec)

/-- ITS FALSE NEIGHBOUR: 'it returns false'. Refute it at one input. -/
def schedOrderWrong : ChangeSpec := { name := "schedOrder", fn := fun _ => fun
  | [d1, d2, d3, d4] => { results := [.lit (.bool false)], args := [d1, d2, d3, d4] }
  | _ => none }
def SchedOrderWrongFalsely : Prop := schedOrderRow.holds Tryd.pinned (OpenSpec.ofChange schedOrderWrong)

/-- 'trefoillaw10.SchedCuts': WHATEVER THE INPUT: true; the input reads as it did. -/
def schedCutsSpec : ChangeSpec := { name := "schedCuts", fn := fun _ => fun
  | [d1, d2, d3, d4, d5] => { results := [.lit (.bool true)], args := [d1, d2, d3, d4, d5] }
  | _ => none }
def schedCutsRow : OpenClaim := { program := "ytpaambpajpmjdaadoor", sum := "e0f6301fa723804585a6a0147528a4d3817b0c600c1c1890e249ca54b2f8c9d0", func := "trefoil/trefoillaw10.SchedCuts", spec := "schedCuts", unfollowed := true, recurses := true, named := ["math/bits.deBruijn64tab"], apart := false, laid := [("math/bits.deBruijn64tab", laid_math_bits_deBruijn64tab)] }
def SchedCutsSaid : Prop := schedCutsRow.holds Tryd.pinned (OpenSpec.ofChange schedCutsSpec)

/-- ITS FALSE NEIGHBOUR: 'it returns false'. Refute it at one input. -/
def schedCutsWrong : ChangeSpec := { name := "schedCuts", fn := fun _ => fun
  | [d1, d2, d3, d4, d5] => { results := [.lit (.bool false)], args := [d1, d2, d3, d4, d5] }
  | _ => none }
def SchedCutsWrongFalsely : Prop := schedCutsRow.holds Tryd.pinned (OpenSpec.ofChange schedCutsWrong)

/-- 'trefoillaw10.SchedBusy': WHATEVER THE INPUT: true; the input reads as it did. -/
def schedBusySpec : ChangeSpec := { name := "schedBusy", fn := fun _ => fun
  | [d1, d2, d3, d4] => { results := [.lit (.bool true)], args := [d1, d2, d3, d4] }
  | _ => none }
def schedBusyRow : OpenClaim := { program := "ytpaambpajpmjdaadoor", sum := "e0f6301fa723804585a6a0147528a4d3817b0c600c1c1890e249ca54b2f8c9d0", func := "trefoil/trefoillaw10.SchedBusy", spec := "schedBusy", unfollowed := true, recurses := true, named := ["math/bits.deBruijn64tab"], apart := false, laid := [("math/bits.deBruijn64tab", laid_math_bits_deBruijn64tab)] }
def SchedBusySaid : Prop := schedBusyRow.holds Tryd.pinned (OpenSpec.ofChange schedBusySpec)

/-- ITS FALSE NEIGHBOUR: 'it returns false'. Refute it at one input. -/
def schedBusyWrong : ChangeSpec := { name := "schedBusy", fn := fun _ => fun
  | [d1, d2, d3, d4] => { results := [.lit (.bool false)], args := [d1, d2, d3, d4] }
  | _ => none }
def SchedBusyWrongFalsely : Prop := schedBusyRow.holds Tryd.pinned (OpenSpec.ofChange schedBusyWrong)

/-- 'trefoillaw10.SchedMore': WHATEVER THE INPUT: true; the input reads as it did. -/
def schedMoreSpec : ChangeSpec := { name := "schedMore", fn := fun _ => fun
  | [d1, d2] => { results := [.lit (.bool true)], args := [d1, d2] }
  | _ => none }
def schedMoreRow : OpenClaim := { program := "ytpaambpajpmjdaadoor", sum := "e0f6301fa723804585a6a0147528a4d3817b0c600c1c1890e249ca54b2f8c9d0", func := "trefoil/trefoillaw10.SchedMore", spec := "schedMore", unfollowed := true, recurses := true, named := ["math/bits.deBruijn64tab"], apart := false, laid := [("math/bits.deBruijn64tab", laid_math_bits_deBruijn64tab)] }
def SchedMoreSaid : Prop := schedMoreRow.holds Tryd.pinned (OpenSpec.ofChange schedMoreSpec)

/-- ITS FALSE NEIGHBOUR: 'it returns false'. Refute it at one input. -/
def schedMoreWrong : ChangeSpec := { name := "schedMore", fn := fun _ => fun
  | [d1, d2] => { results := [.lit (.bool false)], args := [d1, d2] }
  | _ => none }
def SchedMoreWrongFalsely : Prop := schedMoreRow.holds Tryd.pinned (OpenSpec.ofChange schedMoreWrong)

/- THE SECOND FORM. 'bulk': how many values and letters a reading holds, each counted each time it is reached (what is shared counts as often as it is met; a slice's spare places count too). A statement '..UptoSaid' is the law's where the arguments, and the package variables that the reading takes, are together of bulk at most 1048576: NARROWER than '..Said'. Prove '..Said' where nothing that the law and all that it calls make is longer than what came in: it says more and counts as full. Else prove '..UptoSaid'. A law counts once. -/
mutual
def uptoBulk {H : Type} : DataW H → Nat
  | .lit (.string bytes) => bytes.length + 1
  | .lit _ => 1
  | .nil => 1
  | .ptr d => uptoBulk d + 1
  | .slice elems spare => uptoBulkAll elems + uptoBulkAll spare + 1
  | .agg parts => uptoBulkAll parts + 1
  | .iface _ d => uptoBulk d + 1
  | .map entries => uptoBulkEntries entries + 1
  | .held _ => 1
def uptoBulkAll {H : Type} : List (DataW H) → Nat
  | [] => 0
  | d :: r => uptoBulk d + uptoBulkAll r
def uptoBulkEntries {H : Type} : List (Lit × DataW H) → Nat
  | [] => 0
  | x :: r => uptoBulkEntry x + uptoBulkEntries r
def uptoBulkEntry {H : Type} : Lit × DataW H → Nat
  | (.string bytes, d) => bytes.length + uptoBulk d + 1
  | (_, d) => uptoBulk d + 1
 end
def uptoSmall : (H : Type) → List (DataW H) → Bool := fun _ ds => decide (uptoBulkAll ds ≤ 1048576)
def OpenSpec.upto (s : _root_.Go.ChangeSpec) : _root_.Go.OpenSpec := { _root_.Go.OpenSpec.ofChange s with cond := some uptoSmall }

/-- 'trefoillaw10.SchedChecks', WHERE WHAT IT READS IS OF BULK AT MOST 1048576: true; the input reads as it did. -/
def schedChecksUptoRow : OpenClaim := { program := "ytpaambpajpmjdaadoor", sum := "e0f6301fa723804585a6a0147528a4d3817b0c600c1c1890e249ca54b2f8c9d0", func := "trefoil/trefoillaw10.SchedChecks", spec := "schedChecks", unfollowed := true, recurses := true, named := ["math/bits.deBruijn64tab"], apart := false, laid := [("math/bits.deBruijn64tab", laid_math_bits_deBruijn64tab)], narrowed := true }
def SchedChecksUptoSaid : Prop := schedChecksUptoRow.holds Tryd.pinned (OpenSpec.upto schedChecksSpec)

/-- 'trefoillaw10.SchedBounds', WHERE WHAT IT READS IS OF BULK AT MOST 1048576: true; the input reads as it did. -/
def schedBoundsUptoRow : OpenClaim := { program := "ytpaambpajpmjdaadoor", sum := "e0f6301fa723804585a6a0147528a4d3817b0c600c1c1890e249ca54b2f8c9d0", func := "trefoil/trefoillaw10.SchedBounds", spec := "schedBounds", unfollowed := true, recurses := true, named := ["math/bits.deBruijn64tab"], apart := false, laid := [("math/bits.deBruijn64tab", laid_math_bits_deBruijn64tab)], narrowed := true }
def SchedBoundsUptoSaid : Prop := schedBoundsUptoRow.holds Tryd.pinned (OpenSpec.upto schedBoundsSpec)

/-- 'trefoillaw10.SchedGraham', WHERE WHAT IT READS IS OF BULK AT MOST 1048576: true; the input reads as it did. -/
def schedGrahamUptoRow : OpenClaim := { program := "ytpaambpajpmjdaadoor", sum := "e0f6301fa723804585a6a0147528a4d3817b0c600c1c1890e249ca54b2f8c9d0", func := "trefoil/trefoillaw10.SchedGraham", spec := "schedGraham", unfollowed := true, recurses := true, named := ["math/bits.deBruijn64tab"], apart := false, laid := [("math/bits.deBruijn64tab", laid_math_bits_deBruijn64tab)], narrowed := true }
def SchedGrahamUptoSaid : Prop := schedGrahamUptoRow.holds Tryd.pinned (OpenSpec.upto schedGrahamSpec)

/-- 'trefoillaw10.SchedOrder', WHERE WHAT IT READS IS OF BULK AT MOST 1048576: true; the input reads as it did. -/
def schedOrderUptoRow : OpenClaim := { program := "ytpaambpajpmjdaadoor", sum := "e0f6301fa723804585a6a0147528a4d3817b0c600c1c1890e249ca54b2f8c9d0", func := "trefoil/trefoillaw10.SchedOrder", spec := "schedOrder", unfollowed := true, recurses := true, named := ["math/bits.deBruijn64tab"], apart := false, laid := [("math/bits.deBruijn64tab", laid_math_bits_deBruijn64tab)], narrowed := true }
def SchedOrderUptoSaid : Prop := schedOrderUptoRow.holds Tryd.pinned (OpenSpec.upto schedOrderSpec)

/-- 'trefoillaw10.SchedCuts', WHERE WHAT IT READS IS OF BULK AT MOST 1048576: true; the input reads as it did. -/
def schedCutsUptoRow : OpenClaim := { program := "ytpaambpajpmjdaadoor", sum := "e0f6301fa723804585a6a0147528a4d3817b0c600c1c1890e249ca54b2f8c9d0", func := "trefoil/trefoillaw10.SchedCuts", spec := "schedCuts", unfollowed := true, recurses := true, named := ["math/bits.deBruijn64tab"], apart := false, laid := [("math/bits.deBruijn64tab", laid_math_bits_deBruijn64tab)], narrowed := true }
def SchedCutsUptoSaid : Prop := schedCutsUptoRow.holds Tryd.pinned (OpenSpec.upto schedCutsSpec)

/-- 'trefoillaw10.SchedBusy', WHERE WHAT IT READS IS OF BULK AT MOST 1048576: true; the input reads as it did. -/
def schedBusyUptoRow : OpenClaim := { program := "ytpaambpajpmjdaadoor", sum := "e0f6301fa723804585a6a0147528a4d3817b0c600c1c1890e249ca54b2f8c9d0", func := "trefoil/trefoillaw10.SchedBusy", spec := "schedBusy", unfollowed := true, recurses := true, named := ["math/bits.deBruijn64tab"], apart := false, laid := [("math/bits.deBruijn64tab", laid_math_bits_deBruijn64tab)], narrowed := true }
def SchedBusyUptoSaid : Prop := schedBusyUptoRow.holds Tryd.pinned (OpenSpec.upto schedBusySpec)

/-- 'trefoillaw10.SchedMore', WHERE WHAT IT READS IS OF BULK AT MOST 1048576: true; the input reads as it did. -/
def schedMoreUptoRow : OpenClaim := { program := "ytpaambpajpmjdaadoor", sum := "e0f6301fa723804585a6a0147528a4d3817b0c600c1c1890e249ca54b2f8c9d0", func := "trefoil/trefoillaw10.SchedMore", spec := "schedMore", unfollowed := true, recurses := true, named := ["math/bits.deBruijn64tab"], apart := false, laid := [("math/bits.deBruijn64tab", laid_math_bits_deBruijn64tab)], narrowed := true }
def SchedMoreUptoSaid : Prop := schedMoreUptoRow.holds Tryd.pinned (OpenSpec.upto schedMoreSpec)

end Rows
end Go.Proofs.YtpaambpajpmjdaaDoor
