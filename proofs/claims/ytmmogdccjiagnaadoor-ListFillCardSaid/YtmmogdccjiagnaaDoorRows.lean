/-
  NARROWER THAN 'FOR EVERY INPUT', by the rows' own cells (each row's printed sentence says how): ListSteps: laid · ListRuns: laid · ListSched: laid · ListFill: laid · ListTick: laid · ListOne: laid.
  DERIVED. THE GIVEN ROWS OF THIS SEAT. 6 by the template 'for every input the law returns true; each argument reads behind the call as it read before'; 0 by the template 'total and deterministic' (their statements: YtmmogdccjiagnaaDoorTotals.lean).
  GIVEN WITH THE SEED: the statements are not yours to turn. If you find one false, say at which input.
  Laid BY PROGRAM, IN A SANDBOX (cutbox-rows.mjs): the forced cells as the released guide's own fill.sh prints them over the translation aa84b84e6cc4e6e9… (all of the seat's roots in one cut). By AI agents, Wed Nov 11 2026. No macro, syntax, notation, axiom, sorry.
-/
import Derived.Test.YtmmogdccjiagnaaDoorChecked
import GoSem.Claim
import GoSem.ClaimJoined
import GoSem.ClaimMapViews
import Derived.JoinedTies
import Derived.KernelRfl
namespace Go.Proofs.YtmmogdccjiagnaaDoor
/- THE CELL 'sum', in the pinned program and in every row, IS THE sha256 OF THE DUMP (.gsa) THAT YtmmogdccjiagnaaDoorProg.lean LOADS. Nothing in Lean hashes anything: it is a label: what it is worth is what the hold of that sum in a sandbox is worth. -/
noncomputable def Tryd.pinned : Pinned := { name := "ytmmogdccjiagnaadoor", sum := "aa84b84e6cc4e6e949d47b69b68aa1b3928fa6c096baedc9d5b5e60c1494857e", checked := Tryd.checked }
namespace Rows
def none {H : Type} : Left H := { results := [], args := [] }

/- WHAT THE LISTED PACKAGE-LEVEL VARIABLES READ AS WHEN THE CALL BEGINS. Each datum BY PROGRAM (the guide's laid-datum.mjs) off the statement by which the dump's own 'gosem.cut.vars' lays the variable. In a bare row this is a premise. The card (YtmmogdccjiagnaaDoorCards.lean) ties it to the program's text. -/
def laid_math_bits_deBruijn64tab {H : Type} : DataW H := .agg [.lit (.int .u8 0), .lit (.int .u8 1), .lit (.int .u8 56), .lit (.int .u8 2), .lit (.int .u8 57), .lit (.int .u8 49), .lit (.int .u8 28), .lit (.int .u8 3), .lit (.int .u8 61), .lit (.int .u8 58), .lit (.int .u8 42), .lit (.int .u8 50), .lit (.int .u8 38), .lit (.int .u8 29), .lit (.int .u8 17), .lit (.int .u8 4), .lit (.int .u8 62), .lit (.int .u8 47), .lit (.int .u8 59), .lit (.int .u8 36), .lit (.int .u8 45), .lit (.int .u8 43), .lit (.int .u8 51), .lit (.int .u8 22), .lit (.int .u8 53), .lit (.int .u8 39), .lit (.int .u8 33), .lit (.int .u8 30), .lit (.int .u8 24), .lit (.int .u8 18), .lit (.int .u8 12), .lit (.int .u8 5), .lit (.int .u8 63), .lit (.int .u8 55), .lit (.int .u8 48), .lit (.int .u8 27), .lit (.int .u8 60), .lit (.int .u8 41), .lit (.int .u8 37), .lit (.int .u8 16), .lit (.int .u8 46), .lit (.int .u8 35), .lit (.int .u8 44), .lit (.int .u8 21), .lit (.int .u8 52), .lit (.int .u8 32), .lit (.int .u8 23), .lit (.int .u8 11), .lit (.int .u8 54), .lit (.int .u8 26), .lit (.int .u8 40), .lit (.int .u8 15), .lit (.int .u8 34), .lit (.int .u8 20), .lit (.int .u8 31), .lit (.int .u8 10), .lit (.int .u8 25), .lit (.int .u8 14), .lit (.int .u8 19), .lit (.int .u8 9), .lit (.int .u8 13), .lit (.int .u8 8), .lit (.int .u8 7), .lit (.int .u8 6)]

/-- 'trefoillaw11.ListSteps': WHATEVER THE INPUT: true; the input reads as it did. -/
def listStepsSpec : ChangeSpec := { name := "listSteps", fn := fun _ => fun
  | [d1, d2, d3] => { results := [.lit (.bool true)], args := [d1, d2, d3] }
  | _ => none }
def listStepsRow : OpenClaim := { program := "ytmmogdccjiagnaadoor", sum := "aa84b84e6cc4e6e949d47b69b68aa1b3928fa6c096baedc9d5b5e60c1494857e", func := "trefoil/trefoillaw11.ListSteps", spec := "listSteps", unfollowed := true, recurses := true, named := ["math/bits.deBruijn64tab"], apart := false, laid := [("math/bits.deBruijn64tab", laid_math_bits_deBruijn64tab)] }
def ListStepsSaid : Prop := listStepsRow.holds Tryd.pinned (OpenSpec.ofChange listStepsSpec)

/-- ITS FALSE NEIGHBOUR: 'it returns false'. Refute it at one input. -/
def listStepsWrong : ChangeSpec := { name := "listSteps", fn := fun _ => fun
  | [d1, d2, d3] => { results := [.lit (.bool false)], args := [d1, d2, d3] }
  | _ => none }
def ListStepsWrongFalsely : Prop := listStepsRow.holds Tryd.pinned (OpenSpec.ofChange listStepsWrong)

/-- 'trefoillaw11.ListRuns': WHATEVER THE INPUT: true; the input reads as it did. -/
def listRunsSpec : ChangeSpec := { name := "listRuns", fn := fun _ => fun
  | [d1, d2, d3] => { results := [.lit (.bool true)], args := [d1, d2, d3] }
  | _ => none }
def listRunsRow : OpenClaim := { program := "ytmmogdccjiagnaadoor", sum := "aa84b84e6cc4e6e949d47b69b68aa1b3928fa6c096baedc9d5b5e60c1494857e", func := "trefoil/trefoillaw11.ListRuns", spec := "listRuns", unfollowed := true, recurses := true, named := ["math/bits.deBruijn64tab"], apart := false, laid := [("math/bits.deBruijn64tab", laid_math_bits_deBruijn64tab)] }
def ListRunsSaid : Prop := listRunsRow.holds Tryd.pinned (OpenSpec.ofChange listRunsSpec)

/-- ITS FALSE NEIGHBOUR: 'it returns false'. Refute it at one input. -/
def listRunsWrong : ChangeSpec := { name := "listRuns", fn := fun _ => fun
  | [d1, d2, d3] => { results := [.lit (.bool false)], args := [d1, d2, d3] }
  | _ => none }
def ListRunsWrongFalsely : Prop := listRunsRow.holds Tryd.pinned (OpenSpec.ofChange listRunsWrong)

/-- 'trefoillaw11.ListSched': WHATEVER THE INPUT: true; the input reads as it did. -/
def listSchedSpec : ChangeSpec := { name := "listSched", fn := fun _ => fun
  | [d1, d2, d3] => { results := [.lit (.bool true)], args := [d1, d2, d3] }
  | _ => none }
def listSchedRow : OpenClaim := { program := "ytmmogdccjiagnaadoor", sum := "aa84b84e6cc4e6e949d47b69b68aa1b3928fa6c096baedc9d5b5e60c1494857e", func := "trefoil/trefoillaw11.ListSched", spec := "listSched", unfollowed := true, recurses := true, named := ["math/bits.deBruijn64tab"], apart := false, laid := [("math/bits.deBruijn64tab", laid_math_bits_deBruijn64tab)] }
def ListSchedSaid : Prop := listSchedRow.holds Tryd.pinned (OpenSpec.ofChange listSchedSpec)

/-- ITS FALSE NEIGHBOUR: 'it returns false'. Refute it at one input. -/
def listSchedWrong : ChangeSpec := { name := "listSched", fn := fun _ => fun
  | [d1, d2, d3] => { results := [.lit (.bool false)], args := [d1, d2, d3] }
  | _ => none }
def ListSchedWrongFalsely : Prop := listSchedRow.holds Tryd.pinned (OpenSpec.ofChange listSchedWrong)

/-- 'trefoillaw11.ListFill': WHATEVER THE INPUT: true; the input reads as it did. -/
def listFillSpec : ChangeSpec := { name := "listFill", fn := fun _ => fun
  | [d1, d2] => { results := [.lit (.bool true)], args := [d1, d2] }
  | _ => none }
def listFillRow : OpenClaim := { program := "ytmmogdccjiagnaadoor", sum := "aa84b84e6cc4e6e949d47b69b68aa1b3928fa6c096baedc9d5b5e60c1494857e", func := "trefoil/trefoillaw11.ListFill", spec := "listFill", unfollowed := true, recurses := true, named := ["math/bits.deBruijn64tab"], apart := false, laid := [("math/bits.deBruijn64tab", laid_math_bits_deBruijn64tab)] }
def ListFillSaid : Prop := listFillRow.holds Tryd.pinned (OpenSpec.ofChange listFillSpec)

/-- ITS FALSE NEIGHBOUR: 'it returns false'. Refute it at one input. -/
def listFillWrong : ChangeSpec := { name := "listFill", fn := fun _ => fun
  | [d1, d2] => { results := [.lit (.bool false)], args := [d1, d2] }
  | _ => none }
def ListFillWrongFalsely : Prop := listFillRow.holds Tryd.pinned (OpenSpec.ofChange listFillWrong)

/-- 'trefoillaw11.ListTick': WHATEVER THE INPUT: true; the input reads as it did. -/
def listTickSpec : ChangeSpec := { name := "listTick", fn := fun _ => fun
  | [d1, d2] => { results := [.lit (.bool true)], args := [d1, d2] }
  | _ => none }
def listTickRow : OpenClaim := { program := "ytmmogdccjiagnaadoor", sum := "aa84b84e6cc4e6e949d47b69b68aa1b3928fa6c096baedc9d5b5e60c1494857e", func := "trefoil/trefoillaw11.ListTick", spec := "listTick", unfollowed := true, recurses := true, named := ["math/bits.deBruijn64tab"], apart := false, laid := [("math/bits.deBruijn64tab", laid_math_bits_deBruijn64tab)] }
def ListTickSaid : Prop := listTickRow.holds Tryd.pinned (OpenSpec.ofChange listTickSpec)

/-- ITS FALSE NEIGHBOUR: 'it returns false'. Refute it at one input. -/
def listTickWrong : ChangeSpec := { name := "listTick", fn := fun _ => fun
  | [d1, d2] => { results := [.lit (.bool false)], args := [d1, d2] }
  | _ => none }
def ListTickWrongFalsely : Prop := listTickRow.holds Tryd.pinned (OpenSpec.ofChange listTickWrong)

/-- 'trefoillaw11.ListOne': WHATEVER THE INPUT: true; the input reads as it did. -/
def listOneSpec : ChangeSpec := { name := "listOne", fn := fun _ => fun
  | [d1, d2] => { results := [.lit (.bool true)], args := [d1, d2] }
  | _ => none }
def listOneRow : OpenClaim := { program := "ytmmogdccjiagnaadoor", sum := "aa84b84e6cc4e6e949d47b69b68aa1b3928fa6c096baedc9d5b5e60c1494857e", func := "trefoil/trefoillaw11.ListOne", spec := "listOne", unfollowed := true, recurses := true, named := ["math/bits.deBruijn64tab"], apart := false, laid := [("math/bits.deBruijn64tab", laid_math_bits_deBruijn64tab)] }
def ListOneSaid : Prop := listOneRow.holds Tryd.pinned (OpenSpec.ofChange listOneSpec)

/-- ITS FALSE NEIGHBOUR: 'it returns false'. Refute it at one input. -/
def listOneWrong : ChangeSpec := { name := "listOne", fn := fun _ => fun
  | [d1, d2] => { results := [.lit (.bool false)], args := [d1, d2] }
  | _ => none }
def ListOneWrongFalsely : Prop := listOneRow.holds Tryd.pinned (OpenSpec.ofChange listOneWrong)

/- THE SECOND FORM. 'bulk': how many values and letters a reading holds, each counted each time it is reached (what is shared counts as often as it is met; a slice's spare places count too). A statement '..UptoSaid' is the law's where the arguments, and the package variables that the reading takes, are together of bulk at most 1048576: NARROWER than '..Said'. Prove '..Said' where nothing that the law and all that it calls make is longer than what came in: it says more and counts as full. Else prove '..UptoSaid'. A law counts once. -/
mutual
def uptoBulk {H : Type} : DataW H → Nat
  | .lit (.string bytes) => bytes.length + 1
  | .lit _ => 1
  | .nil => 1
  | .ptr d => uptoBulk d + 1
  | .slice elems spare => uptoBulkAll elems + uptoBulkAll spare + 1
  | .agg parts => uptoBulkAll parts + 1
  | .iface _ d => uptoBulk d + 1
  | .map entries => uptoBulkEntries entries + 1
  | .held _ => 1
def uptoBulkAll {H : Type} : List (DataW H) → Nat
  | [] => 0
  | d :: r => uptoBulk d + uptoBulkAll r
def uptoBulkEntries {H : Type} : List (Lit × DataW H) → Nat
  | [] => 0
  | x :: r => uptoBulkEntry x + uptoBulkEntries r
def uptoBulkEntry {H : Type} : Lit × DataW H → Nat
  | (.string bytes, d) => bytes.length + uptoBulk d + 1
  | (_, d) => uptoBulk d + 1
 end
def uptoSmall : (H : Type) → List (DataW H) → Bool := fun _ ds => decide (uptoBulkAll ds ≤ 1048576)
def OpenSpec.upto (s : _root_.Go.ChangeSpec) : _root_.Go.OpenSpec := { _root_.Go.OpenSpec.ofChange s with cond := some uptoSmall }

/-- 'trefoillaw11.ListSteps', WHERE WHAT IT READS IS OF BULK AT MOST 1048576: true; the input reads as it did. -/
def listStepsUptoRow : OpenClaim := { program := "ytmmogdccjiagnaadoor", sum := "aa84b84e6cc4e6e949d47b69b68aa1b3928fa6c096baedc9d5b5e60c1494857e", func := "trefoil/trefoillaw11.ListSteps", spec := "listSteps", unfollowed := true, recurses := true, named := ["math/bits.deBruijn64tab"], apart := false, laid := [("math/bits.deBruijn64tab", laid_math_bits_deBruijn64tab)], narrowed := true }
def ListStepsUptoSaid : Prop := listStepsUptoRow.holds Tryd.pinned (OpenSpec.upto listStepsSpec)

/-- 'trefoillaw11.ListRuns', WHERE WHAT IT READS IS OF BULK AT MOST 1048576: true; the input reads as it did. -/
def listRunsUptoRow : OpenClaim := { program := "ytmmogdccjiagnaadoor", sum := "aa84b84e6cc4e6e949d47b69b68aa1b3928fa6c096baedc9d5b5e60c1494857e", func := "trefoil/trefoillaw11.ListRuns", spec := "listRuns", unfollowed := true, recurses := true, named := ["math/bits.deBruijn64tab"], apart := false, laid := [("math/bits.deBruijn64tab", laid_math_bits_deBruijn64tab)], narrowed := true }
def ListRunsUptoSaid : Prop := listRunsUptoRow.holds Tryd.pinned (OpenSpec.upto listRunsSpec)

/-- 'trefoillaw11.ListSched', WHERE WHAT IT READS IS OF BULK AT MOST 1048576: true; the input reads as it did. -/
def listSchedUptoRow : OpenClaim := { program := "ytmmogdccjiagnaadoor", sum := "aa84b84e6cc4e6e949d47b69b68aa1b3928fa6c096baedc9d5b5e60c1494857e", func := "trefoil/trefoillaw11.ListSched", spec := "listSched", unfollowed := true, recurses := true, named := ["math/bits.deBruijn64tab"], apart := false, laid := [("math/bits.deBruijn64tab", laid_math_bits_deBruijn64tab)], narrowed := true }
def ListSchedUptoSaid : Prop := listSchedUptoRow.holds Tryd.pinned (OpenSpec.upto listSchedSpec)

/-- 'trefoillaw11.ListFill', WHERE WHAT IT READS IS OF BULK AT MOST 1048576: true; the input reads as it did. -/
def listFillUptoRow : OpenClaim := { program := "ytmmogdccjiagnaadoor", sum := "aa84b84e6cc4e6e949d47b69b68aa1b3928fa6c096baedc9d5b5e60c1494857e", func := "trefoil/trefoillaw11.ListFill", spec := "listFill", unfollowed := true, recurses := true, named := ["math/bits.deBruijn64tab"], apart := false, laid := [("math/bits.deBruijn64tab", laid_math_bits_deBruijn64tab)], narrowed := true }
def ListFillUptoSaid : Prop := listFillUptoRow.holds Tryd.pinned (OpenSpec.upto listFillSpec)

/-- 'trefoillaw11.ListTick', WHERE WHAT IT READS IS OF BULK AT MOST 1048576: true; the input reads as it did. -/
def listTickUptoRow : OpenClaim := { program := "ytmmogdccjiagnaadoor", sum := "aa84b84e6cc4e6e949d47b69b68aa1b3928fa6c096baedc9d5b5e60c1494857e", func := "trefoil/trefoillaw11.ListTick", spec := "listTick", unfollowed := true, recurses := true, named := ["math/bits.deBruijn64tab"], apart := false, laid := [("math/bits.deBruijn64tab", laid_math_bits_deBruijn64tab)], narrowed := true }
def ListTickUptoSaid : Prop := listTickUptoRow.holds Tryd.pinned (OpenSpec.upto listTickSpec)

/-- 'trefoillaw11.ListOne', WHERE WHAT IT READS IS OF BULK AT MOST 1048576: true; the input reads as it did. -/
def listOneUptoRow : OpenClaim := { program := "ytmmogdccjiagnaadoor", sum := "aa84b84e6cc4e6e949d47b69b68aa1b3928fa6c096baedc9d5b5e60c1494857e", func := "trefoil/trefoillaw11.ListOne", spec := "listOne", unfollowed := true, recurses := true, named := ["math/bits.deBruijn64tab"], apart := false, laid := [("math/bits.deBruijn64tab", laid_math_bits_deBruijn64tab)], narrowed := true }
def ListOneUptoSaid : Prop := listOneUptoRow.holds Tryd.pinned (OpenSpec.upto listOneSpec)

end Rows
end Go.Proofs.YtmmogdccjiagnaaDoor
