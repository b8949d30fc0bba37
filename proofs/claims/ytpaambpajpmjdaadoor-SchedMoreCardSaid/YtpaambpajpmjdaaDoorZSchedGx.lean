/- What the operations of a drawn region of layer 10's laws have yielded: a graph, needs, a schedule of the call's own, in the seat YtpaambpajpmjdaaDoor. No statement is proved here. -/
import Derived.Test.YtpaambpajpmjdaaDoorZM19
import Derived.Test.YtpaambpajpmjdaaDoorZM10
import Derived.Test.YtpaambpajpmjdaaDoorZM1
set_option linter.unusedSimpArgs false
set_option linter.unusedVariables false
namespace Go.Proofs.YtpaambpajpmjdaaDoor
open Go Go.RowKit

def GXd (n m : Nat) (W : List Int) (E : List (Int × Int)) (v : Value) (w : World) : Prop := ∃ A c F d, v = .agg #[.slice A n c, .slice F m d] ∧ IsG w A n c F m d W E
theorem GXd.below {n m : Nat} {W : List Int} {E : List (Int × Int)} {v : Value} {w w' : World} (h : GXd n m W E v w) (hb : Below w.heap.size w w') : GXd n m W E v w' := by
  obtain ⟨A, c, F, d, e, hg⟩ := h
  exact ⟨A, c, F, d, e, hg.below hb⟩
def GXn (nn : Nat) (need : List Int) (v : Value) (w : World) : Prop := ∃ A c, v = .slice A nn c ∧ Ints w w.heap.size A need ∧ (A = none → nn = 0 ∧ c = 0)
theorem GXn.below {nn : Nat} {need : List Int} {v : Value} {w w' : World} (h : GXn nn need v w) (hb : Below w.heap.size w w') : GXn nn need v w' := by
  obtain ⟨A, c, e, hi, hn⟩ := h
  exact ⟨A, c, e, (hi.below hb).more hb.size, hn⟩
def GXt (tn : Nat) (t : List (List Int)) (v : Value) (w : World) : Prop := ∃ A c, v = .slice A tn c ∧ Trc w w.heap.size A t ∧ (A = none → tn = 0 ∧ c = 0)
theorem GXt.below {tn : Nat} {t : List (List Int)} {v : Value} {w w' : World} (h : GXt tn t v w) (hb : Below w.heap.size w w') : GXt tn t v w' := by
  obtain ⟨A, c, e, hi, hn⟩ := h
  exact ⟨A, c, e, (hi.below hb).more hb.size, hn⟩
/-- A list of integers that was handed out. -/
def GXi (zs : List Int) (v : Value) (w : World) : Prop := ∃ A c, v = .slice A zs.length c ∧ Ints w w.heap.size A zs
theorem GXi.below {zs : List Int} {v : Value} {w w' : World} (h : GXi zs v w) (hb : Below w.heap.size w w') : GXi zs v w' := by
  obtain ⟨A, c, e, hi⟩ := h
  exact ⟨A, c, e, (hi.below hb).more hb.size⟩
end Go.Proofs.YtpaambpajpmjdaaDoor
