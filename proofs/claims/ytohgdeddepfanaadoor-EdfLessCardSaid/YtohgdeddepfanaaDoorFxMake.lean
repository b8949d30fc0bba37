/- An operation of a region that makes memory, in the seat YtohgdeddepfanaaDoor. No statement is proved here. -/
import Derived.Test.YtohgdeddepfanaaDoorFacts
namespace Go.Proofs.YtohgdeddepfanaaDoor
open Go Go.RowKit
section
variable {P : Program} {Q : Exit → Act → World → Prop}
/-- An operation that makes memory. -/
theorem fx_make {o : Oper} {a : Act} {w : World} {k : Nat} {Φ : Nat → Value → World → Prop} {K : Act → World → Prop} (hK : ∀ v w', Φ k v w' → Below w.heap.size w w' → K (a.put o.dst v) w') {ρ : Operand → Value} (hρ : a.eval = ρ) (v : Value) (w' : World) (hr : (execOp ρ o).run P w = .ok (.value v) w') (hv : Φ k v w') (hb : Below w.heap.size w w') : o.wp P a w K Q := by
  subst hρ
  unfold Oper.wp
  rw [hr, Oper.upon_value]
  exact hK v w' hv hb
end
end Go.Proofs.YtohgdeddepfanaaDoor
