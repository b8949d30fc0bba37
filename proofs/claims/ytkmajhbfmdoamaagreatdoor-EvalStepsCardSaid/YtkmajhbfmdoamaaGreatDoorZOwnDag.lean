/- The contract of Own of trefoillaw04 in the seat YtkmajhbfmdoamaaGreatDoor: a graph of its own memory. No statement is proved here. (Written by wip/dag/mk_own.py.) -/
import Derived.Test.YtkmajhbfmdoamaaGreatDoorZM3
set_option linter.unusedSimpArgs false
set_option linter.unusedVariables false
namespace Go.Proofs.YtkmajhbfmdoamaaGreatDoor
open Go.RowKit

section
variable {w0 : World} {A F : Option Addr} {n c m d : Nat} {W : List Int} {E : List (Int × Int)} {s3 s4 s5 s6 s7 s8 s9 s10 s11 : Value} {l : Array Bool} {w w' : World}
theorem own_from {base : Nat} {e : TypeId} {s k : Nat} {v : Value} {xs : List Value} (h : w.ownsRow base e s v k xs) (hk : ∀ g, base ≤ g → w'.heap[g]? = w.heap[g]?) : w'.ownsRow base e s v k xs := by
  refine ⟨h.1, ?_⟩
  rcases h.2 with hn | ⟨g, cap, cur, rfl, hg, hgg, rest⟩
  · exact .inl hn
  · exact .inr ⟨g, cap, cur, rfl, hg, by rw [hk g hg]; exact hgg, rest⟩
end

end Go.Proofs.YtkmajhbfmdoamaaGreatDoor
