/- An edge more of a task, lowered, in plain words, in the seat YtkmajhbfmdoamaaGreatDoor. No statement is proved here. -/
import Derived.Test.YtkmajhbfmdoamaaGreatDoorZLowTouchMath
set_option linter.unusedSimpArgs false
set_option linter.unusedVariables false
namespace Go.Proofs.YtkmajhbfmdoamaaGreatDoor

/-- A node is of one part. -/
theorem part_one {fs : List (Int × Int × Int)} {x y i : Nat} (h1 : firN fs x ≤ i) (h2 : i < firN fs (x + 1)) (h3 : firN fs y ≤ i) (h4 : i < firN fs (y + 1)) : x = y := by
  rcases Nat.lt_trichotomy x y with h | h | h
  · have := firN_mono fs (show x + 1 ≤ y by omega)
    omega
  · exact h
  · have := firN_mono fs (show y + 1 ≤ x by omega)
    omega
theorem fir_lt (fs : List (Int × Int × Int)) (x : Nat) : firN fs x < firN fs (x + 1) := by
  rw [firN]
  have := nst_pos fs x
  omega
end Go.Proofs.YtkmajhbfmdoamaaGreatDoor
