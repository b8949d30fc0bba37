/- An edge more of a task, lowered, in plain words, in the seat YtmelgolnmnebpaaGreatDoor. No statement is proved here. -/
import Derived.Test.YtmelgolnmnebpaaGreatDoorZLowTouchMath
set_option linter.unusedSimpArgs false
set_option linter.unusedVariables false
namespace Go.Proofs.YtmelgolnmnebpaaGreatDoor

/-- A node is of one part. -/
theorem part_one {fs : List (Int × Int × Int)} {x y i : Nat} (h1 : firN fs x ≤ i) (h2 : i < firN fs (x + 1)) (h3 : firN fs y ≤ i) (h4 : i < firN fs (y + 1)) : x = y := by
  rcases Nat.lt_trichotomy x y with h | h | h
  · have := firN_mono fs (show x + 1 ≤ y by omega)
    omega
  · exact h
  · have := firN_mono fs (show y + 1 ≤ x by omega)
    omega
theorem fir_lt (fs : List (Int × Int × Int)) (x : Nat) : firN fs x < firN fs (x + 1) := by
  rw [firN]
  have := nst_pos fs x
  omega
theorem lasN_inj {fs : List (Int × Int × Int)} {x y : Nat} (h : lasN fs x = lasN fs y) : x = y := by
  have h1 := lasN_eq fs x
  have h2 := lasN_eq fs y
  have h3 := fir_lt fs x
  have h4 := fir_lt fs y
  exact part_one (fs := fs) (i := lasN fs x) (by omega) (by omega) (by omega) (by omega)
end Go.Proofs.YtmelgolnmnebpaaGreatDoor
