/- Edges that may be: plain mathematics, in the seat YtmgfbpnphdkgiaaDoor. No statement is proved here. -/
import Derived.Test.YtmgfbpnphdkgiaaDoorIntsSame
import Derived.Test.YtmgfbpnphdkgiaaDoorDagMath
set_option linter.unusedVariables false
namespace Go.Proofs.YtmgfbpnphdkgiaaDoor
open Go.RowKit

def EdgesOk (n : Nat) (E : List (Int × Int)) : Prop := Fits n E ∧ (∀ e ∈ E, e.1 ≠ e.2) ∧ E.Nodup
theorem edgesOk_snoc {n : Nat} {E : List (Int × Int)} {j : Nat} {e : Int × Int} (h : E[j]? = some e) : EdgesOk n (E.take (j + 1)) ↔ EdgesOk n (E.take j) ∧ (0 ≤ e.1 ∧ e.1 < n) ∧ (0 ≤ e.2 ∧ e.2 < n) ∧ e.1 ≠ e.2 ∧ e ∉ E.take j := by
  rw [take_snoc' h]
  unfold EdgesOk Fits
  rw [List.nodup_append]
  constructor
  · rintro ⟨k1, k2, k3⟩
    have q := k1 e (by simp)
    refine ⟨⟨fun x hx => k1 x (by simp [hx]), fun x hx => k2 x (by simp [hx]), k3.1⟩, ⟨q.1, q.2.1⟩, q.2.2, k2 e (by simp), fun hm => k3.2.2 e hm e (by simp) rfl⟩
  · rintro ⟨⟨k1, k2, k3⟩, q1, q2, q3, q4⟩
    refine ⟨fun x hx => ?_, fun x hx => ?_, k3, by simp, fun a ha b hb => ?_⟩
    · rcases List.mem_append.mp hx with hx | hx
      · exact k1 x hx
      · obtain rfl : x = e := by simpa using hx
        exact ⟨q1.1, q1.2, q2.1, q2.2⟩
    · rcases List.mem_append.mp hx with hx | hx
      · exact k2 x hx
      · obtain rfl : x = e := by simpa using hx
        exact q3
    · obtain rfl : b = e := by simpa using hb
      exact fun h => q4 (h ▸ ha)
theorem edgesOk_take {n : Nat} {E : List (Int × Int)} (h : EdgesOk n E) (j : Nat) : EdgesOk n (E.take j) :=
  ⟨fun e he => h.1 e (List.mem_of_mem_take he), fun e he => h.2.1 e (List.mem_of_mem_take he), h.2.2.sublist (List.take_sublist j E)⟩
end Go.Proofs.YtmgfbpnphdkgiaaDoor
