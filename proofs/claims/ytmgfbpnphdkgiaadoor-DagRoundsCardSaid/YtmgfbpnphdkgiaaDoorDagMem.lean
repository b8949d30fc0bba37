/- Words for memory in the seat YtmgfbpnphdkgiaaDoor: a graph that came in: its works, its edges; the small functions of trefoilref04 and trefoillaw04 that only look at it. No statement is proved here. -/
import Derived.Test.YtmgfbpnphdkgiaaDoorPairs
import Derived.WalkKit
import Derived.WalkSmall
import Derived.Handy
import Derived.KernelRfl
import Derived.Below
import Derived.BigQuiet
import Derived.Deep.QuietTactic
import Derived.Lib.Hide
set_option linter.unusedVariables false
namespace Go.Proofs.YtmgfbpnphdkgiaaDoor
open Go.RowKit

/-- A graph as it is handed over: its two slices. -/
structure Gr where
  A : Option Addr
  n : Nat
  c : Nat
  F : Option Addr
  m : Nat
  d : Nat
def Gr.v (g : Gr) : Value := .agg #[.slice g.A g.n g.c, .slice g.F g.m g.d]
/-- It reads as these works and edges, below block B. -/
structure IsGr (w : World) (B : Nat) (g : Gr) (W : List Int) (E : List (Int × Int)) : Prop where
  hn : W.length = g.n
  hm : E.length = g.m
  ints : Ints w B g.A W
  pairs : Pairs w B g.F E
theorem IsGr.below {w w' : World} {B : Nat} {g : Gr} {W : List Int} {E : List (Int × Int)} (h : IsGr w B g W E) (hb : Below B w w') : IsGr w' B g W E := ⟨h.hn, h.hm, h.ints.below hb, h.pairs.below hb⟩
theorem IsGr.more {w : World} {B B' : Nat} {g : Gr} {W : List Int} {E : List (Int × Int)} (h : IsGr w B g W E) (hB : B ≤ B') : IsGr w B' g W E := ⟨h.hn, h.hm, h.ints.more hB, h.pairs.more hB⟩
theorem IsGr.alloc {w : World} {B : Nat} {g : Gr} {W : List Int} {E : List (Int × Int)} (h : IsGr w B g W E) (hB : B ≤ w.heap.size) (o : Obj) : IsGr (w.alloc o) B g W E := ⟨h.hn, h.hm, h.ints.alloc hB o, h.pairs.alloc hB o⟩

theorem few_yes (A F : Option Addr) (n c m d : Nat) (w : World) (h : n ≤ 70) (k : m ≤ 300) :
    Calls Tryd.prog 11 #[.agg #[.slice A n c, .slice F m d]] w fun e w' => e = .returned (.bool true) ∧ Below w.heap.size w w' := by
  have g1 : decide (n ≤ 70) = true := by simpa using h
  have g2 : decide ((n : Int) ≤ 70) = true := by rw [decide_eq_true_iff]; omega
  have g3 : decide (m ≤ 300) = true := by simpa using k
  have g4 : decide ((m : Int) ≤ 300) = true := by rw [decide_eq_true_iff]; omega
  go_enter Tryd.func11, Tryd.ntmps11
  go_wp2
  go_ret
  exact ⟨rfl, below_alloc _⟩
theorem few_no (A F : Option Addr) (n c m d : Nat) (w : World) (hn : n ≤ 9223372036854775807) (hm : m ≤ 9223372036854775807) (h : ¬ (n ≤ 70 ∧ m ≤ 300)) :
    Calls Tryd.prog 11 #[.agg #[.slice A n c, .slice F m d]] w fun e w' => e = .returned (.bool false) ∧ Below w.heap.size w w' := by
  have k : 70 < n ∨ (n ≤ 70 ∧ 300 < m) := by omega
  clear h
  rcases k with k | ⟨k, k2⟩
  · go_enter Tryd.func11, Tryd.ntmps11
    go_wp2
    go_ret
    exact ⟨rfl, below_alloc _⟩
  · have g3 : decide (m ≤ 300) = false := by rw [decide_eq_false_iff_not]; omega
    have g4 : decide ((m : Int) ≤ 300) = false := by rw [decide_eq_false_iff_not]; omega
    go_enter Tryd.func11, Tryd.ntmps11
    go_wp2
    go_ret
    exact ⟨rfl, below_alloc _⟩
theorem node_any (A F : Option Addr) (n c m d : Nat) (x : Int) (w : World) :
    Calls Tryd.prog 46 #[.agg #[.slice A n c, .slice F m d], .int .i64 x] w fun e w' => e = .returned (.bool (decide (0 ≤ x ∧ x < n))) ∧ Below w.heap.size w w' := by
  by_cases h : 0 ≤ x
  · by_cases k : x < n
    · rw [decide_eq_true (⟨h, k⟩ : 0 ≤ x ∧ x < n)]
      go_enter Tryd.func46, Tryd.ntmps46
      go_wp2
      go_ret
      exact ⟨rfl, below_alloc _⟩
    · rw [decide_eq_false (fun q : 0 ≤ x ∧ x < n => k q.2)]
      go_enter Tryd.func46, Tryd.ntmps46
      go_wp2
      go_ret
      exact ⟨rfl, below_alloc _⟩
  · rw [decide_eq_false (fun q : 0 ≤ x ∧ x < n => h q.1)]
    have h' : x < 0 := by omega
    clear h
    go_enter Tryd.func46, Tryd.ntmps46
    go_wp2
    go_ret
    exact ⟨rfl, below_alloc _⟩
end Go.Proofs.YtmgfbpnphdkgiaaDoor
