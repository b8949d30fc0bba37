/- A region that draws its order, whose operations read nothing of the memory and whose callees leave what lies below a block as it was (they may make memory): one walk, in the order of the text. No statement is proved here. -/
import Derived.Below
import Derived.WalkKit
import Derived.WalkSmall
import Derived.BigQuiet
import Derived.Deep.QuietTactic
namespace Go.Proofs.YtohgdeddepfanaaDoor
open Go.RowKit

/-- A world in which nothing below the block B has turned. -/
structure Near (B : Nat) (w : World) where
  W : World
  h : Below B w W
instance (B : Nat) (w : World) : Nonempty (Near B w) := ⟨⟨w, Below.refl _ _⟩⟩
theorem wp_region_near {P : Program} (B : Nat) {id : Nat} {Q : Exit → Act → World → Prop} {a : Act} {w : World} {l : List Oper} (hm : P.follows .mixedOrders = true) (hB : Region.lexB .any l.toArray = true)
    (_ : B ≤ w.heap.size)
    (h : wpQuiet P l.toArray (fun W => ∃ x : Near B w, W = x.W) (fun a' => ∀ W, Below B w W → Q .normal a' W) l a) : (Code.region id l.toArray true).wp P Q a w := by
  refine wp_region_quiet (C := fun W => ∃ x : Near B w, W = x.W) hm hB ⟨⟨_, ?_⟩, rfl⟩ ?_
  · exact below_drewN (Below.refl B w) 1
  · have e : (fun a' => ∀ W, Below B w W → Q Exit.normal a' W) = (fun a' => ∀ W, (∃ x : Near B w, W = x.W) → Q Exit.normal a' W) := by
      funext a'
      apply propext
      constructor
      · rintro k W ⟨x, rfl⟩
        exact k _ x.h
      · intro k W hW
        exact k W ⟨⟨W, hW⟩, rfl⟩
    rw [e] at h
    simpa using h
theorem near_of {P : Program} {f : FuncId} {args : Array Value} {B : Nat} {w : World} {x : Near B w} {v : Value}
    (h : Calls P f args x.W fun e w' => e = .returned v ∧ Below x.W.heap.size x.W w') (hb : B ≤ w.heap.size) : Calls P f args x.W fun e w'' => e = .returned v ∧ ∃ y : Near B w, w'' = y.W :=
  h.mono fun _ w' ⟨he, hm⟩ => ⟨he, ⟨w', x.h.trans (hm.mono (Nat.le_trans hb x.h.size))⟩, rfl⟩
theorem near_same {P : Program} {f : FuncId} {args : Array Value} {B : Nat} {w : World} {x : Near B w} {v : Value}
    (h : Calls P f args x.W fun e w' => e = .returned v ∧ x.W = w') : Calls P f args x.W fun e w'' => e = .returned v ∧ ∃ y : Near B w, w'' = y.W :=
  h.mono fun _ _ ⟨he, hm⟩ => ⟨he, x, hm.symm⟩
end Go.Proofs.YtohgdeddepfanaaDoor
