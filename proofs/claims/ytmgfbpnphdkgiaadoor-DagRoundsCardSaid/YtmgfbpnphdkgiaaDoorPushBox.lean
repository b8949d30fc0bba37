/- Words for memory in the seat YtmgfbpnphdkgiaaDoor: a graph in a box of the call's own, its edges one more. No statement is proved here. -/
import Derived.Test.YtmgfbpnphdkgiaaDoorPushE
import Derived.OneCell
set_option linter.unusedVariables false
namespace Go.Proofs.YtmgfbpnphdkgiaaDoor
open Go.RowKit

theorem apart_of {w : World} {base : Nat} {t t' : TypeId} {s n : Nat} {v : Value} {xs : List Value} {g : Nat} {ys : Array Value} (h : w.ownsRow base t s v n xs) (hg : w.heap[g]? = some (.cells ys t' (0, 0))) (ht : t ≠ t') : v.ownBlock ≠ some g := by
  rcases h.2 with ⟨rfl, _⟩ | ⟨g', cap', cur', rfl, _, hg', _⟩
  · simp [Value.ownBlock]
  · simp only [Value.ownBlock, ne_eq, Option.some.injEq]
    rintro rfl
    rw [hg] at hg'
    injection hg' with hg'
    injection hg' with _ h2 _
    exact ht h2.symm
theorem push_row {w5 w6 w' : World} {u v : Value} {E : List (Int × Int)} {ob : Obj} (hv : OwnE w6 w5.heap.size v E)
    (hg : ((w6.alloc (.cells #[u, v] 25)).alloc ob).grownBy w' v.ownBlock) : w'.heap[w6.heap.size]? = some (.cells #[u, v] 25 (0, 0)) := by
  have h0 : (w6.alloc (.cells #[u, v] 25)).heap[w6.heap.size]? = some (.cells #[u, v] 25 (0, 0)) := heap_alloc_new w6 _
  have h1 : ((w6.alloc (.cells #[u, v] 25)).alloc ob).heap[w6.heap.size]? = some (.cells #[u, v] 25 (0, 0)) := by
    rw [(below_alloc ob).block _ (Array.getElem?_eq_some_iff.1 h0).1]
    exact h0
  have hv1 : OwnE ((w6.alloc (.cells #[u, v] 25)).alloc ob) w5.heap.size v E := (hv.below (below_alloc _)).below (below_alloc _)
  rw [hg.block _ (Array.getElem?_eq_some_iff.1 h1).1 (apart_of hv1 h1 (by decide)).symm]
  exact h1
theorem push_after {w5 w6 w' : World} {u v v' : Value} {W : List Int} {E E' : List (Int × Int)} {ob : Obj} (b : Below w5.heap.size w5 w6) (hu : OwnI w6 w5.heap.size u W) (hv : OwnE w6 w5.heap.size v E)
    (hO : OwnE w' w5.heap.size v' E') (hg : ((w6.alloc (.cells #[u, v] 25)).alloc ob).grownBy w' v.ownBlock) :
    Below w5.heap.size w5 (w'.setCell ⟨w6.heap.size, 1, none⟩ v') ∧ OwnI (w'.setCell ⟨w6.heap.size, 1, none⟩ v') w5.heap.size u W ∧ OwnE (w'.setCell ⟨w6.heap.size, 1, none⟩ v') w5.heap.size v' E' ∧
      (w'.setCell ⟨w6.heap.size, 1, none⟩ v').cell? ⟨w6.heap.size, 0, none⟩ = some u ∧ (w'.setCell ⟨w6.heap.size, 1, none⟩ v').cell? ⟨w6.heap.size, 1, none⟩ = some v' := by
  have hs := b.size
  have hr := push_row hv hg
  have hv1 : OwnE ((w6.alloc (.cells #[u, v] 25)).alloc ob) w5.heap.size v E := (hv.below (below_alloc _)).below (below_alloc _)
  have hu1 : OwnI ((w6.alloc (.cells #[u, v] 25)).alloc ob) w5.heap.size u W := (hu.below (below_alloc _)).below (below_alloc _)
  have hu2 : OwnI w' w5.heap.size u W := hu1.kept hg (own_apart hu1 hv1)
  refine ⟨?_, ownsRow_setCell_other hu2 (apart_of hu2 hr (by decide)) _, ownsRow_setCell_other hO (apart_of hO hr (by decide)) _, ?_, ?_⟩
  · refine Below.setCell (((b.alloc hs _).alloc (by simp; omega) _).grown hg (by simp; omega) fun k hk => (hv1.lt k hk).1) ?_ _
    exact hs
  · simp [World.cell?, World.setCell, Array.getElem?_modify, hr]
  · simp [World.cell?, World.setCell, Array.getElem?_modify, hr]
theorem own_isG2 {w : World} {b : Nat} {A F : Option Addr} {n c m d : Nat} {W : List Int} {E : List (Int × Int)} (ht : Tab64 w) (hu : OwnI w b (.slice A n c) W) (hv : OwnE w b (.slice F m d) E) (hn : W.length = n) (hm : E.length = m) (ln : n ≤ 400) (lm : m ≤ 400) : IsG w A n c F m d W E := by
  obtain ⟨A', c', F', d', e1, e2, h⟩ := own_isG ht hu hv (by omega) (by omega)
  injection e1 with q1 q2 q3
  injection e2 with r1 r2 r3
  subst q1 q3 r1 r3
  rw [hn, hm] at h
  exact h
end Go.Proofs.YtmgfbpnphdkgiaaDoor
