/- Words for memory in the seat YtmgfbpnphdkgiaaDoor: an edge more, appended to a list of the call's own; an edge less; what is said of such graphs. No statement is proved here. -/
import Derived.Test.YtmgfbpnphdkgiaaDoorBeforeWalk
set_option linter.unusedVariables false
namespace Go.Proofs.YtmgfbpnphdkgiaaDoor
open Go.RowKit

theorem own_apart {w : World} {b b' : Nat} {u v : Value} {W : List Int} {E : List (Int × Int)} (h : OwnI w b u W) (k : OwnE w b' v E) : u.ownBlock = none ∨ u.ownBlock ≠ v.ownBlock := by
  rcases h.2 with ⟨rfl, _⟩ | ⟨g, cap, cur, rfl, _, hg, _⟩
  · exact .inl rfl
  · right
    rcases k.2 with ⟨rfl, _⟩ | ⟨g', cap', cur', rfl, _, hg', _⟩
    · simp [Value.ownBlock]
    · simp only [Value.ownBlock, ne_eq, Option.some.injEq]
      intro e
      subst e
      rw [hg] at hg'
      injection hg' with hg'
      injection hg' with _ h2 _
      exact absurd h2 (by decide)
/-- 'append(l, e)': the edge lies in a block of its own, laid just ahead. -/
theorem wpList_pushE {ops : Array Oper} {rest : List Oper} {o : Oper} {a : Act} {Q : Exit → Act → World → Prop} (hgd : o.guard = none) (s x : Operand)
    (ho : o.op = .call { callee := .builtin .append, args := #[s, x], argTypes := #[23, 23] })
    (w1 : World) (base : Nat) (v : Value) (es : List (Int × Int)) (e : Int × Int) (len : Nat) (hlen : es.length = len) (hl : len ≤ 900) (hO : OwnE w1 base v es) (hB : base ≤ w1.heap.size)
    (hs : a.eval s = v) (hx : a.eval x = .slice (some ⟨w1.heap.size, 0, none⟩) 1 1)
    (h : ∀ F' d' w', OwnE w' base (.slice F' (len + 1) d') (es ++ [e]) → (w1.alloc (.cells #[.int .i64 e.1, .int .i64 e.2] 40)).grownBy w' v.ownBlock → wpList Tryd.prog ops Q rest (a.put o.dst (.slice F' (len + 1) d')) w') :
    wpList Tryd.prog ops Q (o :: rest) a (w1.alloc (.cells #[.int .i64 e.1, .int .i64 e.2] 40)) := by
  obtain ⟨j0, hj0, hy0, hy1, hy2⟩ := info_parts edge_cell_info
  subst hlen
  refine wpList_append_own _ hgd s x 23 ho base 40 j0 (.agg #[.int .i64 0, .int .i64 0]) 2 16 Tryd.underlying23 hj0 hy0 hy1 hy2 rfl (by omega) v es.length (flatE es) hs (own_below hO (below_alloc _)) ⟨w1.heap.size, 0, none⟩ 1 1 [.int .i64 e.1, .int .i64 e.2] hx rfl ?_ ?_
    (by unfold maxLen; omega) (by omega) (by simp; omega) ?_
  · intro j u hu
    rw [addr_add, World.cell?_alloc_at _ _ _ _ rfl]
    match j with
    | 0 =>
      obtain rfl : Value.int .i64 e.1 = u := by simpa using hu
      rfl
    | 1 =>
      obtain rfl : Value.int .i64 e.2 = u := by simpa using hu
      rfl
    | j + 2 => simp at hu
  · intro u hu
    rcases (by simpa using hu : u = .int .i64 e.1 ∨ u = .int .i64 e.2) with rfl | rfl <;> rfl
  · intro v' w' hown' hg _
    have hO' : OwnE w' base v' (es ++ [e]) := by
      unfold OwnE
      rw [List.length_append, List.length_singleton, flatE_append]
      exact hown'
    obtain ⟨F', d', rfl, _⟩ := hO'.slice
    rw [show (es ++ [e]).length = es.length + 1 by simp] at hO' ⊢
    exact h F' d' w' hO' hg

section
variable {W : List Int} {E : List (Int × Int)}
theorem edgesOk_more {n : Nat} (hE : EdgesOk n E) (x y : Nat) (hx : x < n) (hy : y < n) : EdgesOk n (E ++ [((x : Int), (y : Int))]) ↔ x ≠ y ∧ ((x : Int), (y : Int)) ∉ E := by
  have h : (E ++ [((x : Int), (y : Int))])[E.length]? = some ((x : Int), (y : Int)) := by simp
  have k := edgesOk_snoc (n := n) h
  rw [List.take_left, List.take_of_length_le (by simp)] at k
  rw [k]
  constructor
  · rintro ⟨_, _, _, h1, h2⟩
    exact ⟨fun e => h1 (by simp [e]), h2⟩
  · rintro ⟨h1, h2⟩
    exact ⟨hE, ⟨Int.natCast_nonneg x, Int.ofNat_lt.mpr hx⟩, ⟨Int.natCast_nonneg y, Int.ofNat_lt.mpr hy⟩, by simpa using fun e => h1 (Int.ofNat_inj.mp e), h2⟩
theorem May.edgesOk (h : May W E) : EdgesOk W.length E := ⟨h.fits, h.apart, h.once⟩
/-- What is said of a graph with an edge more. -/
theorem chk_more_bad (hM : May W E) (hl : E.length < 256) (x y : Nat) (hx : x < W.length) (hy : y < W.length) (h : x = y ∨ ((x : Int), (y : Int)) ∈ E) : chkE W (E ++ [((x : Int), (y : Int))]) = 42 := by
  have hp : plainE W (E ++ [((x : Int), (y : Int))]) = 42 := by
    refine plainE_edge ?_ hM.work ?_
    · have := hM.nodes
      rw [List.length_append, List.length_singleton]
      omega
    · rw [edgesOk_more hM.edgesOk x y hx hy]
      rintro ⟨h1, h2⟩
      rcases h with h | h
      · exact h1 h
      · exact h2 h
  rw [chkE_plain (by rw [hp]; decide), hp]
theorem plain_more (hM : May W E) (hl : E.length < 256) (x y : Nat) (hx : x < W.length) (hy : y < W.length) (h1 : x ≠ y) (h2 : ((x : Int), (y : Int)) ∉ E) : plainE W (E ++ [((x : Int), (y : Int))]) = 0 := by
  refine plainE_zero.mpr ⟨⟨hM.nodes, by rw [List.length_append, List.length_singleton]; omega⟩, hM.work, (edgesOk_more hM.edgesOk x y hx hy).mpr ⟨h1, h2⟩⟩
theorem chk_more_round (hM : May W E) (hl : E.length < 256) (x y : Nat) (hx : x < W.length) (hy : y < W.length) (h1 : x ≠ y) (h2 : ((x : Int), (y : Int)) ∉ E) (hw : Way E y x) : chkE W (E ++ [((x : Int), (y : Int))]) = 43 :=
  chkE_round (plain_more hM hl x y hx hy h1 h2) (fun hA => (acyc_snoc hM.acyc h1).mp hA hw)
theorem chk_more_ok (hM : May W E) (hl : E.length < 256) (x y : Nat) (hx : x < W.length) (hy : y < W.length) (h1 : x ≠ y) (h2 : ((x : Int), (y : Int)) ∉ E) (hw : ¬ Way E y x) : chkE W (E ++ [((x : Int), (y : Int))]) = 0 :=
  chkE_ok (plain_more hM hl x y hx hy h1 h2) ((acyc_snoc hM.acyc h1).mpr hw)
end
end Go.Proofs.YtmgfbpnphdkgiaaDoor
