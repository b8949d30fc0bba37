/- An operation of a region that makes memory, in the seat YtmmogdccjiagnaaDoor.
   A crew of the call's own in a variable, whose lists are written in place, in the seat YtmmogdccjiagnaaDoor.
   Lists of the call's own that grow, one by one, beside others (as lower's LowGrow, under names of its own), in the seat YtmmogdccjiagnaaDoor.
   trefoilref11.Over in the seat YtmmogdccjiagnaaDoor: its contract.
   No statement is proved here. -/
import Derived.Test.YtmmogdccjiagnaaDoorZM14
import Derived.Test.YtmmogdccjiagnaaDoorZM13
import Derived.Test.YtmmogdccjiagnaaDoorZM1
import Derived.Test.YtmmogdccjiagnaaDoorZM4
import Derived.Deep.AppendLies
import Derived.Test.YtmmogdccjiagnaaDoorZM12
set_option linter.unusedSimpArgs false
namespace Go.Proofs.YtmmogdccjiagnaaDoor
open Go Go.RowKit
section
variable {P : Program} {Q : Exit → Act → World → Prop}
/-- An operation that makes memory. -/
theorem fx_make {o : Oper} {a : Act} {w : World} {k : Nat} {Φ : Nat → Value → World → Prop} {K : Act → World → Prop} (hK : ∀ v w', Φ k v w' → Below w.heap.size w w' → K (a.put o.dst v) w') {ρ : Operand → Value} (hρ : a.eval = ρ) (v : Value) (w' : World) (hr : (execOp ρ o).run P w = .ok (.value v) w') (hv : Φ k v w') (hb : Below w.heap.size w w') : o.wp P a w K Q := by
  subst hρ
  unfold Oper.wp
  rw [hr, Oper.upon_value]
  exact hK v w' hv hb
end
end Go.Proofs.YtmmogdccjiagnaaDoor
set_option linter.unusedVariables false
namespace Go.Proofs.YtmmogdccjiagnaaDoor
open Go Go.RowKit

/-- Two slices don't share a block. -/
def ApartV (u v : Value) : Prop := ∀ b, u.ownBlock = some b → v.ownBlock ≠ some b
theorem OwnI.blockLt {w : World} {base : Nat} {v : Value} {zs : List Int} (h : OwnI w base v zs) : ∀ b, v.ownBlock = some b → base ≤ b ∧ b < w.heap.size := by
  intro b hb
  rcases h.2 with ⟨rfl, _⟩ | ⟨g, cap, cur, rfl, hg, hgg, _⟩
  · simp [Value.ownBlock] at hb
  · obtain rfl : g = b := by simpa [Value.ownBlock] using hb
    exact ⟨hg, (Array.getElem?_eq_some_iff.1 hgg).1⟩
/-- 'append([]int{}, l...)' of a list that isn't empty: a new block. -/
theorem fresh_ints {w : World} {base : Nat} {u : Value} (hu : NewR 3 w base u) {A : Option Addr} {n c : Nat} {zs : List Int} (hn : zs.length = n) (hp : 0 < n) (hl : n ≤ 400) (hI : Ints w w.heap.size A zs) (hA : A = none → n = 0 ∧ c = 0) :
    ∃ v' w', (Builtin.append_ #[22, 22] 22 #[u, .slice A n c]).run Tryd.prog w = .ok v' w' ∧ OwnI w' w.heap.size v' zs ∧ Below w.heap.size w w' := by
  obtain ⟨i0, hi0, hz0, hz1, hz2⟩ := info_partsC int_cell_info
  obtain ⟨g, rfl, hg, hgl⟩ := hu
  subst hn
  cases A with
  | none => have := (hA rfl).1; omega
  | some ad =>
    obtain ⟨v', w', hr, ho, hgr⟩ := run_append_arg_grows (P := Tryd.prog) w 22 22 3 i0 (.int .i64 0) 1 8 Tryd.underlying22 hi0 hz0 hz1 hz2 rfl (by omega) ⟨g, 0, none⟩ 0 0 [] (by simp) (fun j u h => by simp at h) ad zs.length c (zs.map (Value.int .i64)) (by simp) hI.cells (by omega) (by unfold maxLen; omega) (by omega)
    rw [Nat.zero_add, List.nil_append] at ho
    exact ⟨v', w', hr, ho, ⟨hgr.os, hgr.tape, hgr.output, hgr.size, fun k hk => hgr.block k hk (by simp)⟩⟩
theorem fresh_ints0 {w : World} {base : Nat} {u : Value} (hu : NewR 3 w base u) {A : Option Addr} {n c : Nat} {zs : List Int} (hn : zs.length = n) (hl : n ≤ 400) (hI : Ints w w.heap.size A zs) (hA : A = none → n = 0 ∧ c = 0) (hb : base ≤ w.heap.size) :
    ∃ v' w', (Builtin.append_ #[22, 22] 22 #[u, .slice A n c]).run Tryd.prog w = .ok v' w' ∧ OwnI w' base v' zs ∧ (0 < n → OwnI w' w.heap.size v' zs) ∧ Below w.heap.size w w' := by
  rcases Nat.eq_zero_or_pos n with h0 | h0
  · obtain ⟨i0, hi0, hz0, hz1, hz2⟩ := info_partsC int_cell_info
    obtain ⟨g, rfl, hg, hgl⟩ := hu
    subst hn
    obtain ⟨v', w2, hr, how, hbb⟩ := fresh_append (P := Tryd.prog) w 22 22 3 i0 (.int .i64 0) 1 8 Tryd.underlying22 hi0 hz0 hz1 hz2 rfl (by omega) base g hg hgl hb A zs.length c (zs.map (Value.int .i64)) (by simp) hA (fun ad e => by subst e; exact hI.cells) (oneCell_ints zs) (by unfold maxLen; omega) (by omega)
    exact ⟨v', w2, hr, how, fun h => by omega, hbb⟩
  · obtain ⟨v', w', hr, how, hbb⟩ := fresh_ints hu hn h0 hl hI hA
    exact ⟨v', w', hr, how.down hb, fun _ => how, hbb⟩
section
variable {P : Program} {Q : Exit → Act → World → Prop}
theorem fx_pair {o : Oper} {a : Act} {w : World} {k q2 : Nat} {u : Value} {Φ : Nat → Value → World → Prop} {Ψ : Value → Value → World → Prop} {K : Act → World → Prop} (hK : ∀ v w', Φ k v w' → Below w.heap.size w w' → (k = q2 → Ψ u v w') → K (a.put o.dst v) w') {ρ : Operand → Value} (hρ : a.eval = ρ) (v : Value) (w' : World) (hr : (execOp ρ o).run P w = .ok (.value v) w') (hv : Φ k v w') (hp : Ψ u v w') (hb : Below w.heap.size w w') : o.wp P a w K Q := by
  subst hρ
  unfold Oper.wp
  rw [hr, Oper.upon_value]
  exact hK v w' hv hb (fun _ => hp)
end
/-- A variable of a crew. -/
def GNc (hb : Nat) (v : Value) (w : World) : Prop := ∃ g, v = .pointer (some ⟨g, 0, none⟩) ∧ hb ≤ g ∧ w.heap[g]? = some (.cells #[.slice none 0 0, .slice none 0 0] 27 (0, 0))
theorem GNc.below {hb : Nat} {v : Value} {w w' : World} (h : GNc hb v w) (hb' : Below w.heap.size w w') : GNc hb v w' := by
  obtain ⟨g, h1, h2, h3⟩ := h
  exact ⟨g, h1, h2, by rw [hb'.block _ (Array.getElem?_eq_some_iff.1 h3).1]; exact h3⟩
/-- What is built of two lists. -/
def GBc (hb : Nat) (n m : Nat) (O L : List Int) (v : Value) (w : World) : Prop := ∃ A1 c1 F1 d1, v = .agg #[.slice A1 n c1, .slice F1 m d1] ∧ OwnI w hb (.slice A1 n c1) O ∧ OwnI w hb (.slice F1 m d1) L ∧ (0 < m → ApartV (.slice A1 n c1) (.slice F1 m d1))
theorem OwnI.below' {w w' : World} {base : Nat} {v : Value} {zs : List Int} (h : OwnI w base v zs) (hb : Below w.heap.size w w') : OwnI w' base v zs := own_below h hb
theorem GBc.below {hb n m : Nat} {O L : List Int} {v : Value} {w w' : World} (h : GBc hb n m O L v w) (hb' : Below w.heap.size w w') : GBc hb n m O L v w' := by
  obtain ⟨A1, c1, F1, d1, h1, h2, h3, h4⟩ := h
  exact ⟨A1, c1, F1, d1, h1, own_below h2 hb', own_below h3 hb', h4⟩
/-- A crew in a variable g, its lists in blocks of their own. -/
structure StC (hb g gO : Nat) (FL : Option Addr) (n m cO cL : Nat) (O L : List Int) (w : World) : Prop where
  x : w.heap[g]? = some (.cells #[.slice (some ⟨gO, 0, none⟩) n cO, .slice FL m cL] 27 (0, 0))
  rO : OwnI w hb (.slice (some ⟨gO, 0, none⟩) n cO) O
  rL : OwnI w hb (.slice FL m cL) L
  ne : 0 < m → ∃ gL, FL = some ⟨gL, 0, none⟩ ∧ gO ≠ gL
section
variable {hb g gO : Nat} {FL : Option Addr} {n m cO cL : Nat} {O L : List Int} {w w' : World}
theorem StC.next (h : StC hb g gO FL n m cO cL O L w) (hb' : Below w.heap.size w w') : StC hb g gO FL n m cO cL O L w' :=
  ⟨by rw [hb'.block _ (Array.getElem?_eq_some_iff.1 h.x).1]; exact h.x, own_below h.rO hb', own_below h.rL hb', h.ne⟩
theorem StC.x0 (h : StC hb g gO FL n m cO cL O L w) : w.cell? ⟨g, 0, none⟩ = some (.slice (some ⟨gO, 0, none⟩) n cO) := by rw [cell_of_row _ _ _ _ _ _ h.x]; rfl
theorem StC.x1 (h : StC hb g gO FL n m cO cL O L w) : w.cell? ⟨g, 1, none⟩ = some (.slice FL m cL) := by rw [cell_of_row _ _ _ _ _ _ h.x]; rfl
theorem OwnI.blockC {w : World} {base gg nn cc : Nat} {zs : List Int} (h : OwnI w base (.slice (some ⟨gg, 0, none⟩) nn cc) zs) : ∃ cur, w.heap[gg]? = some (.cells cur 3 (0, 0)) ∧ base ≤ gg ∧ nn ≤ cc ∧ cur.size = cc * 1 := by
  rcases h.2 with ⟨e, _⟩ | ⟨g', cap, cur, e, hg, hgg, hnc, hcm, hcs, _⟩
  · cases e
  · injection e with e1 e2 e3
    injection e1 with e1
    injection e1 with e1
    subst e1 e3
    rw [← e2] at hnc
    exact ⟨cur, hgg, hg, hnc, hcs⟩
theorem OwnI.frozenC {w : World} {base g n c : Nat} {zs : List Int} (h : OwnI w base (.slice (some ⟨g, 0, none⟩) n c) zs) (j : Nat) : w.frozen? ⟨g, j, none⟩ = false := by
  obtain ⟨cur, h1, _⟩ := h.blockC
  exact frozen_of_row w g j _ _ h1
theorem OwnI.len_eq {w : World} {base nn cc : Nat} {A : Option Addr} {zs : List Int} (h : OwnI w base (.slice A nn cc) zs) : zs.length = nn := by
  rcases h.2 with ⟨e, hn⟩ | ⟨g', cap, cur, e, _⟩
  · injection e with _ e2 _
    omega
  · injection e with _ e2 _
    omega
/-- One number of a list of one's own is written. -/
theorem ownI_setC {w : World} {base g n c j : Nat} {zs : List Int} (h : OwnI w base (.slice (some ⟨g, 0, none⟩) n c) zs) (hj : j < zs.length) (z : Int) : OwnI (w.setCell ⟨g, j, none⟩ (.int .i64 z)) base (.slice (some ⟨g, 0, none⟩) n c) (zs.set j z) := by
  unfold OwnI at h ⊢
  rw [List.length_set, List.map_set]
  refine ⟨by rw [List.length_set]; exact h.1, ?_⟩
  rcases h.2 with ⟨e, _⟩ | ⟨g', cap, cur, e, hg, hgg, hnc, hcm, hcs, htake⟩
  · cases e
  · injection e with e1 e2 e3
    injection e1 with e1
    injection e1 with e1
    subst e1 e2 e3
    refine .inr ⟨g, _, cur.setIfInBounds j (.int .i64 z), rfl, hg, heap_setCell_same w g j _ _ _ hgg, hnc, hcm, by rw [Array.size_setIfInBounds]; exact hcs, ?_⟩
    rw [Array.toList_setIfInBounds, ← htake, List.take_set]
theorem own_farC {w w' : World} {base g : Nat} {v : Value} {zs : List Int} (h : OwnI w base v zs) (hne : v.ownBlock ≠ some g) (hk : ∀ k, k ≠ g → w'.heap[k]? = w.heap[k]?) : OwnI w' base v zs := by
  refine ⟨h.1, ?_⟩
  rcases h.2 with hn | ⟨g', cap, cur, rfl, hg, hgg, rest⟩
  · exact .inl hn
  · refine .inr ⟨g', cap, cur, rfl, hg, ?_, rest⟩
    rw [hk g' (fun e => hne (by rw [e]; rfl))]
    exact hgg
theorem StC.blocks (h : StC hb g gO FL n m cO cL O L w) : g ≠ gO ∧ ∀ gL, FL = some ⟨gL, 0, none⟩ → g ≠ gL := by
  obtain ⟨cur, h1, _⟩ := h.rO.blockC
  constructor
  · rintro rfl
    have := h.x
    rw [h1] at this
    injection this with this
    injection this with _ h3 _
    exact absurd h3 (by decide)
  · rintro gL rfl rfl
    obtain ⟨cur2, h2, _⟩ := h.rL.blockC
    have := h.x
    rw [h2] at this
    injection this with this
    injection this with _ h3 _
    exact absurd h3 (by decide)
theorem StC.setO (h : StC hb g gO FL n m cO cL O L w) {j : Nat} (hj : j < n) (hm : 0 < m) (z : Int) : StC hb g gO FL n m cO cL (O.set j z) L (w.setCell ⟨gO, j, none⟩ (.int .i64 z)) := by
  obtain ⟨b1, b2⟩ := h.blocks
  have hO := h.rO.len_eq
  obtain ⟨gL, rfl, hne⟩ := h.ne hm
  exact ⟨by rw [heap_setCell_other _ _ _ _ b1]; exact h.x, ownI_setC h.rO (by omega) z, own_farC h.rL (fun e => hne (by simpa [Value.ownBlock] using e.symm)) fun k hk => heap_setCell_other _ _ _ _ hk, h.ne⟩
theorem StC.setL {gL : Nat} (h : StC hb g gO (some ⟨gL, 0, none⟩) n m cO cL O L w) {j : Nat} (hj : j < m) (z : Int) : StC hb g gO (some ⟨gL, 0, none⟩) n m cO cL O (L.set j z) (w.setCell ⟨gL, j, none⟩ (.int .i64 z)) := by
  obtain ⟨b1, b2⟩ := h.blocks
  have hL := h.rL.len_eq
  obtain ⟨gL', e, hne⟩ := h.ne (by omega)
  obtain rfl : gL = gL' := by simpa using e
  exact ⟨by rw [heap_setCell_other _ _ _ _ (b2 gL rfl)]; exact h.x, own_farC h.rO (fun e => hne (by simpa [Value.ownBlock] using e)) fun k hk => heap_setCell_other _ _ _ _ hk, ownI_setC h.rL (by omega) z, h.ne⟩
theorem StC.isC (h : StC hb g gO FL n m cO cL O L w) (l1 : n ≤ 400) (l2 : m ≤ 400) : IsC w (some ⟨gO, 0, none⟩) n cO FL m cL O L :=
  own_isC h.rO h.rL h.rO.len_eq h.rL.len_eq l1 l2
end
/-- Behind the store of what was built into a new variable, whose address lies in a slot. -/
def ThC (wd : World) (slot n m : Nat) (O L : List Int) (f : Nat → Value) (w : World) : Prop := ∃ g gO FL cO cL, f slot = .pointer (some ⟨g, 0, none⟩) ∧ Below wd.heap.size wd w ∧ wd.heap.size ≤ g ∧ StC wd.heap.size g gO FL n m cO cL O L w
theorem ThC.slot {wd w : World} {slot n m : Nat} {O L : List Int} {f f' : Nat → Value} (h : ThC wd slot n m O L f w) (e : f slot = f' slot) : ThC wd slot n m O L f' w := by
  obtain ⟨g, gO, gL, cO, cL, h1, h2⟩ := h
  exact ⟨g, gO, gL, cO, cL, e ▸ h1, h2⟩
theorem ThC.below {wd w w' : World} {slot n m : Nat} {O L : List Int} {f : Nat → Value} (h : ThC wd slot n m O L f w) (hb : Below w.heap.size w w') : ThC wd slot n m O L f w' := by
  obtain ⟨g, gO, gL, cO, cL, h1, h2, h3, h4⟩ := h
  exact ⟨g, gO, gL, cO, cL, h1, h2.trans (hb.mono h2.size), h3, h4.next hb⟩
/-- The store itself. -/
theorem stC {o : Oper} {a : Act} {w wd : World} {K : Act → World → Prop} {Q : Exit → Act → World → Prop} {slot n m : Nat} {s y : Operand} {O L : List Int} (hop : o.op = .store 27 s y) (hdst : o.dst = none)
    (hs : a.eval s = a.eval (.tmp slot)) (h9 : GNc wd.heap.size (a.eval (.tmp slot)) w) (h7 : GBc wd.heap.size n m O L (a.eval y) w) (hn : 0 < n) (hb : Below wd.heap.size wd w) (hK : ∀ w', ThC wd slot n m O L (fun t => a.eval (.tmp t)) w' → wd.heap.size ≤ w'.heap.size → (∀ v, NewR 3 w wd.heap.size v → NewR 3 w' wd.heap.size v) → K a w') : o.wp Tryd.prog a w K Q := by
  obtain ⟨g, q9, hg1, hg2⟩ := h9
  obtain ⟨A1, c1, F1, d1, q7, hO, hL, hap⟩ := h7
  obtain ⟨bO, rfl⟩ : ∃ b, A1 = some ⟨b, 0, none⟩ := by
    rcases hO.2 with ⟨e, h0⟩ | ⟨b, cap, cur, e, _⟩
    · injection e with _ e2 _; omega
    · injection e with e1 _ _; exact ⟨b, e1⟩
  have hne : 0 < m → ∃ gL, F1 = some ⟨gL, 0, none⟩ ∧ bO ≠ gL := fun hm => by
    obtain ⟨bL, rfl⟩ : ∃ b, F1 = some ⟨b, 0, none⟩ := by
      rcases hL.2 with ⟨e, h0⟩ | ⟨b, cap, cur, e, _⟩
      · injection e with _ e2 _; omega
      · injection e with e1 _ _; exact ⟨b, e1⟩
    exact ⟨bL, rfl, fun e => hap hm bO rfl (by rw [e]; rfl)⟩
  have hoth := other_setC w g (.slice (some ⟨bO, 0, none⟩) n c1) (.slice F1 m d1)
  refine ox_storeC (g := g) (u := .slice (some ⟨bO, 0, none⟩) n c1) (v := .slice F1 m d1) hop hdst (hs.trans q9) q7 ⟨_, _, _, _, _, _, rfl, rfl⟩ hg2 (hK _ ⟨g, bO, F1, c1, d1, q9, hb.trans (below_setC hg1 _ _), hg1, row_setC hg2 _ _, other_ownC hO hg2 (by decide) hoth, other_ownC hL hg2 (by decide) hoth, hne⟩ (by rw [size_setC]; exact hb.size) ?_)
  rintro v ⟨gn, e, hgn, hbn⟩
  refine ⟨gn, e, ?_, hbn⟩
  rw [hoth gn (fun e2 => by
    subst e2
    rw [hg2] at hgn
    injection hgn with hgn
    injection hgn with _ h3 _
    exact absurd h3 (by decide))]
  exact hgn
end Go.Proofs.YtmmogdccjiagnaaDoor
set_option linter.unusedVariables false
namespace Go.Proofs.YtmmogdccjiagnaaDoor
open Go.RowKit

theorem info_partsS {P : Program} {t : TypeId} {z : Value} {s b : Nat} (h : (P.info? t).map (fun i => (i.zero, i.size, i.bytes)) = some (some z, s, b)) : ∃ i, P.info? t = some i ∧ i.zero = some z ∧ i.size = s ∧ i.bytes = b := by
  cases hi : P.info? t with
  | none => rw [hi] at h; cases h
  | some i =>
    rw [hi] at h
    simp at h
    exact ⟨i, rfl, h.1, h.2.1, h.2.2⟩
/-- New blocks, or one row of elements of type t (from base on) that grows. -/
def RXs (t : TypeId) (base : Nat) (row : Option Nat) (w w' : World) : Prop :=
  Below w.heap.size w w' ∨ (w.grownBy w' row ∧ ∀ b, row = some b → base ≤ b ∧ ∃ cs fr, w.heap[b]? = some (.cells cs t fr))
theorem RXs.size {t : TypeId} {base : Nat} {row : Option Nat} {w w' : World} (h : RXs t base row w w') : w.heap.size ≤ w'.heap.size := by
  rcases h with h | ⟨h, _⟩
  · exact h.size
  · exact h.size
theorem RXs.heap {u : TypeId} {base : Nat} {row : Option Nat} {w w' : World} (h : RXs u base row w w') {k : Nat} {cs : Array Value} {t : TypeId} {fr : Nat × Nat} (hk : w.heap[k]? = some (.cells cs t fr)) (ht : t ≠ u) : w'.heap[k]? = some (.cells cs t fr) := by
  have hlt : k < w.heap.size := (Array.getElem?_eq_some_iff.1 hk).1
  rcases h with h | ⟨h, h2⟩
  · rw [h.block k hlt]; exact hk
  · rw [h.block k hlt (fun e => by
      obtain ⟨_, cs', fr', h3⟩ := h2 k e.symm
      rw [hk] at h3
      injection h3 with h3
      injection h3 with _ h4 _
      exact ht h4)]
    exact hk
theorem RXs.own {u : TypeId} {base base' : Nat} {row : Option Nat} {w w' : World} (h : RXs u base row w w') {t : TypeId} {s n : Nat} {v : Value} {xs : List Value} (ho : w.ownsRow base' t s v n xs) (ht : t ≠ u) : w'.ownsRow base' t s v n xs := by
  refine ⟨ho.1, ?_⟩
  rcases ho.2 with hn | ⟨g, cap, cur, rfl, hg, hgg, rest⟩
  · exact .inl hn
  · exact .inr ⟨g, cap, cur, rfl, hg, h.heap hgg ht, rest⟩
theorem RXs.below {t : TypeId} {base : Nat} {row : Option Nat} {w w' : World} (h : RXs t base row w w') (hb : base ≤ w.heap.size) : Below base w w' := by
  rcases h with h | ⟨h, h2⟩
  · exact h.mono hb
  · refine ⟨h.os, h.tape, h.output, h.size, fun k hk => h.block k (by omega) (fun e => ?_)⟩
    have := (h2 k e.symm).1
    omega
/-- One new element of type t, in a block of its own. -/
def OwnXs (t : TypeId) (row : Option Nat) (news : List Value) (v : Value) (w : World) : Prop :=
  ∃ h, v = .slice (some ⟨h, 0, none⟩) 1 1 ∧ w.heap[h]? = some (.cells news.toArray t (0, 0)) ∧ row ≠ some h
theorem OwnXs.rx {t u : TypeId} {base : Nat} {row : Option Nat} {news : List Value} {v : Value} {w w' : World} (h : OwnXs t row news v w) (hr : RXs u base row w w') : OwnXs t row news v w' := by
  obtain ⟨k, e, hk, hne⟩ := h
  have hlt : k < w.heap.size := (Array.getElem?_eq_some_iff.1 hk).1
  refine ⟨k, e, ?_, hne⟩
  rcases hr with hr | ⟨hr, _⟩
  · rw [hr.block k hlt]; exact hk
  · rw [hr.block k hlt (fun e => hne e.symm)]; exact hk
theorem row_lts {w : World} {base : Nat} {t : TypeId} {s n : Nat} {v : Value} {xs : List Value} (h : w.ownsRow base t s v n xs) : ∀ b, v.ownBlock = some b → base ≤ b ∧ b < w.heap.size ∧ ∃ cs fr, w.heap[b]? = some (.cells cs t fr) := by
  intro b hb
  rcases h.2 with ⟨rfl, _⟩ | ⟨g, cap, cur, rfl, hg, hgg, _⟩
  · simp [Value.ownBlock] at hb
  · obtain rfl : g = b := by simpa [Value.ownBlock] using hb
    exact ⟨hg, (Array.getElem?_eq_some_iff.1 hgg).1, _, _, hgg⟩
/-- What a row of that many elements, one more, has become. -/
def Grews (t : TypeId) (base s n : Nat) (xs : List Value) (v : Value) (w : World) : Prop := ∃ F d, v = .slice F n d ∧ w.ownsRow base t s (.slice F n d) n xs
theorem Grews.below {t : TypeId} {base s n : Nat} {xs : List Value} {v : Value} {w w' : World} (h : Grews t base s n xs v w) (hb : Below w.heap.size w w') : Grews t base s n xs v w' := by
  obtain ⟨F, d, e, ho⟩ := h
  exact ⟨F, d, e, own_below ho hb⟩
theorem ownXs_append {w : World} {base : Nat} {t tl : TypeId} {s bytes n : Nat} {z u v : Value} {xs news : List Value} (hu : Tryd.prog.underlying tl = some (.slice t)) (hinf : (Tryd.prog.info? t).map (fun i => (i.zero, i.size, i.bytes)) = some (some z, s, bytes)) (hzs : z.cells.size = s) (hs0 : 0 < s) (hby : bytes ≤ 48)
    (hO : w.ownsRow base t s u n xs) (hE : OwnXs t u.ownBlock news v w) (hs : news.length = s) (h1 : ∀ x ∈ news, x.oneCell' = true) (hl : n ≤ 1000) (hb : base ≤ w.heap.size) :
    ∃ v' w', (Builtin.append_ #[tl, tl] tl #[u, v]).run Tryd.prog w = .ok v' w' ∧ Grews t base s (n + 1) (xs ++ news) v' w' ∧ RXs t base u.ownBlock w w' ∧ ∀ k, v'.ownBlock = some k → u.ownBlock = some k ∨ w.heap.size ≤ k := by
  obtain ⟨h, rfl, hh, hne⟩ := hE
  obtain ⟨i0, hi0, hz0, hz1, hz2⟩ := info_partsS hinf
  have hlt := row_lts hO
  obtain ⟨g, cap, w', hr, how, hg, hat, hgl⟩ := run_append_lies (P := Tryd.prog) w tl tl base t i0 z s bytes hu hi0 hz0 hz1 hz2 hzs hs0 u n xs hO
    ⟨h, 0, none⟩ 1 1 news (by rw [hs, Nat.one_mul]) (fun j x hx => World.news_of_block hh j x (by simpa using hx)) h1 (by omega) (by unfold maxLen; omega) (by have : (n + 1) * bytes ≤ 1001 * 48 := Nat.mul_le_mul (by omega) hby; omega) hb _ rfl
  exact ⟨_, w', hr, ⟨_, _, rfl, how⟩, .inr ⟨hg, fun b hb' => ⟨(hlt b hb').1, (hlt b hb').2.2⟩⟩, fun k hk => by
    obtain rfl : g = k := by simpa [Value.ownBlock] using hk
    rcases hat with h | h
    · exact .inl h
    · exact .inr (by omega)⟩
theorem wpList_append_runs {P : Program} {ops : Array Oper} {rest : List Oper} {o : Oper} {a : Act} {Q : Exit → Act → World → Prop} {w w' : World} {v : Value} (hgd : o.guard = none) (s x : Operand) (t : TypeId) (vs vx : Value)
    (ho : o.op = .call { callee := .builtin .append, args := #[s, x], argTypes := #[t, t] }) (hs : a.eval s = vs) (hx : a.eval x = vx) (hr : (Builtin.append_ #[t, t] o.type #[vs, vx]).run P w = .ok v w')
    (h : wpList P ops Q rest (a.put o.dst v) w') : wpList P ops Q (o :: rest) a w := by
  refine wpList_plain hgd fun K hK => ?_
  unfold Oper.wp execOp
  simp only [ho, resolve, invoke, builtin, Sem.run_bind, Sem.run_pure, Result.andThen_ok, List.map_toArray, List.map_cons, List.map_nil, hs, hx, hr]
  exact hK _ _ h
/-- 'append(l, e)': e lies in a block of its own, laid just ahead. -/
theorem wpList_pushXs {ops : Array Oper} {rest : List Oper} {o : Oper} {a : Act} {Q : Exit → Act → World → Prop} (hgd : o.guard = none) (s x : Operand) (t tl : TypeId) (size bytes : Nat) (z : Value) (hu : Tryd.prog.underlying tl = some (.slice t))
    (hinf : (Tryd.prog.info? t).map (fun i => (i.zero, i.size, i.bytes)) = some (some z, size, bytes)) (hzs : z.cells.size = size) (hs0 : 0 < size) (hby : bytes ≤ 48) (hty : o.type = tl)
    (ho : o.op = .call { callee := .builtin .append, args := #[s, x], argTypes := #[tl, tl] }) (w1 : World) (base n : Nat) (u : Value) (xs news : List Value) (hO : w1.ownsRow base t size u n xs) (hn : news.length = size) (h1 : ∀ x ∈ news, x.oneCell' = true) (hl : n ≤ 1000) (hb : base ≤ w1.heap.size)
    (hs : a.eval s = u) (hx : a.eval x = .slice (some ⟨w1.heap.size, 0, none⟩) 1 1)
    (h : ∀ F d w', w'.ownsRow base t size (.slice F (n + 1) d) (n + 1) (xs ++ news) → RXs t base u.ownBlock w1 w' → (∀ k, (Value.slice F (n + 1) d).ownBlock = some k → u.ownBlock = some k ∨ w1.heap.size ≤ k) → wpList Tryd.prog ops Q rest (a.put o.dst (.slice F (n + 1) d)) w') :
    wpList Tryd.prog ops Q (o :: rest) a (w1.alloc (.cells news.toArray t)) := by
  have hE : OwnXs t u.ownBlock news (.slice (some ⟨w1.heap.size, 0, none⟩) 1 1) (w1.alloc (.cells news.toArray t)) := ⟨w1.heap.size, rfl, heap_alloc_new w1 _, fun e => by have := (row_lts hO _ e).2.1; omega⟩
  obtain ⟨v', w', hr, ⟨F, d, rfl, ho'⟩, hR, hat⟩ := ownXs_append (tl := tl) hu hinf hzs hs0 hby (own_below hO (below_alloc _)) hE hn h1 hl (by simp; omega)
  have hR' : RXs t base u.ownBlock w1 w' := by
    rcases hR with hR | ⟨hg, h2⟩
    · exact .inl ((below_alloc _).trans (hR.mono (by simp)))
    · refine .inr ⟨⟨hg.os, hg.tape, hg.output, Nat.le_trans (by simp) hg.size, fun k hk hne => ?_⟩, fun b hb' => ⟨(h2 b hb').1, (row_lts hO b hb').2.2⟩⟩
      rw [hg.block k (by simp; omega) hne]
      exact (below_alloc _).block k hk
  exact wpList_append_runs hgd s x tl u _ ho hs hx (by rw [hty]; exact hr) (h F d w' ho' hR' (fun k hk => (hat k hk).imp id (fun h => by simp at h; omega)))
end Go.Proofs.YtmmogdccjiagnaaDoor
set_option linter.unusedVariables false
namespace Go.Proofs.YtmmogdccjiagnaaDoor
open Go.RowKit

section
variable {A : Option Addr} {n c : Nat} {F : Option Addr} {m d : Nat} {W : List Int} {E : List (Int × Int)} {A' : Option Addr} {n' c' : Nat} {F' : Option Addr} {m' d' : Nat} {O L : List Int}
set_option maxRecDepth 100000 in
set_option maxHeartbeats 4000000 in
theorem over_any (w : World) (x : Int) (hg : IsG w A n c F m d W E) (hk : IsC w A' n' c' F' m' d' O L) (hF : Fits W.length E) (hl : L.length = W.length) :
    Calls Tryd.prog 42 #[.agg #[.slice A n c, .slice F m d], .agg #[.slice A' n' c', .slice F' m' d'], .int .i64 x] w fun e w' => e = .returned (.bool (decide (OverC E L x))) ∧ Below w.heap.size w w' := by
  have B0 := Lib.hid (BxDC.start hg hk)
  obtain ⟨r, hr⟩ : ∃ r, r = decide (OverC E L x) := ⟨_, rfl⟩
  rw [← hr]
  have HR : Hid (r = true ↔ ∀ a ∈ predsL n E x, leftC L a ≤ 0) := Lib.hid (by rw [hr, decide_eq_true_iff, ← hg.hn]; exact (over_iff hF x).symm.trans ⟨fun h a ha => by have := h a ha; omega, fun h a ha => by have := h a ha; omega⟩)
  obtain ⟨ps, hps⟩ : ∃ ps, ps = predsL n E x := ⟨_, rfl⟩
  obtain ⟨k, hk0⟩ : ∃ k, k = ps.length := ⟨_, rfl⟩
  have HK := Lib.hid hk0
  have hk4 : k ≤ n := by rw [hk0, hps]; exact predsL_length n E x
  have hn4 := hg.ln
  have HPS := Lib.hid hps
  have HIN : Hid (∀ a ∈ ps, ∃ q : Nat, a = q ∧ q < m') := Lib.hid (fun a ha => by
    rw [hps] at ha
    obtain ⟨q, h1, h2⟩ := predsL_in ha
    exact ⟨q, h1, by rw [← hk.hm, hl, hg.hn]; exact h2⟩)
  have CP := Lib.hid (fun W' (h : IsG W' A n c F m d W E) => preds_any A F n c m d E x W' (by have := h.ln; omega) h.hm (by have := h.lm; omega) h.pairs)
  rw [← hps] at CP HR
  have HM := Lib.hid hk.hm
  clear hg hk hr hps hk0
  go_enter Tryd.func42, Tryd.ntmps42
  go_wp2_with fail
  refine (CP.out _ B0.out.g).mono ?_
  rintro e w1 ⟨A1, c1, rfl, hi, b1⟩
  rw [← HK.out]
  have B1 := Lib.hid (B0.out.next b1)
  have HI := Lib.hid hi
  clear hi b1 B0
  have B2 := Lib.hid (And.intro B1.out HI.out)
  clear B1 HI
  have q1 := B2.out.1.c1
  go_wp2
  go_loopw [8] (fun i wr => ∃ j : Nat, j ≤ k ∧ i = .int .i64 j ∧ Hid (∀ a ∈ ps.take j, leftC L a ≤ 0) ∧ Hid (BxDC w A n c F m d W E A' n' c' F' m' d' O L wr ∧ Ints wr wr.heap.size A1 ps)) (fun i _ => k - (intOf i).toNat)
  case atStart => exact ⟨0, Nat.zero_le _, rfl, Lib.hid (by simp), B2⟩
  case round =>
    obtain ⟨j, hj, rfl, HO, HB⟩ := hrel
    clear B2
    have q1 := HB.out.1.c1
    by_cases hlt : j < k
    · obtain ⟨bk, off, z, rfl, hbg, hz, d1⟩ := HB.out.2.at_ (k := j) (by rw [← HK.out]; exact hlt)
      have HZ := Lib.hid hz
      obtain ⟨q, rfl, hq⟩ := HIN.out z (List.mem_of_getElem? hz)
      obtain ⟨b2, off2, y, rfl, hbg2, hy, d2⟩ := HB.out.1.k.left.at_ (k := q) (by rw [HM.out]; exact hq)
      have HY : Hid (leftC L (q : Int) = y) := Lib.hid (by rw [leftC_nat, List.getD_eq_getElem?_getD, hy]; rfl)
      clear hz hbg hbg2 hy
      by_cases h0 : 0 < y
      · obtain rfl : r = false := by
          rw [← Bool.not_eq_true, HR.out]
          intro h
          have h1 := h _ (List.mem_of_getElem? HZ.out)
          rw [HY.out] at h1
          omega
        go_wp2
        go_quiet (fail)
        go_wp2
        go_ret
        exact ⟨rfl, (HB.out.1.next (below_drewN (Below.refl _ _) _)).bel⟩
      · have h0b : decide (0 < y) = false := decide_eq_false h0
        have HO2 : Hid (∀ a ∈ ps.take (j + 1), leftC L a ≤ 0) := Lib.hid (fun a ha => by
          rw [take_snoc' HZ.out, List.mem_append, List.mem_singleton] at ha
          rcases ha with ha | rfl
          · exact HO.out a ha
          · rw [HY.out]; omega)
        clear h0
        go_wp2
        go_quiet (fail)
        go_wp2
        go_roundw
        case rel => exact ⟨j + 1, by omega, by go_num, HO2, Lib.hid ⟨HB.out.1.next (below_drewN (Below.refl _ _) _), (HB.out.2.below (below_drewN (Below.refl _ _) _)).more (by simp)⟩⟩
        case measure => simp [intOf]; omega
    · obtain rfl : k = j := by omega
      obtain rfl : r = true := HR.out.mpr (fun a ha => HO.out a (by rw [List.take_of_length_le (by rw [← HK.out]; exact Nat.le_refl _)]; exact ha))
      go_wp2
      go_ret
      exact ⟨rfl, HB.out.1.bel⟩
end
end Go.Proofs.YtmmogdccjiagnaaDoor
