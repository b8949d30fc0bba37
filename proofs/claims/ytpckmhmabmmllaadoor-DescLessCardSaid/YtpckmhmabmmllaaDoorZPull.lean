/- 'x.F = append(x.F[:k], x.F[k+1:]...)', F a field of a task in a box of the call's own, a row of the call's own: a region that draws its order, in the seat YtpckmhmabmmllaaDoor. No statement is proved here. -/
import Derived.Test.YtpckmhmabmmllaaDoorZM5
import Derived.Test.YtpckmhmabmmllaaDoorZM1
import Derived.Laws.IdiomCopy
import Derived.ArgAppend
import Derived.Deep.RegionLaw
set_option linter.unusedVariables false
namespace Go.Proofs.YtpckmhmabmmllaaDoor
open Go Go.RowKit

def setArr : Array Value → Nat → List Value → Array Value
  | cur, _, [] => cur
  | cur, o, v :: r => setArr (cur.setIfInBounds o v) (o + 1) r
theorem setCells_row (g : Nat) (t : TypeId) : ∀ (vs : List Value) (o : Nat) (w : World) (cur : Array Value), w.heap[g]? = some (.cells cur t (0, 0)) → (w.setCells g o vs).heap[g]? = some (.cells (setArr cur o vs) t (0, 0))
  | [], _, _, _, h => h
  | v :: r, o, w, cur, h => by
    rw [World.setCells, setArr]
    refine setCells_row g t r (o + 1) _ _ ?_
    simp [World.setCell, Array.getElem?_modify, h]
theorem setCells_else (g : Nat) {k : Nat} (hk : k ≠ g) : ∀ (vs : List Value) (o : Nat) (w : World), (w.setCells g o vs).heap[k]? = w.heap[k]?
  | [], _, _ => rfl
  | v :: r, o, w => by
    rw [World.setCells, setCells_else g hk r (o + 1)]
    exact Below.heap_setCell _ _ _ _ hk
theorem setCells_below {B g : Nat} {a : World} (hg : B ≤ g) : ∀ (vs : List Value) (o : Nat) {w : World}, Below B a w → Below B a (w.setCells g o vs)
  | [], _, _, h => h
  | v :: r, o, w, h => by
    rw [World.setCells]
    exact setCells_below hg r (o + 1) (h.setCell hg v)
theorem setArr_list : ∀ (vs : List Value) (o : Nat) (cur : Array Value), o + vs.length ≤ cur.size → (setArr cur o vs).toList = cur.toList.take o ++ vs ++ cur.toList.drop (o + vs.length)
  | [], o, cur, h => by simp [setArr]
  | v :: r, o, cur, h => by
    have hl : o < cur.toList.length := by simp at h ⊢; omega
    have h1 : (cur.toList.set o v).take (o + 1) = cur.toList.take o ++ [v] := by
      apply List.ext_getElem?
      intro j
      by_cases hj : j < o
      · rw [List.getElem?_take_of_lt (by omega), List.getElem?_set_ne (by omega), List.getElem?_append_left (by simp at hl ⊢; omega), List.getElem?_take_of_lt hj]
      · by_cases hj2 : j = o
        · subst hj2
          rw [List.getElem?_take_of_lt (by omega), List.getElem?_set_self hl, List.getElem?_append_right (by simp; omega)]
          simp at hl
          simp [Nat.min_eq_left (Nat.le_of_lt hl)]
        · rw [List.getElem?_eq_none (by simp; omega), List.getElem?_eq_none (by simp; omega)]
    have h2 : (cur.toList.set o v).drop (o + 1 + r.length) = cur.toList.drop (o + 1 + r.length) := by
      apply List.ext_getElem?
      intro j
      rw [List.getElem?_drop, List.getElem?_drop, List.getElem?_set_ne (by omega)]
    rw [setArr, setArr_list r (o + 1) _ (by simp at h ⊢; omega), Array.toList_setIfInBounds, h1, h2, List.length_cons, show o + (r.length + 1) = o + 1 + r.length by omega]
    simp
/-- A row of the call's own, its k-th element taken out. -/
theorem pull_row {w w' : World} {base g m cap k sz : Nat} {e : TypeId} {xs : List Value} (h : w.ownsRow base e sz (.slice (some ⟨g, 0, none⟩) m cap) m xs) (hk : k < m) {cur : Array Value} (hg : w.heap[g]? = some (.cells cur e (0, 0)))
    (hw : w'.heap[g]? = some (.cells (setArr cur (k * sz) (xs.drop ((k + 1) * sz))) e (0, 0))) : w'.ownsRow base e sz (.slice (some ⟨g, 0, none⟩) (m - 1) cap) (m - 1) (xs.take (k * sz) ++ xs.drop ((k + 1) * sz)) := by
  obtain ⟨hl, h⟩ := h
  rcases h with ⟨h1, _⟩ | ⟨g', cap', cur', h1, hb, hgg, hmc, hcm, hcs, ht⟩
  · injection h1 with h1; cases h1
  · injection h1 with e1 _ e3
    injection e1 with e1
    injection e1 with e1
    subst e1 e3
    rw [hg] at hgg
    injection hgg with hgg
    injection hgg with hgg
    subst hgg
    have hkm : (k + 1) * sz ≤ m * sz := Nat.mul_le_mul_right _ hk
    have hks : (k + 1) * sz = k * sz + sz := Nat.succ_mul k sz
    have hms : (m - 1) * sz + sz = m * sz := by
      rw [← Nat.succ_mul]
      congr 1
      omega
    have hmcap : m * sz ≤ cap * sz := Nat.mul_le_mul_right _ hmc
    have hvl : (xs.drop ((k + 1) * sz)).length = m * sz - (k + 1) * sz := by rw [List.length_drop, hl]
    have hsl := setArr_list (xs.drop ((k + 1) * sz)) (k * sz) cur (by rw [hvl, hcs]; omega)
    have hxt : xs.take (k * sz) = cur.toList.take (k * sz) := by rw [← ht, List.take_take, Nat.min_eq_left (by omega)]
    refine ⟨?_, .inr ⟨g, cap, _, rfl, hb, hw, by omega, hcm, ?_, ?_⟩⟩
    · rw [List.length_append, List.length_take, List.length_drop, hl]
      omega
    · rw [← Array.length_toList, hsl]
      simp only [List.length_append, List.length_take, List.length_drop, Array.length_toList, hl, hcs]
      omega
    · rw [hsl, hxt, List.take_append_of_le_length (by simp only [List.length_append, List.length_take, List.length_drop, Array.length_toList, hl, hcs]; omega), List.take_of_length_le (by simp only [List.length_append, List.length_take, List.length_drop, Array.length_toList, hl, hcs]; omega)]
/-- As it was, but for the blocks g and gx. -/
structure Turned (g gx : Nat) (v w : World) : Prop where
  os : w.os = v.os
  tape : w.tape = v.tape
  output : w.output = v.output
  size : v.heap.size ≤ w.heap.size
  keep : ∀ j, j < v.heap.size → j ≠ g → j ≠ gx → w.heap[j]? = v.heap[j]?
theorem Turned.below {g gx base : Nat} {v w : World} (h : Turned g gx v w) (hg : base ≤ g) (hx : base ≤ gx) (hb : base ≤ v.heap.size) : Below base v w :=
  ⟨h.os, h.tape, h.output, h.size, fun k hk => h.keep k (by omega) (by omega) (by omega)⟩
theorem own_turned {g gx base : Nat} {v w : World} {e D : TypeId} {s n : Nat} {u : Value} {xs : List Value} {cs : Array Value} (h : v.ownsRow base e s u n xs) (ht : Turned g gx v w) (hx : v.heap[gx]? = some (.cells cs D (0, 0))) (hne : e ≠ D) (hg : u.ownBlock ≠ some g) : w.ownsRow base e s u n xs := by
  refine ⟨h.1, ?_⟩
  rcases h.2 with hn | ⟨g', cap, cur, rfl, hb, hgg, rest⟩
  · exact .inl hn
  · refine .inr ⟨g', cap, cur, rfl, hb, ?_, rest⟩
    rw [ht.keep g' (Array.getElem?_eq_some_iff.1 hgg).1 (fun q => hg (by simp [Value.ownBlock, q])) (fun q => ?_)]
    · exact hgg
    · subst q
      rw [hx] at hgg
      injection hgg with hgg
      injection hgg with _ h2 _
      exact hne h2.symm
theorem own_type {g base : Nat} {v : World} {e e' : TypeId} {s n : Nat} {u : Value} {xs : List Value} {cs : Array Value} (h : v.ownsRow base e s u n xs) (hg : v.heap[g]? = some (.cells cs e' (0, 0))) (hne : e ≠ e') : u.ownBlock ≠ some g := by
  intro q
  rcases h.2 with ⟨rfl, _⟩ | ⟨g', cap, cur, rfl, hb, hgg, rest⟩
  · simp [Value.ownBlock] at q
  · have : g' = g := by simpa [Value.ownBlock] using q
    subst this
    rw [hg] at hgg
    injection hgg with hgg
    injection hgg with _ h2 _
    exact hne h2.symm
/-- The text of such a region. -/
def pullShape (D t ti : TypeId) (fi x y : Nat) (d : Nat → Nat) : Nat → Op → Prop
  | 0, op => op = .fieldAddr D (.tmp x) fi
  | 1, op => op = .load t (.tmp (d 0))
  | 2, op => op = .move (.tmp y)
  | 3, op => op = .slice t (.tmp (d 1)) none (some (.tmp (d 2))) none
  | 4, op => op = .fieldAddr D (.tmp x) fi
  | 5, op => op = .load t (.tmp (d 4))
  | 6, op => op = .move (.tmp y)
  | 7, op => op = .binOp .add ti (.tmp (d 6)) (.const (.int .i64 1)) ti
  | 8, op => op = .slice t (.tmp (d 5)) (some (.tmp (d 7))) none none
  | 9, op => op = .call { callee := .builtin .append, args := #[.tmp (d 3), .tmp (d 8)], argTypes := #[t, t] }
  | 10, op => op = .fieldAddr D (.tmp x) fi
  | 11, op => op = .store t (.tmp (d 10)) (.tmp (d 9))
  | _, _ => True
def pullDeps (ops : Array Oper) : Bool := [(1, 0), (3, 1), (3, 2), (5, 4), (7, 6), (8, 5), (8, 7), (9, 3), (9, 8)].all fun p => (match ops[p.1]? with | some o => o.after.any (fun e => e.on == p.2 && Region.binds .any e) | none => false)
theorem pull_dep {ops : Array Oper} (h : pullDeps ops = true) {k j : Nat} (hp : (k, j) ∈ [(1, 0), (3, 1), (3, 2), (5, 4), (7, 6), (8, 5), (8, 7), (9, 3), (9, 8)]) {o : Oper} (ho : ops[k]? = some o) : ∃ e ∈ o.after, e.on = j ∧ Region.binds .any e = true := by
  have := List.all_eq_true.1 h _ hp
  simp only [ho] at this
  obtain ⟨e, he, h8⟩ := Array.any_eq_true'.1 this
  rw [Bool.and_eq_true, beq_iff_eq] at h8
  exact ⟨e, he, h8.1, h8.2⟩
/-- What the region's operations have yielded. -/
def PullF (g gx fi m cap k : Nat) (e : TypeId) (cur' : Array Value) (AD : Option Addr) : Nat → Value → World → Prop
  | 0, v, _ => v = .pointer (some ⟨gx, fi, none⟩)
  | 1, v, _ => v = .slice (some ⟨g, 0, none⟩) m cap
  | 2, v, _ => v = .int .i64 k
  | 3, v, _ => v = .slice (some ⟨g, 0, none⟩) k cap
  | 4, v, _ => v = .pointer (some ⟨gx, fi, none⟩)
  | 5, v, _ => v = .slice (some ⟨g, 0, none⟩) m cap
  | 6, v, _ => v = .int .i64 k
  | 7, v, _ => v = .int .i64 ((k : Int) + 1)
  | 8, v, _ => v = .slice AD (m - (k + 1)) (cap - (k + 1))
  | 9, v, w => v = .slice (some ⟨g, 0, none⟩) (m - 1) cap ∧ w.heap[g]? = some (.cells cur' e (0, 0))
  | 10, v, _ => v = .pointer (some ⟨gx, fi, none⟩)
  | _, _, _ => True
/-- What the append reads. -/
theorem pull_news' {v0 : World} {g cap k m sz : Nat} {e : TypeId} {cur : Array Value} {xs : List Value} (hg : v0.heap[g]? = some (.cells cur e (0, 0))) (hl : xs.length = m * sz) (ht : cur.toList.take (m * sz) = xs) (hk : k < m) (hmc : m ≤ cap) :
    ∃ A : Addr, (if cap = k + 1 then some (⟨g, 0, none⟩ : Addr) else some ⟨g, (k + 1) * sz, none⟩) = some A ∧
      ∀ (w : World), w.heap[g]? = v0.heap[g]? → ∀ j x, (xs.drop ((k + 1) * sz))[j]? = some x → w.cell? (A.add j) = some x := by
  by_cases h : cap = k + 1
  · refine ⟨⟨g, 0, none⟩, by simp [h], fun w _ j x hx => ?_⟩
    have hmk : m = k + 1 := by omega
    have h0 : xs.drop ((k + 1) * sz) = [] := List.drop_eq_nil_of_le (by rw [hl, hmk]; exact Nat.le_refl _)
    rw [h0] at hx
    simp at hx
  · refine ⟨⟨g, (k + 1) * sz, none⟩, by simp [h], fun w hw j x hx => ?_⟩
    rw [List.getElem?_drop, ← ht] at hx
    have hlt := (List.getElem?_eq_some_iff.1 hx).1
    rw [List.getElem?_take_of_lt (by rw [List.length_take] at hlt; omega), Array.getElem?_toList] at hx
    rw [addr_add, World.cell?_of_block (w := v0) (a := ⟨g, _, none⟩) hw]
    rw [cell_of_row v0 g _ _ _ _ hg]
    exact hx
theorem pull_spare' {v0 w : World} {g cap k m sz : Nat} {e : TypeId} {cur : Array Value} {xs : List Value} (hg : v0.heap[g]? = some (.cells cur e (0, 0))) (hl : xs.length = m * sz) (hk : k < m) (hmc : m ≤ cap) (hcs : cur.size = cap * sz) (hw : w.heap[g]? = v0.heap[g]?) :
    ∀ j, j < (xs.drop ((k + 1) * sz)).length → (w.cell? ⟨g, 0 + k * sz + j, none⟩).isSome = true ∧ w.frozen? ⟨g, 0 + k * sz + j, none⟩ = false := by
  intro j hj
  rw [List.length_drop, hl] at hj
  have h1 : (k + 1) * sz = k * sz + sz := Nat.succ_mul k sz
  have h2 : m * sz ≤ cap * sz := Nat.mul_le_mul_right _ hmc
  constructor
  · rw [World.cell?_of_block (w := v0) (a := ⟨g, _, none⟩) hw, cell_of_row v0 g _ _ _ _ hg]
    have : 0 + k * sz + j < cur.size := by omega
    simp [show k * sz + j < cur.size by omega]
  · rw [World.frozen?_of_block (w := v0) (a := ⟨g, _, none⟩) hw, frozen_of_row v0 g _ _ _ hg]
/-- Between two steps: but for block g all is as it was. -/
structure Near1 (g : Nat) (v w : World) : Prop where
  os : w.os = v.os
  tape : w.tape = v.tape
  output : w.output = v.output
  size : v.heap.size ≤ w.heap.size
  keep : ∀ j, j < v.heap.size → j ≠ g → w.heap[j]? = v.heap[j]?
theorem Near1.trans {g : Nat} {a b c : World} (h : Near1 g a b) (k : Near1 g b c) : Near1 g a c :=
  ⟨k.os.trans h.os, k.tape.trans h.tape, k.output.trans h.output, Nat.le_trans h.size k.size, fun j hj hne => (k.keep j (Nat.lt_of_lt_of_le hj h.size) hne).trans (h.keep j hj hne)⟩
theorem Near1.of_below {g : Nat} {v w : World} (h : Below v.heap.size v w) : Near1 g v w := ⟨h.os, h.tape, h.output, h.size, fun j hj _ => h.block j hj⟩
theorem setCells_near1 {g : Nat} : ∀ (vs : List Value) (o : Nat) (w : World), Near1 g w (w.setCells g o vs)
  | [], _, w => ⟨rfl, rfl, rfl, Nat.le_refl _, fun _ _ _ => rfl⟩
  | v :: r, o, w => by
    rw [World.setCells]
    have h : Near1 g w (w.setCell ⟨g, o, none⟩ v) := ⟨rfl, rfl, rfl, by simp [World.setCell], fun j _ hne => Below.heap_setCell _ _ _ _ hne⟩
    exact h.trans (setCells_near1 r (o + 1) _)
set_option maxHeartbeats 4000000 in
theorem wp_region_pull {P : Program} {ops : Array Oper} {Q : Exit → Act → World → Prop} (D t e ti : TypeId) (sz fi x y : Nat) (ds : List Nat) {id : Nat} {a0 : Act} {v0 : World} (hm : P.follows .mixedOrders = true) (hG : gatherB ops 11 ds = true) (hsz : ∀ d ∈ ds, d < a0.tmps.size)
    (hdep : pullDeps ops = true) (hshape : ∀ k o, ops[k]? = some o → pullShape D t ti fi x y (fun j => ds.getD j 0) k o.op) (hdst : ∀ o, ops[11]? = some o → o.dst = none)
    (hxd : x ∉ ds) (hyd : y ∉ ds) (i0 : TypeInfo) (ut : P.underlying t = some (.slice e)) (hi0 : P.info? e = some i0) (hisz : i0.size = sz)
    (g gx m cap k base : Nat) (row cur : Array Value) (xs : List Value) (AD : Addr) (hx : a0.eval (.tmp x) = .pointer (some ⟨gx, 0, none⟩)) (hy : a0.eval (.tmp y) = .int .i64 k)
    (hrow : v0.heap[gx]? = some (.cells row D (0, 0))) (hfi : row[fi]? = some (.slice (some ⟨g, 0, none⟩) m cap)) (hg : v0.heap[g]? = some (.cells cur e (0, 0))) (hgx : gx ≠ g) (hk : k < m) (hmc : m ≤ cap) (hcs : cur.size = cap * sz) (hl : xs.length = m * sz) (h1c : ∀ u ∈ xs, u.oneCell' = true)
    (hAD : ∀ (w : World), w.heap[g]? = v0.heap[g]? → ∀ j x, (xs.drop ((k + 1) * sz))[j]? = some x → w.cell? (AD.add j) = some x)
    (r0 : ∀ (ρ : Operand → Value) (o : Oper) (w : World) (q : Operand), o.op = .fieldAddr D q fi → ρ q = .pointer (some ⟨gx, 0, none⟩) → (execOp ρ o).run P w = .ok (.value (.pointer (some ⟨gx, fi, none⟩))) w)
    (r1 : ∀ (ρ : Operand → Value) (o : Oper) (w : World) (q : Operand), o.op = .load t q → ρ q = .pointer (some ⟨gx, fi, none⟩) → w.cell? ⟨gx, fi, none⟩ = some (.slice (some ⟨g, 0, none⟩) m cap) → (execOp ρ o).run P w = .ok (.value (.slice (some ⟨g, 0, none⟩) m cap)) w)
    (r3 : ∀ (ρ : Operand → Value) (o : Oper) (w : World) (q q' : Operand), o.op = .slice t q none (some q') none → ρ q = .slice (some ⟨g, 0, none⟩) m cap → ρ q' = .int .i64 k → (execOp ρ o).run P w = .ok (.value (.slice (some ⟨g, 0, none⟩) k cap)) w)
    (r7 : ∀ (ρ : Operand → Value) (o : Oper) (w : World) (q : Operand), o.op = .binOp .add ti q (.const (.int .i64 1)) ti → ρ q = .int .i64 k → ρ (.const (.int .i64 1)) = .int .i64 1 → (execOp ρ o).run P w = .ok (.value (.int .i64 ((k : Int) + 1))) w)
    (r8 : ∀ (ρ : Operand → Value) (o : Oper) (w : World) (q q' : Operand), o.op = .slice t q (some q') none none → ρ q = .slice (some ⟨g, 0, none⟩) m cap → ρ q' = .int .i64 ((k : Int) + 1) → (execOp ρ o).run P w = .ok (.value (.slice (some AD) (m - (k + 1)) (cap - (k + 1)))) w)
    (r11 : ∀ (ρ : Operand → Value) (o : Oper) (w : World) (q q' : Operand) (u : Value), o.op = .store t q q' → ρ q = .pointer (some ⟨gx, fi, none⟩) → ρ q' = .slice (some ⟨g, 0, none⟩) (m - 1) cap → w.cell? ⟨gx, fi, none⟩ = some u → w.frozen? ⟨gx, fi, none⟩ = false → (execOp ρ o).run P w = .ok .skip (w.setCell ⟨gx, fi, none⟩ (.slice (some ⟨g, 0, none⟩) (m - 1) cap)))
    (hend : ∀ (vals : Nat → Value) (w' : World), Turned g gx v0 w' → w'.heap[g]? = some (.cells (setArr cur (k * sz) (xs.drop ((k + 1) * sz))) e (0, 0)) → w'.heap[gx]? = some (.cells (row.setIfInBounds fi (.slice (some ⟨g, 0, none⟩) (m - 1) cap)) D (0, 0)) → Q .normal ⟨(fillA a0 ds vals).toArray, a0.defers⟩ w') :
    (Code.region id ops true).wp P Q a0 v0 := by
  have hgxl := (Array.getElem?_eq_some_iff.1 hrow).1
  have hgl := (Array.getElem?_eq_some_iff.1 hg).1
  refine wp_region_gather 11 9 ds hm hG hsz (fun w => Near1 g v0 w) (fun w => w.heap[g]? = some (.cells cur e (0, 0))) (fun w w' => w.heap.size ≤ w'.heap.size ∧ Near1 g w w') (PullF g gx fi m cap k e (setArr cur (k * sz) (xs.drop ((k + 1) * sz))) (some AD))
    (fun w w' h => ⟨h.size, .of_below h⟩) (fun w w' h hr => h.trans hr.2) (fun w w' h hb => by rw [hb.block g (Array.getElem?_eq_some_iff.1 h).1]; exact h)
    (fun j v w w' hne h hr => ?_) (fun v w w' h hb => ⟨h.1, by rw [hb.block g (Array.getElem?_eq_some_iff.1 h.2).1]; exact h.2⟩) ⟨rfl, rfl, rfl, Nat.le_refl _, fun _ _ _ => rfl⟩ hg ?_ ?_
  · match j, hne, h with
    | 0, _, h => exact h
    | 1, _, h => exact h
    | 2, _, h => exact h
    | 3, _, h => exact h
    | 4, _, h => exact h
    | 5, _, h => exact h
    | 6, _, h => exact h
    | 7, _, h => exact h
    | 8, _, h => exact h
    | 9, hne, _ => exact absurd rfl hne
    | 10, _, h => exact h
    | j + 11, _, _ => exact trivial
  · intro j o hj ho ρ w hI hA hd hJ
    have hs := hshape j o ho
    have hb0 : w.heap[gx]? = some (.cells row D (0, 0)) := (hI.keep gx hgxl hgx).trans hrow
    have hcell : w.cell? ⟨gx, fi, none⟩ = some (.slice (some ⟨g, 0, none⟩) m cap) := by rw [cell_of_row w gx fi _ _ _ hb0, hfi]
    have hX := (hA.tmp x hxd).trans hx
    have hY := (hA.tmp y hyd).trans hy
    have dep : ∀ i : Nat, (j, i) ∈ [(1, 0), (3, 1), (3, 2), (5, 4), (7, 6), (8, 5), (8, 7), (9, 3), (9, 8)] → PullF g gx fi m cap k e (setArr cur (k * sz) (xs.drop ((k + 1) * sz))) (some AD) i (ρ (.tmp (ds.getD i 0))) w := fun i hp => by
      obtain ⟨ed, he, h1, h2⟩ := pull_dep hdep hp ho
      have := hd ed he h2
      rwa [h1] at this
    match j, hj, hs, dep, hJ with
    | 0, _, hs, _, _ => exact ⟨_, w, r0 ρ o w _ hs hX, rfl, by rw [if_neg (by decide)]; exact Below.refl _ _⟩
    | 1, _, hs, dep, _ => exact ⟨_, w, r1 ρ o w _ hs (dep 0 (by decide)) hcell, rfl, by rw [if_neg (by decide)]; exact Below.refl _ _⟩
    | 2, _, hs, _, _ => exact ⟨.int .i64 k, w, by simp only [execOp]; rw [show o.op = _ from hs]; simp only []; rw [hY]; rfl, rfl, by rw [if_neg (by decide)]; exact Below.refl _ _⟩
    | 3, _, hs, dep, _ => exact ⟨_, w, r3 ρ o w _ _ hs (dep 1 (by decide)) (dep 2 (by decide)), rfl, by rw [if_neg (by decide)]; exact Below.refl _ _⟩
    | 4, _, hs, _, _ => exact ⟨_, w, r0 ρ o w _ hs hX, rfl, by rw [if_neg (by decide)]; exact Below.refl _ _⟩
    | 5, _, hs, dep, _ => exact ⟨_, w, r1 ρ o w _ hs (dep 4 (by decide)) hcell, rfl, by rw [if_neg (by decide)]; exact Below.refl _ _⟩
    | 6, _, hs, _, _ => exact ⟨.int .i64 k, w, by simp only [execOp]; rw [show o.op = _ from hs]; simp only []; rw [hY]; rfl, rfl, by rw [if_neg (by decide)]; exact Below.refl _ _⟩
    | 7, _, hs, dep, _ => exact ⟨_, w, r7 ρ o w _ hs (dep 6 (by decide)) (hA.const _), rfl, by rw [if_neg (by decide)]; exact Below.refl _ _⟩
    | 8, _, hs, dep, _ => exact ⟨_, w, r8 ρ o w _ _ hs (dep 5 (by decide)) (dep 7 (by decide)), rfl, by rw [if_neg (by decide)]; exact Below.refl _ _⟩
    | 9, _, hs, dep, hJ =>
      have hj := hJ rfl
      have h3 : ρ (.tmp (ds.getD 3 0)) = .slice (some ⟨g, 0, none⟩) k cap := dep 3 (by decide)
      have h8 : ρ (.tmp (ds.getD 8 0)) = .slice (some AD) (m - (k + 1)) (cap - (k + 1)) := dep 8 (by decide)
      have hb1 : w.heap[g]? = v0.heap[g]? := by rw [hj, hg]
      subst hisz
      have hsp := pull_spare' (w := w) (k := k) hg hl hk hmc hcs hb1
      have hnl : (xs.drop ((k + 1) * i0.size)).length = (m - (k + 1)) * i0.size := by rw [List.length_drop, hl, ← Nat.sub_mul]
      have hrun := run_append_room_cells (P := P) w t o.type e i0 ut hi0 g 0 k cap AD (m - (k + 1)) (cap - (k + 1)) (xs.drop ((k + 1) * i0.size)) hnl (hAD w hb1) (fun u hu => h1c u (List.mem_of_mem_drop hu)) (by omega) (fun j hj => (hsp j hj).1) (fun j hj => (hsp j hj).2)
      refine ⟨.slice (some ⟨g, 0, none⟩) (k + (m - (k + 1))) cap, w.setCells g (0 + k * i0.size) (xs.drop ((k + 1) * i0.size)), ?_, ⟨by rw [show k + (m - (k + 1)) = m - 1 by omega], ?_⟩, ?_⟩
      · have hop : o.op = .call { callee := .builtin .append, args := #[.tmp (ds.getD 3 0), .tmp (ds.getD 8 0)], argTypes := #[t, t] } := hs
        clear hs dep hd hsp hAD
        generalize Operand.tmp (ds.getD 3 0) = q3 at hop h3
        generalize Operand.tmp (ds.getD 8 0) = q8 at hop h8
        simp [execOp, hop, resolve, invoke, builtin, h3, h8, hrun, Result.andThen]
      · rw [Nat.zero_add]
        exact setCells_row g e _ _ w cur hj
      · rw [if_pos rfl]
        have h := setCells_near1 (g := g) (xs.drop ((k + 1) * i0.size)) (0 + k * i0.size) w
        exact ⟨h.size, h⟩
    | 10, _, hs, _, _ => exact ⟨_, w, r0 ρ o w _ hs hX, rfl, by rw [if_neg (by decide)]; exact Below.refl _ _⟩
    | j + 11, hj, _, _, _ => omega
  · intro o ho a w hI hA hs hd hF
    have hsh : o.op = .store t (.tmp (ds.getD 10 0)) (.tmp (ds.getD 9 0)) := hshape 11 o ho
    have hb0 : w.heap[gx]? = some (.cells row D (0, 0)) := (hI.keep gx hgxl hgx).trans hrow
    have hcell : w.cell? ⟨gx, fi, none⟩ = some (.slice (some ⟨g, 0, none⟩) m cap) := by rw [cell_of_row w gx fi _ _ _ hb0, hfi]
    have f10 : a.eval (.tmp (ds.getD 10 0)) = .pointer (some ⟨gx, fi, none⟩) := hF 10 (by decide)
    have f9 := hF 9 (by decide)
    obtain ⟨f9a, f9b⟩ : a.eval (.tmp (ds.getD 9 0)) = .slice (some ⟨g, 0, none⟩) (m - 1) cap ∧ w.heap[g]? = some (.cells (setArr cur (k * sz) (xs.drop ((k + 1) * sz))) e (0, 0)) := f9
    unfold Oper.wp
    rw [r11 a.eval o w _ _ _ hsh f10 f9a hcell (frozen_of_row w gx fi _ _ hb0), Oper.upon_skip, hdst o ho]
    show Q .normal a _
    rw [act_fill hA hs hd]
    refine hend (fun t => a.eval (.tmp t)) _ ⟨hI.os, hI.tape, hI.output, by simp only [World.setCell, Array.size_modify]; exact hI.size, fun j hj h1 h2 => ?_⟩ ?_ (heap_setCell_same _ gx fi _ _ _ hb0)
    · rw [heap_setCell_other _ _ _ _ h2]
      exact hI.keep j hj h1
    · rw [heap_setCell_other _ _ _ _ (Ne.symm hgx)]
      exact f9b
end Go.Proofs.YtpckmhmabmmllaaDoor
