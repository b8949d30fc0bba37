/- Words for memory in the seat YtkmajhbfmdoamaaGreatDoor: a list of integers of the call's own, that grows one by one.
   Words for memory in the seat YtkmajhbfmdoamaaGreatDoor: a list of edges of the call's own; 'append([]T{}, l...)' leaves all that was there.
   A region that draws its order, by an invariant: what holds whichever operations have come up.
   A region that draws its order, whose operations read or make new blocks (one of them may let one row grow), and whose last operation waits for all: by facts on what each has yielded.
   Words for memory in the seat YtkmajhbfmdoamaaGreatDoor: a list of integers that is handed out; natural numbers as integers.
   No statement is proved here. -/
import Derived.Test.YtkmajhbfmdoamaaGreatDoorChecked
import Derived.Test.YtkmajhbfmdoamaaGreatDoorZM1
import Derived.WalkSmall
import Derived.ArgAppend
import Derived.OwnWalk
import Derived.Orders
import Derived.WalkKit
import Derived.KernelRfl
import Derived.Below
import Derived.Laws.AppendOwn
set_option linter.unusedSimpArgs false
set_option linter.unusedVariables false
namespace Go.Proofs.YtkmajhbfmdoamaaGreatDoor
open Go.RowKit

/-- A list of integers in a block of the call's own (from base on). -/
def OwnI (w : World) (base : Nat) (v : Value) (zs : List Int) : Prop := w.ownsRow base 3 1 v zs.length (zs.map (Value.int .i64))
theorem OwnI.new (w : World) (base : Nat) (hb : base ≤ w.heap.size) : OwnI (w.alloc (.cells #[] 3)) base (.slice (some ⟨w.heap.size, 0, none⟩) 0 0) [] :=
  ⟨rfl, .inr ⟨w.heap.size, 0, #[], rfl, hb, heap_alloc_new w _, Nat.le_refl _, by simp [maxLen], rfl, rfl⟩⟩
theorem OwnI.below {w w' : World} {base : Nat} {v : Value} {zs : List Int} (h : OwnI w base v zs) (hb : Below w.heap.size w w') : OwnI w' base v zs := by
  refine ⟨h.1, ?_⟩
  rcases h.2 with hn | ⟨g, cap, cur, rfl, hg, hgg, rest⟩
  · exact .inl hn
  · exact .inr ⟨g, cap, cur, rfl, hg, by rw [hb.block g (Array.getElem?_eq_some_iff.1 hgg).1]; exact hgg, rest⟩
theorem OwnI.alloc {w : World} {base : Nat} {v : Value} {zs : List Int} (h : OwnI w base v zs) (o : Obj) : OwnI (w.alloc o) base v zs := h.below (below_alloc o)
theorem OwnI.slice {w : World} {base : Nat} {v : Value} {zs : List Int} (h : OwnI w base v zs) : ∃ A c, v = .slice A zs.length c ∧ Ints w w.heap.size A zs := Ints.of_own h
theorem int_cell_info : (Tryz.prog.info? 3).map (fun i => (i.zero, i.size, i.bytes)) = some (some (.int .i64 0), 1, 8) := by kernel_rfl
/-- 'append(l, n)': the integer lies in a block of its own, laid just ahead. -/
theorem wpList_push {ops : Array Oper} {rest : List Oper} {o : Oper} {a : Act} {Q : Exit → Act → World → Prop} (hgd : o.guard = none) (s x : Operand)
    (ho : o.op = .call { callee := .builtin .append, args := #[s, x], argTypes := #[28, 28] })
    (w1 : World) (base : Nat) (v : Value) (zs : List Int) (n : Int) (len : Nat) (hlen : zs.length = len) (hl : len ≤ 1000) (hO : OwnI w1 base v zs) (hB : base ≤ w1.heap.size)
    (hs : a.eval s = v) (hx : a.eval x = .slice (some ⟨w1.heap.size, 0, none⟩) 1 1)
    (h : ∀ A' c' w', OwnI w' base (.slice A' (len + 1) c') (zs ++ [n]) → Below base w1 w' → wpList Tryz.prog ops Q rest (a.put o.dst (.slice A' (len + 1) c')) w') : wpList Tryz.prog ops Q (o :: rest) a (w1.alloc (.cells #[.int .i64 n] 3)) := by
  obtain ⟨i0, hi0, hz0, hz1, hz2⟩ : ∃ i, Tryz.prog.info? 3 = some i ∧ i.zero = some (.int .i64 0) ∧ i.size = 1 ∧ i.bytes = 8 := by
    have h := int_cell_info
    cases hi : Tryz.prog.info? 3 with
    | none => rw [hi] at h; cases h
    | some i =>
      rw [hi] at h
      simp at h
      exact ⟨i, rfl, h.1, h.2.1, h.2.2⟩
  subst hlen
  refine wpList_append_own _ hgd s x 28 ho base 3 i0 (.int .i64 0) 1 8 Tryz.underlying28 hi0 hz0 hz1 hz2 rfl (by omega) v zs.length (zs.map (Value.int .i64)) hs (hO.alloc _) ⟨w1.heap.size, 0, none⟩ 1 1 [.int .i64 n] hx rfl ?_ ?_
    (by unfold maxLen; omega) (by omega) (by simp; omega) ?_
  · intro j u hu
    match j with
    | 0 =>
      obtain rfl : Value.int .i64 n = u := by simpa using hu
      rw [addr_add, World.cell?_alloc_at _ _ _ _ rfl]
      rfl
    | j + 1 => simp at hu
  · intro u hu
    obtain rfl : u = .int .i64 n := by simpa using hu
    rfl
  · intro v' w' hown' hg _
    have hO' : OwnI w' base v' (zs ++ [n]) := by
      unfold OwnI
      rw [List.length_append, List.length_singleton, List.map_append]
      exact hown'
    obtain ⟨A', c', rfl, _⟩ := hO'.slice
    rw [show (zs ++ [n]).length = zs.length + 1 by simp] at hO' ⊢
    refine h A' c' w' hO' (((Below.refl base w1).alloc hB _).grown hg (by simp; omega) (fun k hk => ?_))
    exact (hO.lt k hk).1
end Go.Proofs.YtkmajhbfmdoamaaGreatDoor
set_option linter.unusedVariables false
namespace Go.Proofs.YtkmajhbfmdoamaaGreatDoor
open Go.RowKit

def flatE (es : List (Int × Int)) : List Value := es.flatMap fun e => [.int .i64 e.1, .int .i64 e.2]
theorem flatE_length (es : List (Int × Int)) : (flatE es).length = es.length * 2 := by
  induction es with
  | nil => rfl
  | cons e es ih =>
    rw [show flatE (e :: es) = .int .i64 e.1 :: .int .i64 e.2 :: flatE es from rfl, List.length_cons, List.length_cons, List.length_cons, ih]
    omega
theorem flatE_append (a b : List (Int × Int)) : flatE (a ++ b) = flatE a ++ flatE b := by unfold flatE; rw [List.flatMap_append]
theorem flatE_at : ∀ {es : List (Int × Int)} {k : Nat} {e : Int × Int}, es[k]? = some e → (flatE es)[k * 2]? = some (.int .i64 e.1) ∧ (flatE es)[k * 2 + 1]? = some (.int .i64 e.2)
  | [], k, e, h => by simp at h
  | x :: es, 0, e, h => by
    obtain rfl : x = e := by simpa using h
    exact ⟨rfl, rfl⟩
  | x :: es, k + 1, e, h => by
    have ih := flatE_at (es := es) (k := k) (e := e) (by simpa using h)
    have e1 : flatE (x :: es) = .int .i64 x.1 :: .int .i64 x.2 :: flatE es := rfl
    rw [e1, show (k + 1) * 2 = k * 2 + 1 + 1 by omega]
    simp only [List.getElem?_cons_succ]
    exact ih
theorem flatE_cell {es : List (Int × Int)} {j : Nat} {u : Value} (h : (flatE es)[j]? = some u) : ∃ e, es[j / 2]? = some e ∧ ((j % 2 = 0 ∧ u = .int .i64 e.1) ∨ (j % 2 = 1 ∧ u = .int .i64 e.2)) := by
  have hj : j < es.length * 2 := by
    rw [← flatE_length]
    rcases Nat.lt_or_ge j (flatE es).length with h1 | h1
    · exact h1
    · rw [List.getElem?_eq_none h1] at h; cases h
  have hk : es[j / 2]? = some es[j / 2] := List.getElem?_eq_getElem (by omega)
  refine ⟨_, hk, ?_⟩
  obtain ⟨h1, h2⟩ := flatE_at hk
  rcases Nat.mod_two_eq_zero_or_one j with h0 | h0
  · rw [show j / 2 * 2 = j by omega, h] at h1
    exact .inl ⟨h0, Option.some.inj h1⟩
  · rw [show j / 2 * 2 + 1 = j by omega, h] at h2
    exact .inr ⟨h0, Option.some.inj h2⟩
theorem flatE_one (es : List (Int × Int)) : ∀ u ∈ flatE es, u.oneCell' = true := by
  intro u hu
  unfold flatE at hu
  obtain ⟨e, _, h⟩ := List.mem_flatMap.mp hu
  rcases (by simpa using h : u = .int .i64 e.1 ∨ u = .int .i64 e.2) with rfl | rfl <;> rfl
theorem Pairs.news {w : World} {B : Nat} {ad : Addr} {es : List (Int × Int)} (h : Pairs w B (some ad) es) : ∀ j u, (flatE es)[j]? = some u → w.cell? (ad.add j) = some u := by
  intro j u hu
  obtain ⟨e, he, hu2⟩ := flatE_cell hu
  have hl : 0 < es.length := by
    cases es with
    | nil => simp at he
    | cons _ _ => simp
  obtain ⟨b, off, hA, _, hc⟩ := h hl
  injection hA with hA
  subst hA
  rw [addr_add]
  obtain ⟨c1, c2⟩ := hc _ _ he
  rcases hu2 with ⟨h0, rfl⟩ | ⟨h0, rfl⟩
  · rw [show off + j = off + j / 2 * 2 by omega]
    exact c1
  · rw [show off + j = off + j / 2 * 2 + 1 by omega]
    exact c2
theorem Pairs.none_nil {w : World} {B : Nat} {es : List (Int × Int)} (h : Pairs w B none es) : es = [] := by
  rcases Nat.eq_zero_or_pos es.length with h0 | h0
  · exact List.eq_nil_of_length_eq_zero h0
  · obtain ⟨_, _, e, _⟩ := h h0
    cases e
/-- A list of edges in a block of the call's own (from base on). -/
def OwnE (w : World) (base : Nat) (v : Value) (es : List (Int × Int)) : Prop := w.ownsRow base 48 2 v es.length (flatE es)
theorem own_below {w w' : World} {base : Nat} {e : TypeId} {s n : Nat} {v : Value} {xs : List Value} (h : w.ownsRow base e s v n xs) (hb : Below w.heap.size w w') : w'.ownsRow base e s v n xs := by
  refine ⟨h.1, ?_⟩
  rcases h.2 with hn | ⟨g, cap, cur, rfl, hg, hgg, rest⟩
  · exact .inl hn
  · exact .inr ⟨g, cap, cur, rfl, hg, by rw [hb.block g (Array.getElem?_eq_some_iff.1 hgg).1]; exact hgg, rest⟩
theorem OwnE.below {w w' : World} {base : Nat} {v : Value} {es : List (Int × Int)} (h : OwnE w base v es) (hb : Below w.heap.size w w') : OwnE w' base v es := own_below h hb
theorem own_less {w : World} {base base' : Nat} {e : TypeId} {s n : Nat} {v : Value} {xs : List Value} (h : w.ownsRow base e s v n xs) (hb : base' ≤ base) : w.ownsRow base' e s v n xs := by
  refine ⟨h.1, ?_⟩
  rcases h.2 with hn | ⟨g, cap, cur, rfl, hg, rest⟩
  · exact .inl hn
  · exact .inr ⟨g, cap, cur, rfl, by omega, rest⟩
theorem OwnE.slice {w : World} {base : Nat} {v : Value} {es : List (Int × Int)} (h : OwnE w base v es) : ∃ A c, v = .slice A es.length c ∧ Pairs w w.heap.size A es := by
  rcases h.2 with ⟨rfl, hn⟩ | ⟨g, cap, cur, rfl, hg, hgg, hnc, hcm, hcs, htake⟩
  · have : es = [] := List.eq_nil_of_length_eq_zero hn
    subst this
    exact ⟨none, 0, rfl, fun h0 => absurd h0 (by simp)⟩
  · refine ⟨some ⟨g, 0, none⟩, cap, rfl, fun _ => ⟨g, 0, rfl, (Array.getElem?_eq_some_iff.1 hgg).1, fun k e he => ?_⟩⟩
    obtain ⟨h1, h2⟩ := flatE_at he
    have h' : w.ownsRow base 48 2 (.slice (some ⟨g, 0, none⟩) es.length cap) es.length (flatE es) := h
    have c1 := h'.cells (g := g) rfl _ _ h1
    have c2 := h'.cells (g := g) rfl _ _ h2
    rw [addr_add] at c1 c2
    rw [show 0 + (k * 2 + 1) = 0 + k * 2 + 1 by omega] at c2
    exact ⟨c1, c2⟩
theorem edge_cell_info : (Tryz.prog.info? 48).map (fun i => (i.zero, i.size, i.bytes)) = some (some (.agg #[.int .i64 0, .int .i64 0]), 2, 16) := by kernel_rfl
/-- 'append([]T{}, l...)': a new row; all that was there is as it was. -/
theorem fresh_append {P : Program} (w : World) (t ty e : TypeId) (i : TypeInfo) (z : Value) (size bytes : Nat) (ht : P.underlying t = some (.slice e)) (hi : P.info? e = some i) (hz : i.zero = some z)
    (hsize : i.size = size) (hby : i.bytes = bytes) (hzs : z.cells.size = size) (hsz : 0 < size) (base g : Nat) (hg : w.heap[g]? = some (.cells #[] e (0, 0))) (hbg : base ≤ g) (hbw : base ≤ w.heap.size)
    (A : Option Addr) (len c : Nat) (news : List Value) (hl : news.length = len * size) (hA : A = none → len = 0 ∧ c = 0) (hnews : ∀ ad, A = some ad → ∀ j u, news[j]? = some u → w.cell? (ad.add j) = some u) (h1 : ∀ u ∈ news, u.oneCell' = true)
    (h63 : len ≤ maxLen) (hbytes : len * bytes ≤ 140737488355328) :
    ∃ v' w', (Builtin.append_ #[t, t] ty #[.slice (some ⟨g, 0, none⟩) 0 0, .slice A len c]).run P w = .ok v' w' ∧ w'.ownsRow base e size v' len news ∧ Below w.heap.size w w' := by
  have hown : w.ownsRow base e size (.slice (some ⟨g, 0, none⟩) 0 0) 0 [] := ⟨by simp, .inr ⟨g, 0, #[], rfl, hbg, hg, Nat.le_refl _, by simp [maxLen], by simp, by simp⟩⟩
  cases A with
  | none =>
    obtain ⟨rfl, rfl⟩ := hA rfl
    obtain rfl : news = [] := List.eq_nil_of_length_eq_zero (by simpa using hl)
    exact ⟨_, w, run_append_owned_none w base t ty e i size ht hi _ 0 [] hown, hown, Below.refl _ _⟩
  | some ad =>
    rcases Nat.eq_zero_or_pos len with h0 | h0
    · subst h0
      obtain rfl : news = [] := List.eq_nil_of_length_eq_zero (by simpa using hl)
      have hr := run_append_room (P := P) w t ty e i ht hi g 0 0 #[] hg ad 0 c [] (by simp) (fun j u h => by simp at h) (fun u h => by simp at h) (by omega) (by simp)
      refine ⟨_, _, hr, ?_, ?_⟩
      · exact ⟨by simp, .inr ⟨g, 0, _, rfl, hbg, setRow_heap w g _ _ e _ hg, Nat.le_refl _, by simp [maxLen], by simp, by simp⟩⟩
      · refine ⟨rfl, rfl, rfl, by simp, fun k _ => ?_⟩
        by_cases hk : k = g
        · subst hk
          rw [setRow_heap w k _ _ e _ hg, hg]
          simp
        · exact setRow_other w g k _ hk
    · obtain ⟨v', w', hr, ho, hgr⟩ := run_append_arg_grows (P := P) w t ty e i z size bytes ht hi hz hsize hby hzs hsz ⟨g, 0, none⟩ 0 0 [] (by simp) (fun j u h => by simp at h) ad len c news hl (hnews ad rfl) (by omega) (by omega) (by simpa using hbytes)
      rw [Nat.zero_add, List.nil_append] at ho
      exact ⟨v', w', hr, own_less ho hbw, ⟨hgr.os, hgr.tape, hgr.output, hgr.size, fun k hk => hgr.block k hk (by simp)⟩⟩
end Go.Proofs.YtkmajhbfmdoamaaGreatDoor
namespace Go.Proofs.YtkmajhbfmdoamaaGreatDoor
open Go

section
variable {P : Program} {ops : Array Oper} {Q : Exit → Act → World → Prop}
def unlisted (l : Array Bool) : Nat := l.toList.countP (fun b => !b)
theorem countP_set : ∀ (xs : List Bool) (i : Nat), xs[i]? = some false → (xs.set i true).countP (fun b => !b) + 1 = xs.countP (fun b => !b)
  | [], i, h => by simp at h
  | x :: xs, 0, h => by
    obtain rfl : x = false := by simpa using h
    simp
  | x :: xs, i + 1, h => by
    have ih := countP_set xs i (by simpa using h)
    simp only [List.set_cons_succ, List.countP_cons]
    omega
theorem unlisted_set {l : Array Bool} {i : Nat} (h : l.getD i true = false) : unlisted (l.setIfInBounds i true) + 1 = unlisted l := by
  have hi : i < l.size := by
    rcases Nat.lt_or_ge i l.size with h1 | h1
    · exact h1
    · simp [Array.getElem?_eq_none h1] at h
  have h0 : l[i] = false := by simpa [hi] using h
  unfold unlisted
  rw [Array.toList_setIfInBounds]
  refine countP_set l.toList i ?_
  rw [Array.getElem?_toList, Array.getElem?_eq_getElem hi, h0]
theorem wpAny_inv (Inv : Array Bool → Act → World → Prop)
    (hstep : ∀ (listed : Array Bool) (a : Act) (w : World) (i : Nat), Inv listed a w → i ∈ Region.ready .any ops listed → wpOp P ops Q i (Inv (listed.setIfInBounds i true)) a w)
    (hend : ∀ (listed : Array Bool) (a : Act) (w : World), Inv listed a w → Region.ready .any ops listed = [] → Q .normal a w) :
    ∀ (fuel : Nat) (listed : Array Bool) (a : Act) (w : World), unlisted listed ≤ fuel → Inv listed a w → wpAny P .any ops Q fuel listed a w
  | 0, listed, a, w, hf, hI => by
    have hr : Region.ready .any ops listed = [] := by
      rw [List.eq_nil_iff_forall_not_mem]
      intro i hi
      have := unlisted_set (mem_ready.1 hi).1
      omega
    exact ⟨hr, hend _ _ _ hI hr⟩
  | fuel + 1, listed, a, w, hf, hI =>
    ⟨fun hr => hend _ _ _ hI hr, fun i hi => wpOp_mono (fun a' w' hI' => wpAny_inv Inv hstep hend fuel _ a' w' (by have := unlisted_set (mem_ready.1 hi).1; omega) hI') (hstep _ _ _ _ hI hi)⟩
theorem wp_region_inv {id : Nat} {a : Act} {w : World} (Inv : Array Bool → Act → World → Prop) (hm : P.follows .mixedOrders = true)
    (h0 : Inv (Array.replicate ops.size false) a { w with drawn := w.drawn + 1 })
    (hstep : ∀ (listed : Array Bool) (a : Act) (w : World) (i : Nat), Inv listed a w → i ∈ Region.ready .any ops listed → wpOp P ops Q i (Inv (listed.setIfInBounds i true)) a w)
    (hend : ∀ (listed : Array Bool) (a : Act) (w : World), Inv listed a w → Region.ready .any ops listed = [] → Q .normal a w) : (Code.region id ops true).wp P Q a w :=
  wp_region_any hm (wpAny_inv Inv hstep hend _ _ _ _ (by
    unfold unlisted
    refine Nat.le_trans List.countP_le_length ?_
    simp) h0)
/-- When none is left, all have come up (the edges lead back, from later operations to earlier ones). -/
theorem all_listed {listed : Array Bool} (hs : listed.size = ops.size) (hb : ∀ (i : Nat) (o : Oper), ops[i]? = some o → ∀ e ∈ o.after, e.on < i) (hr : Region.ready .any ops listed = []) : ∀ i, i < ops.size → listed.getD i false = true := by
  intro i
  induction i using Nat.strongRecOn with
  | _ i ih =>
    intro hi
    cases hl : listed.getD i false with
    | true => rfl
    | false =>
      have hi2 : i < listed.size := by omega
      have h1 : listed.getD i true = false := by
        simp [hi2] at hl ⊢
        exact hl
      have h2 : i ∈ Region.ready .any ops listed := mem_ready.2 ⟨h1, ops[i], Array.getElem?_eq_getElem hi, fun e he _ => by
        have h3 := hb i _ (Array.getElem?_eq_getElem hi) e he
        exact ih e.on h3 (by omega)⟩
      rw [hr] at h2
      simp at h2
def backB (ops : Array Oper) : Bool := (List.range ops.size).all fun i => match ops[i]? with
  | some o => o.after.all fun e => decide (e.on < i)
  | none => true
theorem back_of (h : backB ops = true) : ∀ (i : Nat) (o : Oper), ops[i]? = some o → ∀ e ∈ o.after, e.on < i := by
  intro i o ho e he
  have hi : i < ops.size := by
    rcases Nat.lt_or_ge i ops.size with h1 | h1
    · exact h1
    · rw [Array.getElem?_eq_none h1] at ho; cases ho
  have h1 := List.all_eq_true.1 h i (List.mem_range.2 hi)
  rw [ho] at h1
  exact of_decide_eq_true (Array.all_eq_true'.1 h1 e he)
theorem listed_set {listed : Array Bool} {i k : Nat} (h : (listed.setIfInBounds i true).getD k false = true) : k = i ∨ listed.getD k false = true := by
  by_cases hik : i = k
  · exact .inl hik.symm
  · right
    simp [Array.getElem?_setIfInBounds_ne hik] at h
    simpa using h
theorem wpOp_at {i : Nat} {o : Oper} {a : Act} {w : World} {K : Act → World → Prop} (ho : ops[i]? = some o) (hg : o.guard = none) (h : o.wp P a w K Q) : wpOp P ops Q i K a w := by
  unfold wpOp
  rw [ho]
  simp only [Region.wanted, hg, if_true]
  exact .inl h
end
end Go.Proofs.YtkmajhbfmdoamaaGreatDoor
set_option linter.unusedVariables false
namespace Go.Proofs.YtkmajhbfmdoamaaGreatDoor
open Go Go.RowKit

section
variable {P : Program} {ops : Array Oper} {Q : Exit → Act → World → Prop}
/-- What operands read as, but for the slots ds: as at the region's door. -/
structure AtDoor (a0 : Act) (ds : List Nat) (ρ : Operand → Value) : Prop where
  const : ∀ v, ρ (.const v) = v
  tmp : ∀ t, t ∉ ds → ρ (.tmp t) = a0.eval (.tmp t)
theorem atDoor_start (a0 : Act) (ds : List Nat) : AtDoor a0 ds a0.eval := ⟨fun _ => rfl, fun _ _ => rfl⟩
theorem eval_put_same (a : Act) (d : Nat) (v : Value) (h : d < a.tmps.size) : (a.put (some d) v).eval (.tmp d) = v := by
  show (a.tmps.setIfInBounds d v).getD d undef = v
  simp [h]
theorem eval_put_other (a : Act) (d t : Nat) (v : Value) (h : t ≠ d) : (a.put (some d) v).eval (.tmp t) = a.eval (.tmp t) := by
  show (a.tmps.setIfInBounds d v).getD t undef = a.tmps.getD t undef
  simp [Array.getElem?_setIfInBounds_ne (Ne.symm h)]
theorem AtDoor.put {a0 a : Act} {ds : List Nat} (h : AtDoor a0 ds a.eval) {d : Nat} (hd : d ∈ ds) (v : Value) : AtDoor a0 ds (a.put (some d) v).eval :=
  ⟨fun _ => rfl, fun t ht => (eval_put_other a d t v (fun e => ht (e ▸ hd))).trans (h.tmp t ht)⟩
/-- What the region's text must be (all by the kernel). -/
def gatherB (ops : Array Oper) (n : Nat) (ds : List Nat) : Bool :=
  ops.size == n + 1 && ds.length == n && (ops.toList.all fun o : Oper => o.guard.isNone) && backB ops && decide ds.Nodup &&
  ((List.range n).all fun k => (match ops[k]? with | some o => o.dst == some (ds.getD k 0) | none => false)) &&
  (match ops[n]? with | some o => (List.range n).all fun k => o.after.any fun e => e.on == k && Region.binds .any e | none => false)
structure Gather (ops : Array Oper) (n : Nat) (ds : List Nat) : Prop where
  size : ops.size = n + 1
  len : ds.length = n
  guard : ∀ (k : Nat) (o : Oper), ops[k]? = some o → o.guard = none
  back : ∀ (i : Nat) (o : Oper), ops[i]? = some o → ∀ e ∈ o.after, e.on < i
  nodup : ds.Nodup
  dst : ∀ (k : Nat) (o : Oper), k < n → ops[k]? = some o → o.dst = some (ds.getD k 0)
  last : ∀ (o : Oper), ops[n]? = some o → ∀ k, k < n → ∃ e ∈ o.after, e.on = k ∧ Region.binds .any e = true
theorem gather_of {n : Nat} {ds : List Nat} (h : gatherB ops n ds = true) : Gather ops n ds := by
  unfold gatherB at h
  simp only [Bool.and_eq_true, beq_iff_eq, decide_eq_true_iff] at h
  obtain ⟨⟨⟨⟨⟨⟨h1, h2⟩, h3⟩, h4⟩, h5⟩, h6⟩, h7⟩ := h
  refine ⟨h1, h2, fun k o ho => ?_, back_of h4, h5, fun k o hk ho => ?_, fun o ho k hk => ?_⟩
  · have := List.all_eq_true.1 h3 o (by rw [Array.mem_toList_iff]; exact Array.mem_of_getElem? ho)
    exact Option.isNone_iff_eq_none.1 this
  · have := List.all_eq_true.1 h6 k (List.mem_range.2 hk)
    rw [ho] at this
    simpa using this
  · rw [ho] at h7
    have := List.all_eq_true.1 h7 k (List.mem_range.2 hk)
    obtain ⟨e, he, h8⟩ := Array.any_eq_true'.1 this
    rw [Bool.and_eq_true, beq_iff_eq] at h8
    exact ⟨e, he, h8.1, h8.2⟩
theorem ds_mem {n : Nat} {ds : List Nat} (h : Gather ops n ds) {k : Nat} (hk : k < n) : ds.getD k 0 ∈ ds := by
  have hl : k < ds.length := by rw [h.len]; exact hk
  rw [List.getD_eq_getElem?_getD, List.getElem?_eq_getElem hl]
  exact List.getElem_mem hl
theorem ds_inj {n : Nat} {ds : List Nat} (h : Gather ops n ds) {k j : Nat} (hk : k < n) (hj : j < n) (e : ds.getD k 0 = ds.getD j 0) : k = j := by
  have hl : k < ds.length := by rw [h.len]; exact hk
  have hl2 : j < ds.length := by rw [h.len]; exact hj
  rw [List.getD_eq_getElem?_getD, List.getElem?_eq_getElem hl, List.getD_eq_getElem?_getD, List.getElem?_eq_getElem hl2] at e
  exact (List.getElem_inj h.nodup).mp e
theorem getD_set_iff {l : Array Bool} {i k : Nat} (hi : i < l.size) : (l.setIfInBounds i true).getD k false = true ↔ k = i ∨ l.getD k false = true := by
  constructor
  · exact listed_set
  · rintro (rfl | h)
    · simp [hi]
    · by_cases hik : i = k
      · subst hik; simp [hi]
      · simpa [Array.getElem?_setIfInBounds_ne hik] using h
set_option maxHeartbeats 1000000 in
theorem wp_region_gather (n m : Nat) (ds : List Nat) {id : Nat} {a0 : Act} {w0 : World} (hm : P.follows .mixedOrders = true) (hG : gatherB ops n ds = true) (hsz : ∀ d ∈ ds, d < a0.tmps.size)
    (I J : World → Prop) (R : World → World → Prop) (Φ : Nat → Value → World → Prop)
    (hBR : ∀ w w', Below w.heap.size w w' → R w w') (hI : ∀ w w', I w → R w w' → I w') (hJ : ∀ w w', J w → Below w.heap.size w w' → J w')
    (hΦ : ∀ k v w w', k ≠ m → Φ k v w → R w w' → Φ k v w') (hΦm : ∀ v w w', Φ m v w → Below w.heap.size w w' → Φ m v w')
    (h0 : I { w0 with drawn := w0.drawn + 1 }) (h1 : J { w0 with drawn := w0.drawn + 1 })
    (hstep : ∀ (k : Nat) (o : Oper), k < n → ops[k]? = some o → ∀ (ρ : Operand → Value) (w : World), I w → AtDoor a0 ds ρ → (∀ e ∈ o.after, Region.binds .any e = true → Φ e.on (ρ (.tmp (ds.getD e.on 0))) w) → (k = m → J w) →
      ∃ v w', (execOp ρ o).run P w = .ok (.value v) w' ∧ Φ k v w' ∧ (if k = m then R w w' else Below w.heap.size w w'))
    (hlast : ∀ (o : Oper), ops[n]? = some o → ∀ (a : Act) (w : World), I w → AtDoor a0 ds a.eval → a.tmps.size = a0.tmps.size → a.defers = a0.defers → (∀ k, k < n → Φ k (a.eval (.tmp (ds.getD k 0))) w) →
      o.wp P a w (fun a' w' => Q .normal a' w') Q) :
    (Code.region id ops true).wp P Q a0 w0 := by
  have G := gather_of hG
  refine wp_region_inv (fun l a w => l.size = n + 1 ∧ ((l.getD n false = false ∧ I w ∧ AtDoor a0 ds a.eval ∧ a.tmps.size = a0.tmps.size ∧ a.defers = a0.defers ∧ (∀ k, k < n → l.getD k false = true → Φ k (a.eval (.tmp (ds.getD k 0))) w) ∧ (l.getD m false = false → J w)) ∨ ((∀ k, k ≤ n → l.getD k false = true) ∧ Q .normal a w))) hm ?_ ?_ ?_
  · refine ⟨by rw [Array.size_replicate]; exact G.size, .inl ⟨?_, h0, atDoor_start a0 ds, rfl, rfl, fun k hk h => ?_, fun _ => h1⟩⟩
    · by_cases h : n < ops.size <;> simp [h]
    · exfalso
      by_cases h2 : k < ops.size <;> simp [h2] at h
  · rintro l a w i ⟨hls, hV⟩ hi
    obtain ⟨hun, o, ho, hpre⟩ := mem_ready.1 hi
    have hilt : i < ops.size := (Array.getElem?_eq_some_iff.1 ho).1
    have hil : i < l.size := by rw [hls, ← G.size]; exact hilt
    rcases hV with ⟨hnl, hIw, hAD, hasz, hadf, hF, hJw⟩ | ⟨hall, _⟩
    · rcases Nat.lt_or_ge i n with hin | hin
      · obtain ⟨v, w', hrun, hphi, hrel⟩ := hstep i o hin ho a.eval w hIw hAD (fun e he hb => hF e.on (Nat.lt_trans (G.back i o ho e he) hin) (hpre e he hb)) (fun e => hJw (by
          rw [← e]
          cases h : l.getD i false with
          | false => rfl
          | true => simp [hil] at h hun; rw [h] at hun; cases hun))
        have hR : R w w' := by
          split at hrel
          · exact hrel
          · exact hBR w w' hrel
        refine wpOp_at ho (G.guard i o ho) ?_
        unfold Oper.wp
        rw [hrun, Oper.upon_value, G.dst i o hin ho]
        refine ⟨by rw [Array.size_setIfInBounds]; exact hls, .inl ⟨?_, hI w w' hIw hR, hAD.put (ds_mem G hin) v, ?_, hadf, fun k hk hkl => ?_, fun hml => ?_⟩⟩
        · cases h : (l.setIfInBounds i true).getD n false with
          | false => rfl
          | true =>
            rcases listed_set h with h2 | h2
            · omega
            · rw [hnl] at h2; cases h2
        · show (a.tmps.setIfInBounds _ _).size = _
          rw [Array.size_setIfInBounds]; exact hasz
        · by_cases hki : k = i
          · subst hki
            rw [eval_put_same _ _ _ (by rw [hasz]; exact hsz _ (ds_mem G hin))]
            exact hphi
          · rw [eval_put_other _ _ _ _ (fun e => hki (ds_inj G hk hin e))]
            have hf := hF k hk ((listed_set hkl).resolve_left hki)
            by_cases hkm : k = m
            · subst hkm
              rw [if_neg (fun e => hki e.symm)] at hrel
              exact hΦm _ _ _ hf hrel
            · exact hΦ k _ _ _ hkm hf hR
        · have hmi : i ≠ m := fun e => by
            subst e
            have h2 := (getD_set_iff (k := i) hil).mpr (.inl rfl)
            rw [hml] at h2; cases h2
          rw [if_neg hmi] at hrel
          refine hJ w w' (hJw ?_) hrel
          cases h : l.getD m false with
          | false => rfl
          | true =>
            have h2 := (getD_set_iff (k := m) hil).mpr (.inr h)
            rw [hml] at h2; cases h2
      · obtain rfl : i = n := by have := G.size; omega
        have hall : ∀ k, k < i → l.getD k false = true := fun k hk => by
          obtain ⟨e, he, h1, h2⟩ := G.last o ho k hk
          rw [← h1]
          exact hpre e he h2
        refine wpOp_at ho (G.guard i o ho) (Oper.wp_mono (fun a' w' hq => ?_) (hlast o ho a w hIw hAD hasz hadf (fun k hk => hF k hk (hall k hk))))
        refine ⟨by rw [Array.size_setIfInBounds]; exact hls, .inr ⟨fun k hk => (getD_set_iff hil).mpr ?_, hq⟩⟩
        rcases Nat.lt_or_ge k i with h | h
        · exact .inr (hall k h)
        · exact .inl (by omega)
    · exfalso
      have := hall i (by have := G.size; omega)
      simp [hil] at this hun
      rw [this] at hun
      cases hun
  · rintro l a w ⟨hls, hV⟩ hr
    have hall := all_listed (by rw [hls, G.size]) G.back hr
    rcases hV with ⟨hnl, _⟩ | ⟨_, hq⟩
    · have := hall n (by rw [G.size]; omega)
      rw [hnl] at this
      cases this
    · exact hq
/-- The frame behind: the slots ds hold what was yielded, the others what they held at the door. -/
def fillL (ds : List Nat) (vals : Nat → Value) : Nat → List Value → List Value
  | _, [] => []
  | t, x :: l => (bif ds.contains t then vals t else x) :: fillL ds vals (t + 1) l
theorem fillL_at (ds : List Nat) (vals : Nat → Value) : ∀ (l : List Value) (t i : Nat), (fillL ds vals t l)[i]? = l[i]?.map fun x => bif ds.contains (t + i) then vals (t + i) else x
  | [], t, i => by simp [fillL]
  | x :: l, t, 0 => by simp [fillL]
  | x :: l, t, i + 1 => by
    have := fillL_at ds vals l (t + 1) i
    rw [show t + 1 + i = t + (i + 1) by omega] at this
    simpa [fillL] using this
def fillA (a0 : Act) (ds : List Nat) (vals : Nat → Value) : List Value := fillL ds vals 0 a0.tmps.toList
theorem act_fill {a0 a : Act} {ds : List Nat} (h : AtDoor a0 ds a.eval) (hs : a.tmps.size = a0.tmps.size) (hd : a.defers = a0.defers) : a = ⟨(fillA a0 ds fun t => a.eval (.tmp t)).toArray, a0.defers⟩ := by
  obtain ⟨tmps, defers⟩ := a
  obtain rfl : defers = a0.defers := hd
  congr 1
  apply Array.toList_inj.mp
  apply List.ext_getElem?
  intro t
  unfold fillA
  rw [fillL_at, Nat.zero_add]
  rcases Nat.lt_or_ge t tmps.size with ht | ht
  · have ht0 : t < a0.tmps.toList.length := by simpa [← hs] using ht
    have e1 : (Act.mk tmps a0.defers).eval (.tmp t) = tmps[t] := by
      show tmps.getD t undef = _
      simp [ht]
    rw [List.getElem?_eq_getElem ht0, List.getElem?_eq_getElem (by simpa using ht)]
    simp only [Option.map_some, Array.getElem_toList, Option.some.injEq]
    cases hc : ds.contains t with
    | true => exact e1.symm
    | false =>
      have := h.tmp t (fun q => by rw [List.contains_iff_mem.mpr q] at hc; cases hc)
      rw [e1] at this
      rw [this]
      show a0.tmps.getD t undef = _
      have ht1 : t < a0.tmps.size := by simpa using ht0
      simp [ht1]
  · rw [List.getElem?_eq_none (by simpa using ht), List.getElem?_eq_none (by simpa [← hs] using ht)]
    rfl
theorem wp_region_gather' (n m : Nat) (ds : List Nat) {id : Nat} {a0 : Act} {w0 : World} (hm : P.follows .mixedOrders = true) (hG : gatherB ops n ds = true) (hsz : ∀ d ∈ ds, d < a0.tmps.size)
    (I J : World → Prop) (R : World → World → Prop) (Φ : Nat → Value → World → Prop)
    (hBR : ∀ w w', Below w.heap.size w w' → R w w') (hI : ∀ w w', I w → R w w' → I w') (hJ : ∀ w w', J w → Below w.heap.size w w' → J w')
    (hΦ : ∀ k v w w', k ≠ m → Φ k v w → R w w' → Φ k v w') (hΦm : ∀ v w w', Φ m v w → Below w.heap.size w w' → Φ m v w')
    (h0 : I { w0 with drawn := w0.drawn + 1 }) (h1 : J { w0 with drawn := w0.drawn + 1 })
    (hstep : ∀ (k : Nat) (o : Oper), k < n → ops[k]? = some o → ∀ (ρ : Operand → Value) (w : World), I w → AtDoor a0 ds ρ → (∀ e ∈ o.after, Region.binds .any e = true → Φ e.on (ρ (.tmp (ds.getD e.on 0))) w) → (k = m → J w) →
      ∃ v w', (execOp ρ o).run P w = .ok (.value v) w' ∧ Φ k v w' ∧ (if k = m then R w w' else Below w.heap.size w w'))
    (hlast : ∀ (o : Oper), ops[n]? = some o → ∀ (vals : Nat → Value) (w : World), I w → (∀ k, k < n → Φ k (vals (ds.getD k 0)) w) →
      o.wp P ⟨(fillA a0 ds vals).toArray, a0.defers⟩ w (fun a' w' => Q .normal a' w') Q) :
    (Code.region id ops true).wp P Q a0 w0 :=
  wp_region_gather n m ds hm hG hsz I J R Φ hBR hI hJ hΦ hΦm h0 h1 hstep (fun o ho a w hIw hA hs hd hF => by
    have := hlast o ho (fun t => a.eval (.tmp t)) w hIw hF
    rwa [← act_fill hA hs hd] at this)
end
end Go.Proofs.YtkmajhbfmdoamaaGreatDoor
set_option linter.unusedVariables false
namespace Go.Proofs.YtkmajhbfmdoamaaGreatDoor
open Go.RowKit

/-- A new list of integers, handed out. -/
def GotInts (zs : List Int) (w : World) (e : Ending) (w' : World) : Prop :=
  ∃ A c, e = .returned (.slice A zs.length c) ∧ Ints w' w'.heap.size A zs ∧ Below w.heap.size w w'

theorem OwnI.down {w : World} {b b' : Nat} {v : Value} {zs : List Int} (h : OwnI w b v zs) (hb : b' ≤ b) : OwnI w b' v zs := by
  refine ⟨h.1, ?_⟩
  rcases h.2 with hn | ⟨g, cap, cur, rfl, hg, rest⟩
  · exact .inl hn
  · exact .inr ⟨g, cap, cur, rfl, by omega, rest⟩
theorem OwnI.ints {w : World} {b : Nat} {A : Option Addr} {n c : Nat} {zs : List Int} (h : OwnI w b (.slice A n c) zs) : Ints w w.heap.size A zs := by
  obtain ⟨A', c', e1, hI⟩ := h.slice
  injection e1 with e2 e3 e4
  rw [e2]
  exact hI
/-- A new list of integers of the caller's own, handed out. -/
def GotOwn (zs : List Int) (w : World) (e : Ending) (w' : World) : Prop :=
  ∃ A c, e = .returned (.slice A zs.length c) ∧ OwnI w' w.heap.size (.slice A zs.length c) zs ∧ Below w.heap.size w w'
theorem GotOwn.ints {zs : List Int} {w : World} {e : Ending} {w' : World} (h : GotOwn zs w e w') : GotInts zs w e w' := by
  obtain ⟨A, c, he, hO, b⟩ := h
  obtain ⟨A', c', e1, hI⟩ := hO.slice
  injection e1 with e2 e3 e4
  subst e2
  exact ⟨A, c, he, hI, b⟩
theorem ownI_first (w : World) (o : Obj) : OwnI ((w.alloc o).alloc (.cells #[] 3)) (w.heap.size + 1) (.slice (some ⟨w.heap.size + 1, 0, none⟩) 0 0) [] := by
  have h := OwnI.new (w.alloc o) (w.heap.size + 1) (by simp)
  rwa [show (w.alloc o).heap.size = w.heap.size + 1 by simp] at h
def nums (l : List Nat) : List Int := l.map Int.ofNat
theorem nums_length (l : List Nat) : (nums l).length = l.length := by unfold nums; rw [List.length_map]
theorem nums_snoc (l : List Nat) (a : Nat) : nums (l ++ [a]) = nums l ++ [(a : Int)] := by unfold nums; rw [List.map_append]; rfl
end Go.Proofs.YtkmajhbfmdoamaaGreatDoor
