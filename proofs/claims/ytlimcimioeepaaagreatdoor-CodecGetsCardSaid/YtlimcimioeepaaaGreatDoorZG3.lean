/- Words for memory in the seat YtlimcimioeepaaaGreatDoor: a list of integers of the call's own, that grows one by one.
   Words for memory in the seat YtlimcimioeepaaaGreatDoor: a list of edges of the call's own; 'append([]T{}, l...)' leaves all that was there.
   Words for memory in the seat YtlimcimioeepaaaGreatDoor: a list of integers that is handed out; natural numbers as integers.
   No statement is proved here. -/
import Derived.Test.YtlimcimioeepaaaGreatDoorChecked
import Derived.Test.YtlimcimioeepaaaGreatDoorZG1
import Derived.WalkSmall
import Derived.ArgAppend
import Derived.OwnWalk
set_option linter.unusedVariables false
namespace Go.Proofs.YtlimcimioeepaaaGreatDoor
open Go.RowKit

/-- A list of integers in a block of the call's own (from base on). -/
def OwnI (w : World) (base : Nat) (v : Value) (zs : List Int) : Prop := w.ownsRow base 3 1 v zs.length (zs.map (Value.int .i64))
theorem OwnI.new (w : World) (base : Nat) (hb : base ≤ w.heap.size) : OwnI (w.alloc (.cells #[] 3)) base (.slice (some ⟨w.heap.size, 0, none⟩) 0 0) [] :=
  ⟨rfl, .inr ⟨w.heap.size, 0, #[], rfl, hb, heap_alloc_new w _, Nat.le_refl _, by simp [maxLen], rfl, rfl⟩⟩
theorem OwnI.below {w w' : World} {base : Nat} {v : Value} {zs : List Int} (h : OwnI w base v zs) (hb : Below w.heap.size w w') : OwnI w' base v zs := by
  refine ⟨h.1, ?_⟩
  rcases h.2 with hn | ⟨g, cap, cur, rfl, hg, hgg, rest⟩
  · exact .inl hn
  · exact .inr ⟨g, cap, cur, rfl, hg, by rw [hb.block g (Array.getElem?_eq_some_iff.1 hgg).1]; exact hgg, rest⟩
theorem OwnI.alloc {w : World} {base : Nat} {v : Value} {zs : List Int} (h : OwnI w base v zs) (o : Obj) : OwnI (w.alloc o) base v zs := h.below (below_alloc o)
theorem OwnI.slice {w : World} {base : Nat} {v : Value} {zs : List Int} (h : OwnI w base v zs) : ∃ A c, v = .slice A zs.length c ∧ Ints w w.heap.size A zs := Ints.of_own h
theorem int_cell_info : (Tryz.prog.info? 3).map (fun i => (i.zero, i.size, i.bytes)) = some (some (.int .i64 0), 1, 8) := by kernel_rfl
/-- 'append(l, n)': the integer lies in a block of its own, laid just ahead. -/
theorem wpList_push {ops : Array Oper} {rest : List Oper} {o : Oper} {a : Act} {Q : Exit → Act → World → Prop} (hgd : o.guard = none) (s x : Operand)
    (ho : o.op = .call { callee := .builtin .append, args := #[s, x], argTypes := #[47, 47] })
    (w1 : World) (base : Nat) (v : Value) (zs : List Int) (n : Int) (len : Nat) (hlen : zs.length = len) (hl : len ≤ 1000) (hO : OwnI w1 base v zs) (hB : base ≤ w1.heap.size)
    (hs : a.eval s = v) (hx : a.eval x = .slice (some ⟨w1.heap.size, 0, none⟩) 1 1)
    (h : ∀ A' c' w', OwnI w' base (.slice A' (len + 1) c') (zs ++ [n]) → Below base w1 w' → wpList Tryz.prog ops Q rest (a.put o.dst (.slice A' (len + 1) c')) w') : wpList Tryz.prog ops Q (o :: rest) a (w1.alloc (.cells #[.int .i64 n] 3)) := by
  obtain ⟨i0, hi0, hz0, hz1, hz2⟩ : ∃ i, Tryz.prog.info? 3 = some i ∧ i.zero = some (.int .i64 0) ∧ i.size = 1 ∧ i.bytes = 8 := by
    have h := int_cell_info
    cases hi : Tryz.prog.info? 3 with
    | none => rw [hi] at h; cases h
    | some i =>
      rw [hi] at h
      simp at h
      exact ⟨i, rfl, h.1, h.2.1, h.2.2⟩
  subst hlen
  refine wpList_append_own _ hgd s x 47 ho base 3 i0 (.int .i64 0) 1 8 Tryz.underlying47 hi0 hz0 hz1 hz2 rfl (by omega) v zs.length (zs.map (Value.int .i64)) hs (hO.alloc _) ⟨w1.heap.size, 0, none⟩ 1 1 [.int .i64 n] hx rfl ?_ ?_
    (by unfold maxLen; omega) (by omega) (by simp; omega) ?_
  · intro j u hu
    match j with
    | 0 =>
      obtain rfl : Value.int .i64 n = u := by simpa using hu
      rw [addr_add, World.cell?_alloc_at _ _ _ _ rfl]
      rfl
    | j + 1 => simp at hu
  · intro u hu
    obtain rfl : u = .int .i64 n := by simpa using hu
    rfl
  · intro v' w' hown' hg _
    have hO' : OwnI w' base v' (zs ++ [n]) := by
      unfold OwnI
      rw [List.length_append, List.length_singleton, List.map_append]
      exact hown'
    obtain ⟨A', c', rfl, _⟩ := hO'.slice
    rw [show (zs ++ [n]).length = zs.length + 1 by simp] at hO' ⊢
    refine h A' c' w' hO' (((Below.refl base w1).alloc hB _).grown hg (by simp; omega) (fun k hk => ?_))
    exact (hO.lt k hk).1
end Go.Proofs.YtlimcimioeepaaaGreatDoor
set_option linter.unusedVariables false
namespace Go.Proofs.YtlimcimioeepaaaGreatDoor
open Go.RowKit

def flatE (es : List (Int × Int)) : List Value := es.flatMap fun e => [.int .i64 e.1, .int .i64 e.2]
theorem flatE_length (es : List (Int × Int)) : (flatE es).length = es.length * 2 := by
  induction es with
  | nil => rfl
  | cons e es ih =>
    rw [show flatE (e :: es) = .int .i64 e.1 :: .int .i64 e.2 :: flatE es from rfl, List.length_cons, List.length_cons, List.length_cons, ih]
    omega
theorem flatE_append (a b : List (Int × Int)) : flatE (a ++ b) = flatE a ++ flatE b := by unfold flatE; rw [List.flatMap_append]
theorem flatE_at : ∀ {es : List (Int × Int)} {k : Nat} {e : Int × Int}, es[k]? = some e → (flatE es)[k * 2]? = some (.int .i64 e.1) ∧ (flatE es)[k * 2 + 1]? = some (.int .i64 e.2)
  | [], k, e, h => by simp at h
  | x :: es, 0, e, h => by
    obtain rfl : x = e := by simpa using h
    exact ⟨rfl, rfl⟩
  | x :: es, k + 1, e, h => by
    have ih := flatE_at (es := es) (k := k) (e := e) (by simpa using h)
    have e1 : flatE (x :: es) = .int .i64 x.1 :: .int .i64 x.2 :: flatE es := rfl
    rw [e1, show (k + 1) * 2 = k * 2 + 1 + 1 by omega]
    simp only [List.getElem?_cons_succ]
    exact ih
theorem flatE_cell {es : List (Int × Int)} {j : Nat} {u : Value} (h : (flatE es)[j]? = some u) : ∃ e, es[j / 2]? = some e ∧ ((j % 2 = 0 ∧ u = .int .i64 e.1) ∨ (j % 2 = 1 ∧ u = .int .i64 e.2)) := by
  have hj : j < es.length * 2 := by
    rw [← flatE_length]
    rcases Nat.lt_or_ge j (flatE es).length with h1 | h1
    · exact h1
    · rw [List.getElem?_eq_none h1] at h; cases h
  have hk : es[j / 2]? = some es[j / 2] := List.getElem?_eq_getElem (by omega)
  refine ⟨_, hk, ?_⟩
  obtain ⟨h1, h2⟩ := flatE_at hk
  rcases Nat.mod_two_eq_zero_or_one j with h0 | h0
  · rw [show j / 2 * 2 = j by omega, h] at h1
    exact .inl ⟨h0, Option.some.inj h1⟩
  · rw [show j / 2 * 2 + 1 = j by omega, h] at h2
    exact .inr ⟨h0, Option.some.inj h2⟩
theorem flatE_one (es : List (Int × Int)) : ∀ u ∈ flatE es, u.oneCell' = true := by
  intro u hu
  unfold flatE at hu
  obtain ⟨e, _, h⟩ := List.mem_flatMap.mp hu
  rcases (by simpa using h : u = .int .i64 e.1 ∨ u = .int .i64 e.2) with rfl | rfl <;> rfl
theorem Pairs.news {w : World} {B : Nat} {ad : Addr} {es : List (Int × Int)} (h : Pairs w B (some ad) es) : ∀ j u, (flatE es)[j]? = some u → w.cell? (ad.add j) = some u := by
  intro j u hu
  obtain ⟨e, he, hu2⟩ := flatE_cell hu
  have hl : 0 < es.length := by
    cases es with
    | nil => simp at he
    | cons _ _ => simp
  obtain ⟨b, off, hA, _, hc⟩ := h hl
  injection hA with hA
  subst hA
  rw [addr_add]
  obtain ⟨c1, c2⟩ := hc _ _ he
  rcases hu2 with ⟨h0, rfl⟩ | ⟨h0, rfl⟩
  · rw [show off + j = off + j / 2 * 2 by omega]
    exact c1
  · rw [show off + j = off + j / 2 * 2 + 1 by omega]
    exact c2
theorem Pairs.none_nil {w : World} {B : Nat} {es : List (Int × Int)} (h : Pairs w B none es) : es = [] := by
  rcases Nat.eq_zero_or_pos es.length with h0 | h0
  · exact List.eq_nil_of_length_eq_zero h0
  · obtain ⟨_, _, e, _⟩ := h h0
    cases e
/-- A list of edges in a block of the call's own (from base on). -/
def OwnE (w : World) (base : Nat) (v : Value) (es : List (Int × Int)) : Prop := w.ownsRow base 56 2 v es.length (flatE es)
theorem own_below {w w' : World} {base : Nat} {e : TypeId} {s n : Nat} {v : Value} {xs : List Value} (h : w.ownsRow base e s v n xs) (hb : Below w.heap.size w w') : w'.ownsRow base e s v n xs := by
  refine ⟨h.1, ?_⟩
  rcases h.2 with hn | ⟨g, cap, cur, rfl, hg, hgg, rest⟩
  · exact .inl hn
  · exact .inr ⟨g, cap, cur, rfl, hg, by rw [hb.block g (Array.getElem?_eq_some_iff.1 hgg).1]; exact hgg, rest⟩
theorem OwnE.below {w w' : World} {base : Nat} {v : Value} {es : List (Int × Int)} (h : OwnE w base v es) (hb : Below w.heap.size w w') : OwnE w' base v es := own_below h hb
theorem own_less {w : World} {base base' : Nat} {e : TypeId} {s n : Nat} {v : Value} {xs : List Value} (h : w.ownsRow base e s v n xs) (hb : base' ≤ base) : w.ownsRow base' e s v n xs := by
  refine ⟨h.1, ?_⟩
  rcases h.2 with hn | ⟨g, cap, cur, rfl, hg, rest⟩
  · exact .inl hn
  · exact .inr ⟨g, cap, cur, rfl, by omega, rest⟩
theorem OwnE.slice {w : World} {base : Nat} {v : Value} {es : List (Int × Int)} (h : OwnE w base v es) : ∃ A c, v = .slice A es.length c ∧ Pairs w w.heap.size A es := by
  rcases h.2 with ⟨rfl, hn⟩ | ⟨g, cap, cur, rfl, hg, hgg, hnc, hcm, hcs, htake⟩
  · have : es = [] := List.eq_nil_of_length_eq_zero hn
    subst this
    exact ⟨none, 0, rfl, fun h0 => absurd h0 (by simp)⟩
  · refine ⟨some ⟨g, 0, none⟩, cap, rfl, fun _ => ⟨g, 0, rfl, (Array.getElem?_eq_some_iff.1 hgg).1, fun k e he => ?_⟩⟩
    obtain ⟨h1, h2⟩ := flatE_at he
    have h' : w.ownsRow base 56 2 (.slice (some ⟨g, 0, none⟩) es.length cap) es.length (flatE es) := h
    have c1 := h'.cells (g := g) rfl _ _ h1
    have c2 := h'.cells (g := g) rfl _ _ h2
    rw [addr_add] at c1 c2
    rw [show 0 + (k * 2 + 1) = 0 + k * 2 + 1 by omega] at c2
    exact ⟨c1, c2⟩
theorem edge_cell_info : (Tryz.prog.info? 56).map (fun i => (i.zero, i.size, i.bytes)) = some (some (.agg #[.int .i64 0, .int .i64 0]), 2, 16) := by kernel_rfl
/-- 'append([]T{}, l...)': a new row; all that was there is as it was. -/
theorem fresh_append {P : Program} (w : World) (t ty e : TypeId) (i : TypeInfo) (z : Value) (size bytes : Nat) (ht : P.underlying t = some (.slice e)) (hi : P.info? e = some i) (hz : i.zero = some z)
    (hsize : i.size = size) (hby : i.bytes = bytes) (hzs : z.cells.size = size) (hsz : 0 < size) (base g : Nat) (hg : w.heap[g]? = some (.cells #[] e (0, 0))) (hbg : base ≤ g) (hbw : base ≤ w.heap.size)
    (A : Option Addr) (len c : Nat) (news : List Value) (hl : news.length = len * size) (hA : A = none → len = 0 ∧ c = 0) (hnews : ∀ ad, A = some ad → ∀ j u, news[j]? = some u → w.cell? (ad.add j) = some u) (h1 : ∀ u ∈ news, u.oneCell' = true)
    (h63 : len ≤ maxLen) (hbytes : len * bytes ≤ 140737488355328) :
    ∃ v' w', (Builtin.append_ #[t, t] ty #[.slice (some ⟨g, 0, none⟩) 0 0, .slice A len c]).run P w = .ok v' w' ∧ w'.ownsRow base e size v' len news ∧ Below w.heap.size w w' := by
  have hown : w.ownsRow base e size (.slice (some ⟨g, 0, none⟩) 0 0) 0 [] := ⟨by simp, .inr ⟨g, 0, #[], rfl, hbg, hg, Nat.le_refl _, by simp [maxLen], by simp, by simp⟩⟩
  cases A with
  | none =>
    obtain ⟨rfl, rfl⟩ := hA rfl
    obtain rfl : news = [] := List.eq_nil_of_length_eq_zero (by simpa using hl)
    exact ⟨_, w, run_append_owned_none w base t ty e i size ht hi _ 0 [] hown, hown, Below.refl _ _⟩
  | some ad =>
    rcases Nat.eq_zero_or_pos len with h0 | h0
    · subst h0
      obtain rfl : news = [] := List.eq_nil_of_length_eq_zero (by simpa using hl)
      have hr := run_append_room (P := P) w t ty e i ht hi g 0 0 #[] hg ad 0 c [] (by simp) (fun j u h => by simp at h) (fun u h => by simp at h) (by omega) (by simp)
      refine ⟨_, _, hr, ?_, ?_⟩
      · exact ⟨by simp, .inr ⟨g, 0, _, rfl, hbg, setRow_heap w g _ _ e _ hg, Nat.le_refl _, by simp [maxLen], by simp, by simp⟩⟩
      · refine ⟨rfl, rfl, rfl, by simp, fun k _ => ?_⟩
        by_cases hk : k = g
        · subst hk
          rw [setRow_heap w k _ _ e _ hg, hg]
          simp
        · exact setRow_other w g k _ hk
    · obtain ⟨v', w', hr, ho, hgr⟩ := run_append_arg_grows (P := P) w t ty e i z size bytes ht hi hz hsize hby hzs hsz ⟨g, 0, none⟩ 0 0 [] (by simp) (fun j u h => by simp at h) ad len c news hl (hnews ad rfl) (by omega) (by omega) (by simpa using hbytes)
      rw [Nat.zero_add, List.nil_append] at ho
      exact ⟨v', w', hr, own_less ho hbw, ⟨hgr.os, hgr.tape, hgr.output, hgr.size, fun k hk => hgr.block k hk (by simp)⟩⟩
end Go.Proofs.YtlimcimioeepaaaGreatDoor
set_option linter.unusedVariables false
namespace Go.Proofs.YtlimcimioeepaaaGreatDoor
open Go.RowKit

/-- A new list of integers, handed out. -/
def GotInts (zs : List Int) (w : World) (e : Ending) (w' : World) : Prop :=
  ∃ A c, e = .returned (.slice A zs.length c) ∧ Ints w' w'.heap.size A zs ∧ Below w.heap.size w w'

theorem OwnI.down {w : World} {b b' : Nat} {v : Value} {zs : List Int} (h : OwnI w b v zs) (hb : b' ≤ b) : OwnI w b' v zs := by
  refine ⟨h.1, ?_⟩
  rcases h.2 with hn | ⟨g, cap, cur, rfl, hg, rest⟩
  · exact .inl hn
  · exact .inr ⟨g, cap, cur, rfl, by omega, rest⟩
theorem OwnI.ints {w : World} {b : Nat} {A : Option Addr} {n c : Nat} {zs : List Int} (h : OwnI w b (.slice A n c) zs) : Ints w w.heap.size A zs := by
  obtain ⟨A', c', e1, hI⟩ := h.slice
  injection e1 with e2 e3 e4
  rw [e2]
  exact hI
/-- A new list of integers of the caller's own, handed out. -/
def GotOwn (zs : List Int) (w : World) (e : Ending) (w' : World) : Prop :=
  ∃ A c, e = .returned (.slice A zs.length c) ∧ OwnI w' w.heap.size (.slice A zs.length c) zs ∧ Below w.heap.size w w'
theorem GotOwn.ints {zs : List Int} {w : World} {e : Ending} {w' : World} (h : GotOwn zs w e w') : GotInts zs w e w' := by
  obtain ⟨A, c, he, hO, b⟩ := h
  obtain ⟨A', c', e1, hI⟩ := hO.slice
  injection e1 with e2 e3 e4
  subst e2
  exact ⟨A, c, he, hI, b⟩
theorem ownI_first (w : World) (o : Obj) : OwnI ((w.alloc o).alloc (.cells #[] 3)) (w.heap.size + 1) (.slice (some ⟨w.heap.size + 1, 0, none⟩) 0 0) [] := by
  have h := OwnI.new (w.alloc o) (w.heap.size + 1) (by simp)
  rwa [show (w.alloc o).heap.size = w.heap.size + 1 by simp] at h
def nums (l : List Nat) : List Int := l.map Int.ofNat
theorem mem_nums {l : List Nat} {a : Nat} : (a : Int) ∈ nums l ↔ a ∈ l := by
  unfold nums
  constructor
  · intro h
    obtain ⟨b, hb, e⟩ := List.mem_map.mp h
    obtain rfl : b = a := Int.ofNat_inj.mp e
    exact hb
  · intro h
    exact List.mem_map.mpr ⟨a, h, rfl⟩
theorem nums_length (l : List Nat) : (nums l).length = l.length := by unfold nums; rw [List.length_map]
theorem nums_snoc (l : List Nat) (a : Nat) : nums (l ++ [a]) = nums l ++ [(a : Int)] := by unfold nums; rw [List.map_append]; rfl
end Go.Proofs.YtlimcimioeepaaaGreatDoor
