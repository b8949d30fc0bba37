/- The contract of trefoilref05.Touches in the seat YtecjpclkiiaidaaDoor.
   The contract of trefoilref05.Feeds in the seat YtecjpclkiiaidaaDoor.
   Plain: the futures of one part, in the order of their places: what a sort of them comes to, in the seat YtecjpclkiiaidaaDoor.
   No statement is proved here. -/
import Derived.Test.YtecjpclkiiaidaaDoorZDescCheck
import Derived.Test.YtecjpclkiiaidaaDoorZM3
import Derived.Test.YtecjpclkiiaidaaDoorZM4
set_option linter.unusedVariables false
namespace Go.Proofs.YtecjpclkiiaidaaDoor
open Go.RowKit

/-! Plain: which futures a part touches -/
def futAt (fs : List (Int × Int × Int)) (j : Nat) : Int × Int × Int := fs.getD j (0, 0, 0)
/-- Of the first i futures those of user x at a. -/
def selF (fs : List (Int × Int × Int)) (x : Int) (a : Nat) (i : Nat) : List Nat := (List.range i).filter fun j => decide ((futAt fs j).2.1 = x) && decide ((futAt fs j).2.2 = (a : Int))
def touK (fs : List (Int × Int × Int)) (x : Int) : Nat → List Nat
  | 0 => []
  | a + 1 => touK fs x a ++ selF fs x (a + 1) fs.length
def touL (fs : List (Int × Int × Int)) (x : Int) : List Nat := touK fs x 99
theorem mem_selF {fs : List (Int × Int × Int)} {x : Int} {a i j : Nat} : j ∈ selF fs x a i ↔ j < i ∧ (futAt fs j).2.1 = x ∧ (futAt fs j).2.2 = (a : Int) := by
  unfold selF
  rw [List.mem_filter, List.mem_range, Bool.and_eq_true, decide_eq_true_iff, decide_eq_true_iff]
theorem mem_touK {fs : List (Int × Int × Int)} {x : Int} {j : Nat} : ∀ {a : Nat}, j ∈ touK fs x a ↔ j < fs.length ∧ (futAt fs j).2.1 = x ∧ 1 ≤ (futAt fs j).2.2 ∧ (futAt fs j).2.2 ≤ (a : Int)
  | 0 => by
    constructor
    · intro h; cases h
    · rintro ⟨_, _, h1, h2⟩; omega
  | a + 1 => by
    show j ∈ touK fs x a ++ selF fs x (a + 1) fs.length ↔ _
    rw [List.mem_append, mem_touK (a := a), mem_selF]
    constructor
    · rintro (⟨h1, h2, h3, h4⟩ | ⟨h1, h2, h3⟩)
      · exact ⟨h1, h2, h3, by omega⟩
      · exact ⟨h1, h2, by omega, by omega⟩
    · rintro ⟨h1, h2, h3, h4⟩
      by_cases h : (futAt fs j).2.2 = ((a + 1 : Nat) : Int)
      · exact .inr ⟨h1, h2, h⟩
      · exact .inl ⟨h1, h2, h3, by omega⟩
theorem selF_nodup (fs : List (Int × Int × Int)) (x : Int) (a i : Nat) : (selF fs x a i).Nodup := List.Nodup.sublist (List.filter_sublist) List.nodup_range
theorem touP_nodup {fs : List (Int × Int × Int)} {x : Int} {a i : Nat} (h : (touK fs x a).Nodup) : (touK fs x a ++ selF fs x (a + 1) i).Nodup := by
  rw [List.nodup_append]
  refine ⟨h, selF_nodup _ _ _ _, fun j hj k hk e => ?_⟩
  subst e
  have h1 := (mem_touK.mp hj).2.2.2
  have h2 := (mem_selF.mp hk).2.2
  omega
theorem touK_nodup (fs : List (Int × Int × Int)) (x : Int) : ∀ a, (touK fs x a).Nodup
  | 0 => by simp [touK]
  | a + 1 => touP_nodup (touK_nodup fs x a)
theorem nodup_len (n : Nat) (l : List Nat) (hn : l.Nodup) (h : ∀ x ∈ l, x < n) : l.length ≤ n := length_below n l hn h
theorem touP_len {fs : List (Int × Int × Int)} {x : Int} {a i : Nat} (hi : i ≤ fs.length) : (touK fs x a ++ selF fs x (a + 1) i).length ≤ fs.length := by
  refine nodup_len _ _ (touP_nodup (touK_nodup fs x a)) fun j hj => ?_
  rcases List.mem_append.mp hj with h | h
  · exact (mem_touK.mp h).1
  · have := (mem_selF.mp h).1
    omega
theorem touK_len (fs : List (Int × Int × Int)) (x : Int) (a : Nat) : (touK fs x a).length ≤ fs.length := nodup_len _ _ (touK_nodup fs x a) fun j hj => (mem_touK.mp hj).1
theorem selF_step {fs : List (Int × Int × Int)} {x : Int} {a i : Nat} {f : Int × Int × Int} (hf : fs[i]? = some f) : selF fs x a (i + 1) = if f.2.1 = x ∧ f.2.2 = (a : Int) then selF fs x a i ++ [i] else selF fs x a i := by
  have e : futAt fs i = f := by unfold futAt; rw [List.getD_eq_getElem?_getD, hf]; rfl
  unfold selF
  rw [List.range_succ, List.filter_append]
  by_cases h : f.2.1 = x ∧ f.2.2 = (a : Int)
  · rw [if_pos h]
    simp [List.filter, e, h.1, h.2]
  · rw [if_neg h]
    have : (decide ((futAt fs i).2.1 = x) && decide ((futAt fs i).2.2 = (a : Int))) = false := by
      rw [e, Bool.and_eq_false_iff, decide_eq_false_iff_not, decide_eq_false_iff_not]
      by_cases h1 : f.2.1 = x
      · exact .inr fun h2 => h ⟨h1, h2⟩
      · exact .inl h1
    simp [List.filter, this]
section
variable {P : Option Addr} {np pc : Nat} {E : Option Addr} {ne ec : Nat} {F : Option Addr} {nf fc : Nat} {R : Option Addr} {nr rc : Nat} {p q : Int}
end
end Go.Proofs.YtecjpclkiiaidaaDoor
set_option linter.unusedVariables false
namespace Go.Proofs.YtecjpclkiiaidaaDoor
open Go.RowKit

/-! Plain: whose values a part takes -/
def feE (es : List (Int × Int)) (x : Int) : List Int := (es.filter fun e => decide (e.2 = x)).map fun e => e.1
def feF (fs : List (Int × Int × Int)) (l : List Nat) : List Int := l.map fun j => (futAt fs j).1
def feedsL (es : List (Int × Int)) (fs : List (Int × Int × Int)) (x : Int) : List Int := feE es x ++ feF fs (touL fs x)
theorem feE_len (es : List (Int × Int)) (x : Int) : (feE es x).length ≤ es.length := by
  unfold feE
  rw [List.length_map]
  exact List.length_filter_le _ _
theorem feE_step {es : List (Int × Int)} {x : Int} {k : Nat} {e : Int × Int} (he : es[k]? = some e) : feE (es.take (k + 1)) x = if e.2 = x then feE (es.take k) x ++ [e.1] else feE (es.take k) x := by
  unfold feE
  rw [take_snoc' he, List.filter_append]
  by_cases h : e.2 = x
  · rw [if_pos h]
    simp [List.filter, h]
  · rw [if_neg h]
    simp [List.filter, h]
theorem feF_step {fs : List (Int × Int × Int)} {l : List Nat} {k j : Nat} (h : l[k]? = some j) : feF fs (l.take (k + 1)) = feF fs (l.take k) ++ [(futAt fs j).1] := by
  unfold feF
  rw [take_snoc' h, List.map_append]
  rfl
theorem nums_at {l : List Nat} {j : Nat} {z : Int} (h : (nums l)[j]? = some z) : ∃ x : Nat, z = (x : Int) ∧ l[j]? = some x := by
  unfold nums at h
  rw [List.getElem?_map] at h
  cases hx : l[j]? with
  | none => rw [hx] at h; cases h
  | some x =>
    rw [hx] at h
    exact ⟨x, (Option.some.inj h).symm, rfl⟩
section
variable {P : Option Addr} {np pc : Nat} {E : Option Addr} {ne ec : Nat} {F : Option Addr} {nf fc : Nat} {R : Option Addr} {nr rc : Nat} {p q : Int}
/-- A task in its box, its edges and futures as they came; a list of the call's own grows behind. -/
structure BxU (w : World) (p q : Int) (P : Option Addr) (np pc : Nat) (E : Option Addr) (ne ec : Nat) (F : Option Addr) (nf fc : Nat) (R : Option Addr) (nr rc : Nat) (es : List (Int × Int)) (fs : List (Int × Int × Int)) (w' : World) : Prop where
  b : BxD w p q P np pc E ne ec F nf fc R nr rc w'
  e : Pairs w' w.heap.size E es
  f : Trips w' w.heap.size F fs
theorem BxU.keep {w w1 w2 : World} {es : List (Int × Int)} {fs : List (Int × Int × Int)} (h : BxU w p q P np pc E ne ec F nf fc R nr rc es fs w1) (hb : Below (w.heap.size + 1) w1 w2) : BxU w p q P np pc E ne ec F nf fc R nr rc es fs w2 := by
  have hc := fun i => hb.cell (p := ⟨w.heap.size, i, none⟩) (Nat.lt_succ_self _)
  exact ⟨⟨h.b.bel.trans (hb.mono (by omega)), (hc 0).trans h.b.c0, (hc 1).trans h.b.c1, (hc 2).trans h.b.c2, (hc 3).trans h.b.c3, (hc 4).trans h.b.c4, (hc 5).trans h.b.c5⟩, h.e.below (hb.mono (by omega)), h.f.below (hb.mono (by omega))⟩
theorem BxU.lt {w w1 : World} {es : List (Int × Int)} {fs : List (Int × Int × Int)} (h : BxU w p q P np pc E ne ec F nf fc R nr rc es fs w1) : w.heap.size + 1 ≤ w1.heap.size := World.block_lt_of_cell? _ _ h.b.c0
theorem BxU.start {w : World} {es : List (Int × Int)} {fs : List (Int × Int × Int)} (he : Pairs w w.heap.size E es) (hf : Trips w w.heap.size F fs) : BxU w p q P np pc E ne ec F nf fc R nr rc es fs (w.alloc (.cells #[.int .i64 p, .int .i64 q, .slice P np pc, .slice E ne ec, .slice F nf fc, .slice R nr rc] 42)) :=
  ⟨BxD.start w p q P np pc E ne ec F nf fc R nr rc, he.below (below_alloc _), hf.below (below_alloc _)⟩
end
end Go.Proofs.YtecjpclkiiaidaaDoor
set_option linter.unusedVariables false
namespace Go.Proofs.YtecjpclkiiaidaaDoor
open Go.RowKit

theorem sorted_ext {f : Nat → Int} : ∀ {l1 l2 : List Nat}, (l1.Pairwise fun i j => f i < f j) → (l2.Pairwise fun i j => f i < f j) → (∀ x, x ∈ l1 ↔ x ∈ l2) → l1 = l2
  | [], [], _, _, _ => rfl
  | [], b :: l2, _, _, h => absurd ((h b).mpr (List.mem_cons_self ..)) (by simp)
  | a :: l1, [], _, _, h => absurd ((h a).mp (List.mem_cons_self ..)) (by simp)
  | a :: l1, b :: l2, h1, h2, h => by
    rw [List.pairwise_cons] at h1 h2
    have e : a = b := by
      have ha := (h a).mp (List.mem_cons_self ..)
      have hb := (h b).mpr (List.mem_cons_self ..)
      rcases List.mem_cons.mp ha with ha | ha
      · exact ha
      · rcases List.mem_cons.mp hb with hb | hb
        · exact hb.symm
        · have := h1.1 b hb
          have := h2.1 a ha
          omega
    subst e
    rw [sorted_ext h1.2 h2.2 fun x => ?_]
    have hx := h x
    constructor
    · intro k
      rcases List.mem_cons.mp (hx.mp (List.mem_cons_of_mem _ k)) with e | k'
      · subst e
        have := h1.1 x k
        omega
      · exact k'
    · intro k
      rcases List.mem_cons.mp (hx.mpr (List.mem_cons_of_mem _ k)) with e | k'
      · subst e
        have := h2.1 x k
        omega
      · exact k'
/-- Of the first k futures those of user x. -/
def ownF (fs : List (Int × Int × Int)) (x : Int) (k : Nat) : List Nat := (List.range k).filter fun j => decide ((futAt fs j).2.1 = x)
theorem mem_ownF {fs : List (Int × Int × Int)} {x : Int} {k j : Nat} : j ∈ ownF fs x k ↔ j < k ∧ (futAt fs j).2.1 = x := by
  unfold ownF
  rw [List.mem_filter, List.mem_range, decide_eq_true_iff]
theorem ownF_step {fs : List (Int × Int × Int)} {x : Int} {k : Nat} {f : Int × Int × Int} (hf : fs[k]? = some f) : ownF fs x (k + 1) = if f.2.1 = x then ownF fs x k ++ [k] else ownF fs x k := by
  have e : futAt fs k = f := by unfold futAt; rw [List.getD_eq_getElem?_getD, hf]; rfl
  unfold ownF
  rw [List.range_succ, List.filter_append]
  by_cases h : f.2.1 = x
  · rw [if_pos h]
    simp [List.filter, e, h]
  · rw [if_neg h]
    simp [List.filter, e, h]
theorem ownF_nodup (fs : List (Int × Int × Int)) (x : Int) (k : Nat) : (ownF fs x k).Nodup := List.Nodup.sublist (List.filter_sublist) List.nodup_range
theorem ownF_len (fs : List (Int × Int × Int)) (x : Int) (k : Nat) : (ownF fs x k).length ≤ k := by
  have := List.length_filter_le (fun j => decide ((futAt fs j).2.1 = x)) (List.range k)
  rw [List.length_range] at this
  exact this
theorem fut_inj {fs : List (Int × Int × Int)} (hn : (fs.map fun f => f.2).Nodup) {i j : Nat} (hi : i < fs.length) (hj : j < fs.length) (e : (futAt fs i).2 = (futAt fs j).2) : i = j := by
  unfold futAt at e
  rw [List.getD_eq_getElem?_getD, List.getElem?_eq_getElem hi, List.getD_eq_getElem?_getD, List.getElem?_eq_getElem hj] at e
  have h4 : i < (fs.map fun f => f.2).length := by simpa using hi
  have h5 : j < (fs.map fun f => f.2).length := by simpa using hj
  refine (List.getElem_inj (h₀ := h4) (h₁ := h5) hn).mp ?_
  simpa using e
theorem futAt_mem {fs : List (Int × Int × Int)} {j : Nat} (hj : j < fs.length) : futAt fs j ∈ fs := by
  unfold futAt
  rw [List.getD_eq_getElem?_getD, List.getElem?_eq_getElem hj]
  exact List.getElem_mem _
theorem touL_rises {fs : List (Int × Int × Int)} {x : Int} (hn : (fs.map fun f => f.2).Nodup) : ∀ a, (touK fs x a).Pairwise fun i j => (futAt fs i).2.2 < (futAt fs j).2.2
  | 0 => List.Pairwise.nil
  | a + 1 => by
    show (touK fs x a ++ selF fs x (a + 1) fs.length).Pairwise _
    rw [List.pairwise_append]
    refine ⟨touL_rises hn a, ?_, fun i hi j hj => ?_⟩
    · have hone : ∀ i ∈ selF fs x (a + 1) fs.length, ∀ j ∈ selF fs x (a + 1) fs.length, i = j := fun i hi j hj => by
        obtain ⟨h1, h2, h3⟩ := mem_selF.mp hi
        obtain ⟨k1, k2, k3⟩ := mem_selF.mp hj
        exact fut_inj hn h1 k1 (Prod.ext (h2.trans k2.symm) (h3.trans k3.symm))
      have hnd := selF_nodup fs x (a + 1) fs.length
      rcases hs : selF fs x (a + 1) fs.length with _ | ⟨i, _ | ⟨j, l⟩⟩
      · exact List.Pairwise.nil
      · exact List.pairwise_singleton _ _
      · rw [hs] at hone hnd
        have := hone i (by simp) j (by simp)
        rw [List.nodup_cons] at hnd
        exact absurd (by rw [this]; simp) hnd.1
    · have h1 := (mem_touK.mp hi).2.2.2
      have h2 := (mem_selF.mp hj).2.2
      omega
def plAt (pl : List Nat) (i : Nat) : Nat := pl.getD i 0
def atOf (fs : List (Int × Int × Int)) (pl : List Nat) (i : Nat) : Int := (futAt fs (plAt pl i)).2.2
theorem plAt_mem {pl : List Nat} {i : Nat} (h : i < pl.length) : plAt pl i ∈ pl := by
  unfold plAt
  rw [List.getD_eq_getElem?_getD, List.getElem?_eq_getElem h]
  exact List.getElem_mem _
/-- Places in the order of their futures are the reference's. -/
theorem places_sorted {ps fs : List (Int × Int × Int)} {x : Int} (hps : partsOk ps) (hfs : FutsOk ps fs) {m : Nat} (hm : (ownF fs x fs.length).length = m) (S : List (Fin m)) (hp : S.Perm (List.finRange m))
    (hs : S.Pairwise fun (i j : Fin m) => atOf fs (ownF fs x fs.length) i.val ≤ atOf fs (ownF fs x fs.length) j.val) : (S.map fun (i : Fin m) => plAt (ownF fs x fs.length) i.val) = touL fs x := by
  have hmem : ∀ i : Fin m, plAt (ownF fs x fs.length) i.val ∈ ownF fs x fs.length := fun i => plAt_mem (by have := i.isLt; omega)
  have hinj : ∀ i j : Fin m, atOf fs (ownF fs x fs.length) i.val = atOf fs (ownF fs x fs.length) j.val → i = j := fun i j h => by
    have h1 := mem_ownF.mp (hmem i)
    have h2 := mem_ownF.mp (hmem j)
    have e := fut_inj hfs.once h1.1 h2.1 (Prod.ext (h1.2.trans h2.2.symm) h)
    unfold plAt at e
    have hi : i.val < (ownF fs x fs.length).length := by have := i.isLt; omega
    have hj : j.val < (ownF fs x fs.length).length := by have := j.isLt; omega
    rw [List.getD_eq_getElem?_getD, List.getElem?_eq_getElem hi, List.getD_eq_getElem?_getD, List.getElem?_eq_getElem hj] at e
    exact Fin.ext ((List.getElem_inj (h₀ := hi) (h₁ := hj) (ownF_nodup fs x fs.length)).mp (by simpa using e))
  have hnd : S.Nodup := (hp.nodup_iff).mpr (List.nodup_finRange m)
  refine sorted_ext (f := fun j => (futAt fs j).2.2) ?_ (touL_rises hfs.once 99) fun j => ?_
  · rw [List.pairwise_map]
    refine (hs.and hnd).imp fun {i j} h => ?_
    have := h.1
    have hne : atOf fs (ownF fs x fs.length) i.val ≠ atOf fs (ownF fs x fs.length) j.val := fun e => h.2 (hinj i j e)
    show atOf fs (ownF fs x fs.length) i.val < atOf fs (ownF fs x fs.length) j.val
    omega
  · show _ ↔ j ∈ touK fs x 99
    rw [mem_touK, List.mem_map]
    constructor
    · rintro ⟨i, _, rfl⟩
      obtain ⟨h1, h2⟩ := mem_ownF.mp (hmem i)
      have hf := hfs.each _ (futAt_mem h1)
      have hu := hf.user
      obtain ⟨e, he⟩ : ∃ e, ps[(futAt fs (plAt (ownF fs x fs.length) i.val)).2.1.toNat]? = some e := ⟨_, List.getElem?_eq_getElem (by omega)⟩
      have hl := hf.last e he
      have hw := (hps e (List.mem_of_getElem? he)).2.2.2.2.2
      exact ⟨h1, h2, hf.first, by show _ ≤ (99 : Int); omega⟩
    · rintro ⟨h1, h2, _, _⟩
      have hj : j ∈ ownF fs x fs.length := mem_ownF.mpr ⟨h1, h2⟩
      obtain ⟨k, hk⟩ := List.mem_iff_getElem?.mp hj
      have hkl := (List.getElem?_eq_some_iff.1 hk).1
      refine ⟨⟨k, by omega⟩, hp.mem_iff.mpr (List.mem_finRange _), ?_⟩
      show (ownF fs x fs.length).getD k 0 = j
      rw [List.getD_eq_getElem?_getD, hk]
      rfl
end Go.Proofs.YtecjpclkiiaidaaDoor
