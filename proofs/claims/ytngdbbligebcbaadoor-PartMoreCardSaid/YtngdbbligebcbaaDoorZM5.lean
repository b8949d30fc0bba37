/- Shapes placed on cores: plain mathematics, in the seat YtngdbbligebcbaaDoor.
   A shape more, appended to a list of the call's own; part.On and part.mayBe, in the seat YtngdbbligebcbaaDoor: their contracts.
   slices.IndexFunc and ContainsFunc at integers (a closure that reads), and part.Right, in the seat YtngdbbligebcbaaDoor: their contracts.
   math/bits.Mul of one and a small number, in the seat YtngdbbligebcbaaDoor.
   No statement is proved here. -/
import Derived.Test.YtngdbbligebcbaaDoorZM1
import Derived.Test.YtngdbbligebcbaaDoorZM4
import Derived.Test.YtngdbbligebcbaaDoorZM2
import Derived.Shelf.Abstract
import Derived.Test.YtngdbbligebcbaaDoorChecked
import Derived.WalkKit
import Derived.WalkSmall
import Derived.Laws.BitsAllLaws
import Derived.Lib.Hide
set_option linter.unusedSimpArgs false
set_option linter.unusedVariables false
namespace Go.Proofs.YtngdbbligebcbaaDoor
open Go Go.RowKit

/-! The order -/
/-- x stands ahead of the first one of which less is told. -/
def insO (t : Nat → Int) (x : Nat) : List Nat → List Nat
  | [] => [x]
  | y :: ys => if t y < t x then x :: y :: ys else y :: insO t x ys
def ordO (t : Nat → Int) : Nat → List Nat
  | 0 => []
  | n + 1 => insO t n (ordO t n)
section
variable {t : Nat → Int}
theorem insO_perm (x : Nat) : ∀ l : List Nat, (insO t x l).Perm (x :: l)
  | [] => .refl _
  | y :: ys => by
    unfold insO
    split
    · exact .refl _
    · exact ((insO_perm x ys).cons y).trans (.swap x y ys)
theorem ordO_perm : ∀ n : Nat, (ordO t n).Perm (List.range n)
  | 0 => .refl _
  | n + 1 => by
    rw [List.range_succ]
    exact ((insO_perm n _).trans ((ordO_perm n).cons n)).trans (List.perm_append_comm (l₁ := [n]))
theorem ordO_len (n : Nat) : (ordO t n).length = n := by rw [(ordO_perm n).length_eq, List.length_range]
theorem ordO_mem {n x : Nat} : x ∈ ordO t n ↔ x < n := by rw [(ordO_perm n).mem_iff, List.mem_range]
theorem ordO_nodup (n : Nat) : (ordO t n).Nodup := (ordO_perm n).nodup_iff.mpr List.nodup_range
def LtO (t : Nat → Int) (a b : Nat) : Prop := t b < t a ∨ t a = t b ∧ a < b
theorem insO_sorted {x : Nat} : ∀ {l : List Nat}, l.Pairwise (LtO t) → (∀ y ∈ l, y < x) → (insO t x l).Pairwise (LtO t)
  | [], _, _ => by simp [insO]
  | y :: ys, h, hx => by
    obtain ⟨h1, h2⟩ := List.pairwise_cons.mp h
    unfold insO
    split
    · rename_i hlt
      refine List.pairwise_cons.mpr ⟨fun z hz => ?_, h⟩
      rcases List.mem_cons.mp hz with rfl | hz
      · exact .inl hlt
      · rcases h1 z hz with h3 | h3
        · exact .inl (by omega)
        · exact .inl (by omega)
    · rename_i hlt
      refine List.pairwise_cons.mpr ⟨fun z hz => ?_, insO_sorted h2 (fun z hz => hx z (List.mem_cons_of_mem _ hz))⟩
      rcases List.mem_cons.mp ((insO_perm x ys).mem_iff.mp hz) with rfl | hz
      · have := hx y (List.mem_cons_self ..)
        rcases Int.lt_trichotomy (t z) (t y) with h3 | h3 | h3
        · exact .inl h3
        · exact .inr ⟨h3.symm, this⟩
        · exact absurd h3 hlt
      · exact h1 z hz
theorem ordO_sorted : ∀ n : Nat, (ordO t n).Pairwise (LtO t)
  | 0 => .nil
  | n + 1 => insO_sorted (ordO_sorted n) (fun y hy => ordO_mem.mp hy)
/-- Where it stands. -/
theorem insO_at {x : Nat} : ∀ {l : List Nat} {j : Nat}, (∀ y ∈ l.take j, ¬ t y < t x) → (∀ y ∈ l.drop j, t y < t x) → insO t x l = l.take j ++ x :: l.drop j
  | [], j, _, _ => by simp [insO]
  | y :: ys, 0, _, h => by
    unfold insO
    rw [if_pos (h y (by simp))]
    rfl
  | y :: ys, j + 1, h1, h2 => by
    unfold insO
    rw [if_neg (h1 y (by simp))]
    have := insO_at (x := x) (l := ys) (j := j) (fun z hz => h1 z (by simp [hz])) (fun z hz => h2 z (by simpa using hz))
    rw [this]
    rfl
theorem ordO_at {n j : Nat} (hj : j ≤ n) (h1 : 0 < j → ∀ y, (ordO t n)[j - 1]? = some y → ¬ t y < t n) (h2 : ∀ y ∈ (ordO t n).drop j, t y < t n) : ordO t (n + 1) = (ordO t n).take j ++ n :: (ordO t n).drop j := by
  refine insO_at (fun y hy => ?_) h2
  obtain ⟨k, hk, e⟩ := List.mem_iff_getElem.mp hy
  rw [List.length_take] at hk
  rw [List.getElem_take] at e
  have hl := ordO_len (t := t) n
  have hs := ordO_sorted (t := t) n
  have h3 : ¬ t (ordO t n)[j - 1] < t n := h1 (by omega) _ (List.getElem?_eq_getElem (by omega))
  by_cases e2 : k = j - 1
  · subst e2; rw [← e]; exact h3
  · have h4 := List.pairwise_iff_getElem.mp hs k (j - 1) (by omega) (by omega) (by omega)
    rw [e] at h4
    rcases h4 with h4 | h4 <;> omega
/-- One step of it: what stands at j goes to the place ahead. -/
theorem swap_at {P : List Nat} {x j : Nat} {y : Nat} (h0 : 0 < j) (hy : P[j - 1]? = some y) : ((P.take j ++ x :: P.drop j).set j y).set (j - 1) x = P.take (j - 1) ++ x :: P.drop (j - 1) := by
  have hl := (List.getElem?_eq_some_iff.mp hy).1
  have he := (List.getElem?_eq_some_iff.mp hy).2
  have e1 : P.take j = P.take (j - 1) ++ [y] := by
    have : j = (j - 1) + 1 := by omega
    rw [this, List.take_add_one, Nat.add_sub_cancel, hy]; rfl
  have e2 : P.drop (j - 1) = y :: P.drop j := by
    rw [List.drop_eq_getElem_cons hl, he]
    congr 2
    omega
  have l1 : (P.take (j - 1)).length = j - 1 := by rw [List.length_take]; omega
  rw [e1, e2, List.append_assoc, List.set_append_right _ _ (by rw [l1]; omega), List.set_append_right _ _ (by rw [l1]; omega), l1]
  have : j - (j - 1) = 1 := by omega
  rw [this, Nat.sub_self]
  rfl
end
/-! Fits, in whichever order -/
theorem sumE_perm {f : Shp → Int} {A B : List Shp} (h : A.Perm B) : sumE f A = sumE f B := by
  induction h with
  | nil => rfl
  | cons x _ ih => simp only [sumE, ih]
  | swap x y l => simp only [sumE]; omega
  | trans _ _ h1 h2 => rw [h1, h2]
theorem fit_perm {A B : List Shp} (h : FitE A) (p : A.Perm B) : FitE B :=
  fit_less h (by rw [p.length_eq]; exact Nat.le_refl _) (fun s hs => p.mem_iff.mpr hs) (fun t _ => by unfold demE; rw [sumE_perm p]; exact Int.le_refl _)
theorem fit_sub {A B : List Shp} (h : FitE A) (p : B.Sublist A) : FitE B := by
  refine fit_less h p.length_le (fun s hs => p.subset hs) (fun t ht => ?_)
  have hm := h.1.2
  clear h
  induction p with
  | slnil => exact Int.le_refl _
  | cons x p ih =>
    have h1 := ih (fun s hs => hm s (List.mem_cons_of_mem _ hs))
    have h2 := (dem1_le (hm x (List.mem_cons_self ..)) ht).1
    rw [demE_cons]
    omega
  | cons_cons x p ih =>
    have h1 := ih (fun s hs => hm s (List.mem_cons_of_mem _ hs))
    rw [demE_cons, demE_cons]
    omega
theorem fit_nil : FitE [] := ⟨⟨by simp, fun s h => by simp at h⟩, fun t _ _ => .inl rfl⟩
/-! What is on a core -/
def onP : List Shp → List Int → Int → List Shp
  | s :: es, a :: at_, c => if a = c then s :: onP es at_ c else onP es at_ c
  | [], _, _ => []
  | _ :: _, [], _ => []
section
variable {es : List Shp} {P : List Int} {c : Int}
theorem onP_nil (es : List Shp) (c : Int) : onP es [] c = [] := by cases es <;> rfl
theorem onP_app : ∀ (A B : List Shp) (X Y : List Int) (c : Int), A.length = X.length → onP (A ++ B) (X ++ Y) c = onP A X c ++ onP B Y c
  | [], B, [], Y, c, _ => rfl
  | s :: A, B, x :: X, Y, c, h => by
    have ih := onP_app A B X Y c (by simpa using h)
    simp only [List.cons_append, onP]
    split
    · rw [ih]; rfl
    · exact ih
  | [], _, _ :: _, _, _, h => by simp at h
  | _ :: _, _, [], _, _, h => by simp at h
theorem onP_snoc {k : Nat} {s : Shp} {a : Int} (h1 : es[k]? = some s) (h2 : P[k]? = some a) : onP (es.take (k + 1)) (P.take (k + 1)) c = onP (es.take k) (P.take k) c ++ (if a = c then [s] else []) := by
  have l1 := (List.getElem?_eq_some_iff.mp h1).1
  have l2 := (List.getElem?_eq_some_iff.mp h2).1
  rw [List.take_add_one, List.take_add_one, h1, h2, onP_app _ _ _ _ _ (by simp; omega)]
  rfl
theorem onP_min (es : List Shp) (P : List Int) (c : Int) : onP (es.take (min es.length P.length)) (P.take (min es.length P.length)) c = onP es P c := by
  induction es generalizing P with
  | nil => simp [onP]
  | cons s es ih =>
    cases P with
    | nil => simp [onP]
    | cons a P =>
      have := ih P
      simp only [List.length_cons, Nat.succ_min_succ, List.take_succ_cons, onP, this]
theorem onP_sub : ∀ (es : List Shp) (P : List Int) (c : Int), (onP es P c).Sublist es
  | [], _, _ => by simp [onP]
  | _ :: _, [], _ => by simp [onP]
  | s :: es, a :: P, c => by
    have := onP_sub es P c
    simp only [onP]
    split
    · exact this.cons_cons s
    · exact this.cons s
theorem onP_len (es : List Shp) (P : List Int) (c : Int) : (onP es P c).length ≤ es.length := (onP_sub es P c).length_le
theorem onP_none : ∀ {es : List Shp} {P : List Int} {c : Int}, (∀ x ∈ P, x ≠ c) → onP es P c = []
  | [], _, _, _ => rfl
  | _ :: _, [], _, _ => rfl
  | s :: es, a :: P, c, h => by
    simp only [onP]
    rw [if_neg (h a (List.mem_cons_self ..))]
    exact onP_none (fun x hx => h x (List.mem_cons_of_mem _ hx))
theorem onP_all : ∀ {es : List Shp} {P : List Int} {c : Int}, P.length = es.length → (∀ x ∈ P, x = c) → onP es P c = es
  | [], _, _, _, _ => rfl
  | _ :: _, [], _, h, _ => by simp at h
  | s :: es, a :: P, c, h, hx => by
    simp only [onP]
    rw [if_pos (hx a (List.mem_cons_self ..)), onP_all (by simpa using h) (fun x hx' => hx x (List.mem_cons_of_mem _ hx'))]
theorem list_cut {α : Type} {l : List α} {i : Nat} {x : α} (h : l[i]? = some x) : l = l.take i ++ x :: l.drop (i + 1) := by
  obtain ⟨hl, e⟩ := List.getElem?_eq_some_iff.mp h
  rw [← e, ← List.drop_eq_getElem_cons hl, List.take_append_drop]
/-- One more is put on a core. -/
theorem onP_put {i : Nat} {s : Shp} {a : Int} (h1 : es[i]? = some s) (h2 : P[i]? = some a) (hne : a ≠ c) : (onP es (P.set i c) c).Perm (onP es P c ++ [s]) := by
  have l1 := (List.getElem?_eq_some_iff.mp h1).1
  have l2 := (List.getElem?_eq_some_iff.mp h2).1
  have e3 : (P.set i c) = P.take i ++ c :: P.drop (i + 1) := by rw [List.set_eq_take_append_cons_drop, if_pos l2]
  have e0 : es = es.take i ++ s :: es.drop (i + 1) := list_cut h1
  have e2 : P = P.take i ++ a :: P.drop (i + 1) := list_cut h2
  have hl : (es.take i).length = (P.take i).length := by simp; omega
  have q1 : onP es (P.set i c) c = onP (es.take i) (P.take i) c ++ s :: onP (es.drop (i + 1)) (P.drop (i + 1)) c := by
    rw [e3]; conv => lhs; rw [e0]
    rw [onP_app _ _ _ _ _ hl]; simp [onP]
  have q2 : onP es P c = onP (es.take i) (P.take i) c ++ onP (es.drop (i + 1)) (P.drop (i + 1)) c := by
    conv => lhs; rw [e0, e2]
    rw [onP_app _ _ _ _ _ hl]; simp [onP, hne]
  rw [q1, q2, List.append_assoc]
  exact (List.Perm.append_left _ (List.perm_append_comm (l₁ := [s])))
theorem onP_keep {i : Nat} {a b : Int} (h2 : P[i]? = some a) (hne : a ≠ c) (hb : b ≠ c) : onP es (P.set i b) c = onP es P c := by
  have l2 := (List.getElem?_eq_some_iff.mp h2).1
  by_cases l1 : i < es.length
  · obtain ⟨s, h1⟩ : ∃ s, es[i]? = some s := ⟨_, List.getElem?_eq_getElem l1⟩
    have e3 : (P.set i b) = P.take i ++ b :: P.drop (i + 1) := by rw [List.set_eq_take_append_cons_drop, if_pos l2]
    have e0 : es = es.take i ++ s :: es.drop (i + 1) := list_cut h1
    have e2 : P = P.take i ++ a :: P.drop (i + 1) := list_cut h2
    have hl : (es.take i).length = (P.take i).length := by simp; omega
    have q1 : onP es (P.set i b) c = onP (es.take i) (P.take i) c ++ onP (es.drop (i + 1)) (P.drop (i + 1)) c := by
      rw [e3]; conv => lhs; rw [e0]
      rw [onP_app _ _ _ _ _ hl]; simp [onP, hb]
    have q2 : onP es P c = onP (es.take i) (P.take i) c ++ onP (es.drop (i + 1)) (P.drop (i + 1)) c := by
      conv => lhs; rw [e0, e2]
      rw [onP_app _ _ _ _ _ hl]; simp [onP, hne]
    rw [q1, q2]
  · rw [← onP_min, ← onP_min es P]
    rw [List.length_set]
    congr 1
    rw [List.take_set, List.set_eq_of_length_le]
    rw [List.length_take]; omega
/-- Without one. -/
theorem onP_drop {i : Nat} {s : Shp} {a : Int} (h1 : es[i]? = some s) (h2 : P[i]? = some a) (h : FitE (onP es P c)) : FitE (onP (es.take i ++ es.drop (i + 1)) (P.take i ++ P.drop (i + 1)) c) := by
  have l1 := (List.getElem?_eq_some_iff.mp h1).1
  have l2 := (List.getElem?_eq_some_iff.mp h2).1
  have hl : (es.take i).length = (P.take i).length := by simp; omega
  have q2 : onP es P c = onP (es.take i) (P.take i) c ++ onP (s :: es.drop (i + 1)) (a :: P.drop (i + 1)) c := by
    conv => lhs; rw [list_cut h1, list_cut h2]
    rw [onP_app _ _ _ _ _ hl]
  rw [q2] at h
  rw [onP_app _ _ _ _ _ hl]
  simp only [onP] at h
  split at h
  · exact fit_cut h
  · exact h
end
/-! Placing -/
/-- The least one below n of which it is told. -/
def fstP (p : Nat → Prop) (n c : Nat) : Prop := c < n ∧ p c ∧ ∀ k, k < c → ¬ p k
theorem fstP_or (p : Nat → Prop) : ∀ n : Nat, (∃ c, fstP p n c) ∨ ∀ k, k < n → ¬ p k
  | 0 => .inr fun k h => by omega
  | n + 1 => by
    rcases fstP_or p n with ⟨c, h1, h2, h3⟩ | h
    · exact .inl ⟨c, by omega, h2, h3⟩
    · by_cases hp : p n
      · exact .inl ⟨n, by omega, hp, h⟩
      · exact .inr fun k hk => by
          by_cases e : k = n
          · rw [e]; exact hp
          · exact h k (by omega)
theorem fstP_one {p : Nat → Prop} {n m c d : Nat} (h1 : fstP p n c) (h2 : fstP p m d) : c = d := by
  rcases Nat.lt_trichotomy c d with h | h | h
  · exact absurd h1.2.1 (h2.2.2 c h)
  · exact h
  · exact absurd h2.2.1 (h1.2.2 d h)
/-- Whether the shape of place i fits on core c, with those that are there. -/
def FitP (es : List Shp) (P : List Int) (i c : Nat) : Prop := ∃ s, es[i]? = some s ∧ FitE (onP es P (c : Int) ++ [s])
/-- One by one: R is what comes of it; none, if one fits nowhere. -/
inductive Plc (es : List Shp) (m : Nat) : List Nat → List Int → Option (List Int) → Prop
  | done (P : List Int) : Plc es m [] P (some P)
  | full {i : Nat} {o : List Nat} {P : List Int} (h : ∀ c, c < m → ¬ FitP es P i c) : Plc es m (i :: o) P none
  | next {i c : Nat} {o : List Nat} {P : List Int} {R : Option (List Int)} (h : fstP (FitP es P i) m c) (hr : Plc es m o (P.set i (c : Int)) R) : Plc es m (i :: o) P R
theorem plc_is (es : List Shp) (m : Nat) : ∀ (o : List Nat) (P : List Int), ∃ R, Plc es m o P R
  | [], P => ⟨_, .done P⟩
  | i :: o, P => by
    rcases fstP_or (FitP es P i) m with ⟨c, h⟩ | h
    · obtain ⟨R, hR⟩ := plc_is es m o (P.set i (c : Int))
      exact ⟨R, .next h hR⟩
    · exact ⟨none, .full h⟩
theorem Plc.same {es : List Shp} {m : Nat} {o : List Nat} {P : List Int} {R : Option (List Int)} (h : Plc es m o P R) : ∀ {R' : Option (List Int)}, Plc es m o P R' → R = R' := by
  induction h with
  | done P => intro R' h; cases h; rfl
  | full h =>
    intro R' h'
    cases h' with
    | full _ => rfl
    | next h2 _ => exact absurd h2.2.1 (h _ h2.1)
  | next h _ ih =>
    intro R' h'
    cases h' with
    | full h2 => exact absurd h.2.1 (h2 _ h.1)
    | next h2 hr =>
      obtain rfl := fstP_one h h2
      exact ih hr
/-- One core more places what was placed, as it was. -/
theorem Plc.more {es : List Shp} {m : Nat} {o : List Nat} {P : List Int} {R : Option (List Int)} (h : Plc es m o P R) : ∀ {F : List Int}, R = some F → Plc es (m + 1) o P (some F) := by
  induction h with
  | done P => intro F e; cases e; exact .done _
  | full h => intro F e; cases e
  | next h _ ih => intro F e; exact .next ⟨Nat.lt_succ_of_lt h.1, h.2⟩ (ih e)
/-- Of whom no place is asked any more it stays. -/
theorem Plc.keep {es : List Shp} {m : Nat} {o : List Nat} {P : List Int} {R : Option (List Int)} (h : Plc es m o P R) : ∀ {F : List Int}, R = some F → ∀ j, j ∉ o → F[j]? = P[j]? := by
  induction h with
  | done P => intro F e j _; cases e; rfl
  | full h => intro F e; cases e
  | next h _ ih =>
    intro F e j hj
    rw [ih e j (fun q => hj (List.mem_cons_of_mem _ q)), List.getElem?_set_ne (fun q => hj (by rw [q]; exact List.mem_cons_self ..))]
/-- What has been placed: who isn't any more in o has a core, those on each core fit. -/
structure OnOk (es : List Shp) (m : Nat) (o : List Nat) (P : List Int) : Prop where
  len : P.length = es.length
  nd : o.Nodup
  lt : ∀ i ∈ o, i < es.length
  no : ∀ i ∈ o, P[i]? = some (-1)
  yes : ∀ i, i ∉ o → ∀ a, P[i]? = some a → 0 ≤ a ∧ a < m
  fit : ∀ c : Nat, FitE (onP es P (c : Int))
section
variable {es : List Shp} {m : Nat} {P : List Int}
theorem OnOk.start (es : List Shp) (m : Nat) {o : List Nat} (h : o.Perm (List.range es.length)) : OnOk es m o (List.replicate es.length (-1)) := by
  have hm : ∀ i, i ∈ o ↔ i < es.length := fun i => by rw [h.mem_iff, List.mem_range]
  refine ⟨by simp, h.nodup_iff.mpr List.nodup_range, fun i hi => (hm i).mp hi, fun i hi => ?_, fun i hi a ha => ?_, fun c => ?_⟩
  · rw [List.getElem?_replicate, if_pos ((hm i).mp hi)]
  · have := (List.getElem?_eq_some_iff.mp ha).1
    exact absurd ((hm i).mpr (by simpa using this)) hi
  · rw [onP_none (fun x hx => by rw [(List.mem_replicate.mp hx).2]; omega)]
    exact fit_nil
theorem OnOk.next {i c : Nat} {o : List Nat} (h : OnOk es m (i :: o) P) (hf : FitP es P i c) (hc : c < m) : OnOk es m o (P.set i (c : Int)) := by
  obtain ⟨hn1, hn2⟩ := List.nodup_cons.mp h.nd
  have h0 := h.no i (List.mem_cons_self ..)
  have hl := (List.getElem?_eq_some_iff.mp h0).1
  refine ⟨by rw [List.length_set]; exact h.len, hn2, fun j hj => h.lt j (List.mem_cons_of_mem _ hj), fun j hj => ?_, fun j hj a ha => ?_, fun d => ?_⟩
  · rw [List.getElem?_set_ne (fun (q : i = j) => hn1 (by rw [q]; exact hj))]
    exact h.no j (List.mem_cons_of_mem _ hj)
  · by_cases e : i = j
    · subst e
      rw [List.getElem?_set_self hl] at ha
      injection ha with ha
      omega
    · rw [List.getElem?_set_ne e] at ha
      exact h.yes j (fun q => by rcases List.mem_cons.mp q with q | q; exact e q.symm; exact hj q) a ha
  · obtain ⟨s, hs, hF⟩ := hf
    by_cases e : d = c
    · subst e
      exact fit_perm hF (onP_put hs h0 (by omega)).symm
    · rw [onP_keep h0 (by omega) (by omega)]
      exact h.fit d
/-- Of what is placed. -/
structure RightP (es : List Shp) (P : List Int) (m : Int) : Prop where
  may : 0 ≤ m ∧ m ≤ 8
  len : P.length = es.length
  at_ : ∀ a ∈ P, 0 ≤ a ∧ a < m
  fit : ∀ c : Int, 0 ≤ c → c < m → FitE (onP es P c)
theorem Plc.right {o : List Nat} {R : Option (List Int)} (h : Plc es m o P R) (hm : m ≤ 8) : ∀ {F : List Int}, R = some F → OnOk es m o P → RightP es F m := by
  induction h with
  | done P =>
    intro F e ho
    cases e
    refine ⟨by omega, ho.len, fun a ha => ?_, fun c h0 _ => ?_⟩
    · obtain ⟨i, hi, e⟩ := List.mem_iff_getElem.mp ha
      exact ho.yes i (by simp) a (by rw [List.getElem?_eq_getElem hi, e])
    · have := ho.fit c.toNat
      rw [Int.toNat_of_nonneg h0] at this
      exact this
  | full h => intro F e; cases e
  | next h _ ih =>
    intro F e ho
    exact ih e (ho.next h.2.1 h.1)
/-- If there are as many cores as shapes all are placed. -/
theorem Plc.enough {o : List Nat} {R : Option (List Int)} (h : Plc es m o P R) (hM : ∀ s ∈ es, LightS s) : OnOk es m o P → ∀ k : Nat, (∀ a ∈ P, a < k) → k + o.length ≤ m → R ≠ none := by
  induction h with
  | done P => intro _ _ _ _ e; cases e
  | @full i o P h =>
    intro ho k hk hl
    rw [List.length_cons] at hl
    have hi := ho.lt i (List.mem_cons_self ..)
    refine absurd ⟨es[i], List.getElem?_eq_getElem hi, ?_⟩ (h k (by omega))
    rw [onP_none (fun x hx => by have := hk x hx; omega)]
    exact fit_alone (hM _ (List.getElem_mem hi))
  | @next i c o P R h _ ih =>
    intro ho k hk hl
    rw [List.length_cons] at hl
    have hi := ho.lt i (List.mem_cons_self ..)
    have hck : c ≤ k := by
      apply Nat.le_of_not_lt
      intro hlt
      refine h.2.2 k hlt ⟨es[i], List.getElem?_eq_getElem hi, ?_⟩
      rw [onP_none (fun x hx => by have := hk x hx; omega)]
      exact fit_alone (hM _ (List.getElem_mem hi))
    refine ih (ho.next h.2.1 h.1) (k + 1) (fun a ha => ?_) (by omega)
    rcases List.mem_or_eq_of_mem_set ha with q | q
    · have := hk a q; omega
    · omega
/-- If they fit on one core they are placed on one. -/
theorem Plc.one {o : List Nat} {R : Option (List Int)} (h : Plc es 1 o P R) (hF : FitE es) : OnOk es 1 o P → R ≠ none := by
  induction h with
  | done P => intro _ e; cases e
  | @full i o P h =>
    intro ho
    have hi := ho.lt i (List.mem_cons_self ..)
    refine absurd ⟨es[i], List.getElem?_eq_getElem hi, ?_⟩ (h 0 (by omega))
    have h0 := ho.no i (List.mem_cons_self ..)
    exact fit_perm (fit_sub hF (onP_sub es (P.set i ((0 : Nat) : Int)) _)) (onP_put (List.getElem?_eq_getElem hi) h0 (by omega))
  | next h _ ih => intro ho; exact ih (ho.next h.2.1 h.1)
theorem RightP.one (h : RightP es P 1) : FitE es := by
  have := h.fit 0 (by omega) (by omega)
  rw [onP_all h.len (fun x hx => by have := h.at_ x hx; omega)] at this
  exact this
/-- What is right is right on more cores, too; and without a shape. -/
theorem RightP.more {m : Int} (h : RightP es P m) (hm : m < 8) : RightP es P (m + 1) := by
  refine ⟨by have := h.may; omega, h.len, fun a ha => by have := h.at_ a ha; omega, fun c h0 hc => ?_⟩
  by_cases e : c = m
  · subst e
    rw [onP_none (fun x hx => by have := h.at_ x hx; omega)]
    exact fit_nil
  · exact h.fit c h0 (by omega)
theorem RightP.less {m : Int} (h : RightP es P m) {i : Nat} (hi : i < es.length) : RightP (es.take i ++ es.drop (i + 1)) (P.take i ++ P.drop (i + 1)) m := by
  have hl := h.len
  refine ⟨h.may, by simp; omega, fun a ha => ?_, fun c h0 hc => onP_drop (List.getElem?_eq_getElem hi) (List.getElem?_eq_getElem (by omega)) (h.fit c h0 hc)⟩
  rcases List.mem_append.mp ha with q | q
  · exact h.at_ a (List.mem_of_mem_take q)
  · exact h.at_ a (List.mem_of_mem_drop q)
end
end Go.Proofs.YtngdbbligebcbaaDoor
set_option linter.unusedVariables false
set_option linter.unusedSimpArgs false
namespace Go.Proofs.YtngdbbligebcbaaDoor
open Go Go.RowKit

/-- 'append(l, s)': the shape lies in a block of its own, laid just ahead. -/
theorem wpList_pushS {ops : Array Oper} {rest : List Oper} {o : Oper} {a : Act} {Q : Exit → Act → World → Prop} (hgd : o.guard = none) (s x : Operand)
    (ho : o.op = .call { callee := .builtin .append, args := #[s, x], argTypes := #[22, 22] })
    (w1 : World) (base : Nat) (v : Value) (es : List Shp) (t l m d p : Int) (len : Nat) (hlen : es.length = len) (hl : len ≤ 900) (hO : OwnS w1 base v es) (hB : base ≤ w1.heap.size)
    (hs : a.eval s = v) (hx : a.eval x = .slice (some ⟨w1.heap.size, 0, none⟩) 1 1)
    (h : ∀ F' d' w', OwnS w' base (.slice F' (len + 1) d') (es ++ [⟨t, l, m, d, p⟩]) → Below base w1 w' → wpList Tryd.prog ops Q rest (a.put o.dst (.slice F' (len + 1) d')) w') :
    wpList Tryd.prog ops Q (o :: rest) a (w1.alloc (.cells #[.int .i64 t, .int .i64 l, .int .i64 m, .int .i64 d, .int .i64 p] 38)) := by
  obtain ⟨j0, hj0, hy0, hy1, hy2⟩ := shape_info
  subst hlen
  refine wpList_append_own _ hgd s x 22 ho base 38 j0 (.agg #[.int .i64 0, .int .i64 0, .int .i64 0, .int .i64 0, .int .i64 0]) 5 40 Tryd.underlying22 hj0 hy0 hy1 hy2 rfl (by omega) v es.length (flatS es) hs (own_below hO (below_alloc _)) ⟨w1.heap.size, 0, none⟩ 1 1 [.int .i64 t, .int .i64 l, .int .i64 m, .int .i64 d, .int .i64 p] hx rfl ?_ ?_
    (by unfold maxLen; omega) (by omega) (by simp; omega) ?_
  · intro j u hu
    rw [addr_add, World.cell?_alloc_at _ _ _ _ rfl]
    match j with
    | 0 => obtain rfl : Value.int .i64 t = u := by simpa using hu
           rfl
    | 1 => obtain rfl : Value.int .i64 l = u := by simpa using hu
           rfl
    | 2 => obtain rfl : Value.int .i64 m = u := by simpa using hu
           rfl
    | 3 => obtain rfl : Value.int .i64 d = u := by simpa using hu
           rfl
    | 4 => obtain rfl : Value.int .i64 p = u := by simpa using hu
           rfl
    | j + 5 => simp at hu
  · intro u hu
    rcases (by simpa using hu : u = .int .i64 t ∨ u = .int .i64 l ∨ u = .int .i64 m ∨ u = .int .i64 d ∨ u = .int .i64 p) with rfl | rfl | rfl | rfl | rfl <;> rfl
  · intro v' w' hown' hg _
    have hO' : OwnS w' base v' (es ++ [⟨t, l, m, d, p⟩]) := by
      unfold OwnS
      rw [List.length_append, List.length_singleton, flatS_app]
      exact hown'
    obtain ⟨F', d', rfl, _⟩ := hO'.slice
    rw [show (es ++ [(⟨t, l, m, d, p⟩ : Shp)]).length = es.length + 1 by simp] at hO' ⊢
    exact h F' d' w' hO' (((Below.refl base w1).alloc hB _).grown hg (by simp; omega) (fun k hk => (World.ownsRow.lt hO k hk).1))
theorem OwnS.nil (w : World) (base : Nat) : OwnS w base (.slice none 0 0) [] := ⟨rfl, .inl ⟨rfl, rfl⟩⟩
theorem maybe_any (m : Int) (w : World) : Calls Tryd.prog 19 #[.int .i64 m] w fun e w' => e = .returned (.bool (decide (0 ≤ m ∧ m ≤ 8))) ∧ w = w' := by
  by_cases h0 : 0 ≤ m
  · by_cases h8 : m ≤ 8
    · rw [decide_eq_true ⟨h0, h8⟩]
      go_enter Tryd.func19, Tryd.ntmps19
      go_wp2
      go_ret
      exact ⟨rfl, rfl⟩
    · rw [decide_eq_false (fun q => h8 q.2)]
      go_enter Tryd.func19, Tryd.ntmps19
      go_wp2
      go_ret
      exact ⟨rfl, rfl⟩
  · rw [decide_eq_false (fun q => h0 q.1)]
    go_enter Tryd.func19, Tryd.ntmps19
    go_wp2
    go_ret
    exact ⟨rfl, rfl⟩
section
variable {A P : Option Addr} {n c m d : Nat} {es : List Shp} {at_ : List Int}
set_option maxRecDepth 100000 in
set_option maxHeartbeats 4000000 in
theorem on_any (k : Int) (w : World) (hn : es.length = n) (hl : n ≤ 800) (hS : Shps w w.heap.size A es) (hm : at_.length = m) (hm2 : m ≤ 1000) (hP : Ints w w.heap.size P at_) :
    Calls Tryd.prog 13 #[.slice A n c, .slice P m d, .int .i64 k] w (GotShps (onP es at_ k) w) := by
  have HS := Lib.hid hS
  have HP := Lib.hid hP
  obtain ⟨q, hq⟩ : ∃ q, q = min n m := ⟨_, rfl⟩
  have hmin : min (n : Int) (m : Int) = (q : Int) := by omega
  have HQ := Lib.hid hq
  have HE : Hid (onP (es.take q) (at_.take q) k = onP es at_ k) := Lib.hid (by rw [hq, ← hn, ← hm]; exact onP_min es at_ k)
  have HN := Lib.hid (show es.length = n ∧ at_.length = m ∧ q ≤ n ∧ q ≤ m from ⟨hn, hm, by omega, by omega⟩)
  have hq8 : q ≤ 800 := by omega
  have hcases : (m < n ∧ q = m) ∨ (¬ m < n ∧ q = n) := by omega
  clear hn hS hm hP hq hl hm2 hmin
  rcases hcases with ⟨h, rfl⟩ | ⟨h, rfl⟩
  all_goals
    go_enter Tryd.func13, Tryd.ntmps13
    go_wp2
    go_loopw [7, 14] (fun v i wr => ∃ (j len : Nat) (F : Option Addr) (f : Nat), j ≤ q ∧ len ≤ j ∧ i = .int .i64 j ∧ v = .slice F len f ∧ Hid (len = (onP (es.take j) (at_.take j) k).length) ∧ Hid (OwnS wr w.heap.size (.slice F len f) (onP (es.take j) (at_.take j) k)) ∧ Hid (Below w.heap.size w wr)) (fun _ i _ => q - (intOf i).toNat)
    case atStart => exact ⟨0, 0, none, 0, Nat.zero_le _, Nat.le_refl _, rfl, rfl, Lib.hid (by simp [onP]), Lib.hid (by simp only [List.take_zero, onP]; exact OwnS.nil _ _), Lib.hid (Below.refl _ _)⟩
    case round =>
      obtain ⟨j, len, F, f, hj, hlj, rfl, rfl, HL, HO, HI⟩ := hrel
      by_cases hlt : j < q
      · obtain ⟨bk, off, t, l, mm, dd, pp, rfl, hbg, hek, d1, d2, d3, d4, d5⟩ := (HS.out.below HI.out).at_ (k := j) (by have := HN.out; omega)
        obtain ⟨b3, o3, x, rfl, hb3, hx, d6⟩ := (HP.out.below HI.out).at_ (k := j) (by have := HN.out; omega)
        have HSN := Lib.hid (onP_snoc (c := k) hek hx)
        clear hek hx
        by_cases hxk : x = k
        · subst hxk
          rw [if_pos rfl] at HSN
          go_wp2_with (at_builtin; refine wpList_pushS rfl _ _ rfl wr w.heap.size _ _ t l mm dd pp len HL.out.symm (by omega) HO.out HI.out.size rfl rfl ?_; intro F' d' w3 hO3 hb3; have HO3 := Lib.hid hO3; have HI3 := Lib.hid (HI.out.trans hb3); clear hO3 hb3)
          go_roundw
          case rel => exact ⟨j + 1, len + 1, F', d', by omega, by omega, by go_num, rfl, Lib.hid (by rw [HSN.out, List.length_append, ← HL.out]; rfl), Lib.hid (by rw [HSN.out]; exact HO3.out), HI3⟩
          case measure => simp [intOf]; omega
        · rw [if_neg hxk, List.append_nil] at HSN
          go_wp2
          go_roundw
          case rel => exact ⟨j + 1, len, F, f, by omega, by omega, by go_num, rfl, Lib.hid (by rw [HSN.out]; exact HL.out), Lib.hid (by rw [HSN.out]; exact HO.out), HI⟩
          case measure => simp [intOf]; omega
      · obtain rfl : q = j := by omega
        rw [HE.out] at HL HO
        go_wp2
        go_ret
        exact ⟨F, f, by rw [← HL.out]; rfl, by rw [← HL.out]; exact HO.out, HI.out⟩
theorem on_n (k : Int) (w : World) (hn : es.length = n) (hl : n ≤ 800) (hS : Shps w w.heap.size A es) (hm : at_.length = m) (hm2 : m ≤ 1000) (hP : Ints w w.heap.size P at_) :
    Calls Tryd.prog 13 #[.slice A n c, .slice P m d, .int .i64 k] w fun e w' => ∃ A1 n1 c1, e = .returned (.slice A1 n1 c1) ∧ n1 ≤ n ∧ (onP es at_ k).length = n1 ∧ OwnS w' w.heap.size (.slice A1 n1 c1) (onP es at_ k) ∧ Below w.heap.size w w' := by
  refine (on_any (c := c) (d := d) k w hn hl hS hm hm2 hP).mono ?_
  rintro e w' ⟨A1, c1, rfl, ho, hb⟩
  exact ⟨A1, _, c1, rfl, by rw [← hn]; exact onP_len _ _ _, rfl, ho, hb⟩
end
end Go.Proofs.YtngdbbligebcbaaDoor
set_option linter.unusedVariables false
set_option linter.unusedSimpArgs false
namespace Go.Proofs.YtngdbbligebcbaaDoor
open Go Go.RowKit

set_option maxHeartbeats 2000000 in
theorem idx_p16 (A : Option Addr) (c n : Nat) (zs : List Int) (g : Nat) (lb : Array Value) (eg : ∀ args w, (callFunc g args).run Tryd.prog w = .ok (.enter g args) w) (p : Int → Bool) (w : World) (hn : zs.length = n) (hl : n ≤ 1000) (hT : Ints w w.heap.size A zs)
    (hp : ∀ z W, Below w.heap.size w W → Calls Tryd.prog g (#[.int .i64 z] ++ lb) W fun e w' => e = .returned (.bool (p z)) ∧ Below W.heap.size W w') :
    Calls Tryd.prog 40 #[.slice A n c, .func (.func g) #[] lb] w fun e w' => ∃ r, e = .returned (.int .i64 r) ∧ Below w.heap.size w w' ∧ (0 ≤ r ↔ ∃ z ∈ zs, p z = true) := by
  have HT := Lib.hid hT
  have HP := Lib.hid hp
  have HN := Lib.hid hn
  clear hT hp hn
  go_enter Tryd.func40, Tryd.ntmps40
  go_wp2
  go_loopw [8] (fun v wr => ∃ k : Nat, k ≤ n ∧ v = .int .i64 k ∧ Hid (Below w.heap.size w wr) ∧ Hid (∀ s ∈ zs.take k, p s = false)) (fun v _ => n - (intOf v).toNat)
  case atStart => exact ⟨0, Nat.zero_le _, rfl, Lib.hid (Below.refl _ _), Lib.hid (fun s hs => by simp at hs)⟩
  case round =>
    obtain ⟨k, hk, rfl, HI, HF⟩ := hrel
    by_cases hlt : k < n
    · obtain ⟨bk, off, z, rfl, hbg, hek, d1⟩ := (HT.out.below HI.out).at_ (k := k) (by rw [HN.out]; exact hlt)
      have HEK := Lib.hid hek
      have hcall := HP.out z wr HI.out
      clear hek
      cases hq : p z with
      | true =>
        have HQ := Lib.hid hq
        rw [hq] at hcall
        clear hq
        go_wp2_with (go_at_fn g; refine hcall.mono ?_; rintro e w' ⟨rfl, hb'⟩)
        go_ret
        exact ⟨_, rfl, HI.out.trans (hb'.mono HI.out.size), ⟨fun _ => ⟨_, List.mem_of_getElem? HEK.out, HQ.out⟩, fun _ => by omega⟩⟩
      | false =>
        have HQ := Lib.hid hq
        rw [hq] at hcall
        clear hq
        go_wp2_with (go_at_fn g; refine hcall.mono ?_; rintro e w' ⟨rfl, hb'⟩; have HB := Lib.hid (HI.out.trans (hb'.mono HI.out.size)); clear hb')
        go_roundw
        case rel => exact ⟨k + 1, by omega, by go_num, HB, Lib.hid (fun s hs => by
          rw [List.take_add_one, HEK.out] at hs
          rcases List.mem_append.mp hs with h | h
          · exact HF.out s h
          · obtain rfl : s = z := by simpa using h
            exact HQ.out)⟩
        case measure => simp [intOf]; omega
    · obtain rfl : n = k := by omega
      go_wp2
      go_ret
      exact ⟨-1, rfl, HI.out, ⟨fun h => absurd h (by decide), fun ⟨s, hs, h⟩ => by
        have := HF.out s (by rw [List.take_of_length_le (by rw [HN.out]; exact Nat.le_refl _)]; exact hs)
        rw [this] at h; cases h⟩⟩
set_option maxHeartbeats 2000000 in
theorem has_p16 (A : Option Addr) (c n : Nat) (zs : List Int) (g : Nat) (lb : Array Value) (eg : ∀ args w, (callFunc g args).run Tryd.prog w = .ok (.enter g args) w) (p : Int → Bool) (w : World) (hn : zs.length = n) (hl : n ≤ 1000) (hT : Ints w w.heap.size A zs) (r : Bool) (hr : r = true ↔ ∃ z ∈ zs, p z = true)
    (hp : ∀ z W, Below w.heap.size w W → Calls Tryd.prog g (#[.int .i64 z] ++ lb) W fun e w' => e = .returned (.bool (p z)) ∧ Below W.heap.size W w') :
    Calls Tryd.prog 25 #[.slice A n c, .func (.func g) #[] lb] w fun e w' => e = .returned (.bool r) ∧ Below w.heap.size w w' := by
  have C := Lib.hid (idx_p16 A c n zs g lb eg p w hn hl hT hp)
  have HR := Lib.hid hr
  clear hT hp hn hr
  go_enter Tryd.func25, Tryd.ntmps25
  go_wp2_with fail
  refine C.out.mono ?_
  rintro e w1 ⟨i, rfl, b, hi⟩
  have HB := Lib.hid b
  by_cases h0 : 0 ≤ i
  · obtain rfl : r = true := HR.out.mpr (hi.mp h0)
    clear b hi
    go_wp2
    go_ret
    exact ⟨rfl, HB.out⟩
  · obtain rfl : r = false := by
      rw [← Bool.not_eq_true]
      exact fun q => h0 (hi.mpr (HR.out.mp q))
    have hd : decide (0 ≤ i) = false := decide_eq_false h0
    clear b hi
    go_wp2
    go_ret
    exact ⟨rfl, HB.out⟩
theorem elsewhere_any (x m : Int) (p : Nat) (w : World) (hc : w.cell? ⟨p, 0, none⟩ = some (.int .i64 m)) : Calls Tryd.prog 24 #[.int .i64 x, .pointer (some ⟨p, 0, none⟩)] w fun e w' => e = .returned (.bool (decide (x < 0 ∨ m ≤ x))) ∧ Below w.heap.size w w' := by
  by_cases h0 : x < 0
  · rw [decide_eq_true (.inl h0)]
    go_enter Tryd.func24, Tryd.ntmps24
    go_wp2
    go_ret
    exact ⟨rfl, Below.refl _ _⟩
  · by_cases h1 : m ≤ x
    · rw [decide_eq_true (.inr h1)]
      go_enter Tryd.func24, Tryd.ntmps24
      go_wp2
      go_ret
      exact ⟨rfl, Below.refl _ _⟩
    · rw [decide_eq_false (fun q => q.elim h0 h1)]
      go_enter Tryd.func24, Tryd.ntmps24
      go_wp2
      go_ret
      exact ⟨rfl, Below.refl _ _⟩
theorem existsB (q : Prop) : ∃ r : Bool, r = true ↔ q := by
  by_cases h : q
  · exact ⟨true, fun _ => h, fun _ => rfl⟩
  · exact ⟨false, fun k => Bool.noConfusion k, fun k => absurd k h⟩
section
variable {A P : Option Addr} {n c m d : Nat} {es : List Shp} {at_ : List Int}
set_option maxRecDepth 100000 in
set_option maxHeartbeats 8000000 in
theorem right_any (r : Bool) (k : Int) (hr : r = true ↔ RightP es at_ k) (w : World) (hT : DTab w) (hn : es.length = n) (hl : n ≤ 800) (hS : Shps w w.heap.size A es) (hm : at_.length = m) (hm2 : m ≤ 800) (hP : Ints w w.heap.size P at_) :
    Calls Tryd.prog 14 #[.slice A n c, .slice P m d, .int .i64 k] w fun e w' => e = .returned (.bool r) ∧ Below w.heap.size w w' := by
  obtain ⟨w0, hw0⟩ : ∃ w0, w0 = w.alloc (.cells #[.int .i64 k] 3) := ⟨_, rfl⟩
  have hb0 : Below w.heap.size w w0 := by rw [hw0]; exact below_alloc _
  have hrow : RowV w.heap.size 3 [.int .i64 k] w0 := by rw [hw0]; exact RowV.new w _ _
  have c0 := hrow.cell (j := 0) rfl
  have KM := Lib.hid (maybe_any k)
  have HB0 := Lib.hid hb0
  have HW := Lib.hid hw0
  have HR := Lib.hid hr
  by_cases h0 : 0 ≤ k ∧ k ≤ 8
  · rw [decide_eq_true h0] at KM
    by_cases hnm : m = n
    · subst hnm
      have KI := Lib.hid (fun z W (b : Below w0.heap.size w0 W) => elsewhere_any z k w.heap.size W ((hrow.below b hrow.lt).cell (j := 0) rfl))
      obtain ⟨q, hq⟩ := existsB (∃ z ∈ at_, decide (z < 0 ∨ k ≤ z) = true)
      have KH := Lib.hid (has_p16 P d m at_ 24 #[.pointer (some ⟨w.heap.size, 0, none⟩)] (eg_of Tryd.func24 (by kernel_rfl) rfl) (fun z => decide (z < 0 ∨ k ≤ z)) w0 hm (by omega) (hP.below hb0 |>.more hb0.size) q hq (fun z W b => KI.out z W b))
      have KO := Lib.hid (fun (j : Int) W (b : Below w0.heap.size w0 W) => on_n (c := c) (d := d) j W hn hl (hS.via (hb0.trans (b.mono hb0.size))) hm (by omega) ((hP.below (hb0.trans (b.mono hb0.size))).more (Nat.le_trans hb0.size b.size)))
      have KF := Lib.hid (fun (j : Int) (x : Bool) (hx : x = true ↔ FitE (onP es at_ j)) A1 n1 c1 W (b : Below w0.heap.size w0 W) (hl1 : (onP es at_ j).length = n1) (hle : n1 ≤ m) (ho : Shps W W.heap.size A1 (onP es at_ j)) => efits_any (c := c1) x hx W (hT.via (hb0.trans (b.mono hb0.size))) hl1 (by omega) ho)
      have HM := Lib.hid (show at_.length = es.length from by rw [hm, hn])
      have HQ := Lib.hid hq
      have HK := Lib.hid h0
      cases q with
      | true =>
        have hf : r = false := by
          rw [← Bool.not_eq_true]
          intro e
          obtain ⟨z, hz, hd⟩ := HQ.out.mp rfl
          have h1 := (HR.out.mp e).at_ z hz
          have h2 := of_decide_eq_true hd
          omega
        subst hf
        clear hrow hr hb0 hw0 hn hS hm hP hT hq h0 hl hm2 KI KO KF
        go_enter Tryd.func14, Tryd.ntmps14
        go_wp2_with fail
        rw [← HW.out]
        refine (KM.out _).mono ?_
        rintro e w1 ⟨rfl, rfl⟩
        go_wp2_with fail
        refine KH.out.mono ?_
        rintro e w1 ⟨rfl, b⟩
        have HI := Lib.hid (HB0.out.trans (b.mono HB0.out.size))
        clear b
        go_wp2
        go_ret
        exact ⟨rfl, HI.out⟩
      | false =>
        have HA : Hid (∀ a ∈ at_, 0 ≤ a ∧ a < k) := Lib.hid (fun a ha => by
          have : ¬ (a < 0 ∨ k ≤ a) := fun q => Bool.noConfusion (HQ.out.mpr ⟨a, ha, decide_eq_true q⟩)
          omega)
        obtain ⟨kn, rfl⟩ : ∃ kn : Nat, k = kn := ⟨k.toNat, by omega⟩
        have hkn : kn ≤ 8 := by omega
        clear hr hb0 hw0 hn hS hm hP hT hq h0 hl KI HQ
        go_enter Tryd.func14, Tryd.ntmps14
        go_wp2_with fail
        rw [← HW.out]
        refine (KM.out _).mono ?_
        rintro e w1 ⟨rfl, rfl⟩
        go_wp2_with fail
        refine KH.out.mono ?_
        rintro e w1 ⟨rfl, b⟩
        have c1 := (hrow.below b hrow.lt).cell (j := 0) rfl
        have HI := Lib.hid b
        clear b c0
        go_wp2
        clear c1 hrow
        go_loopw [26] (fun v wr => ∃ j : Nat, j ≤ kn ∧ v = .int .i64 j ∧ Hid (Below w0.heap.size w0 wr) ∧ Hid (∀ i : Nat, i < j → FitE (onP es at_ (i : Int)))) (fun v _ => kn - (intOf v).toNat)
        case atStart => exact ⟨0, Nat.zero_le _, rfl, HI, Lib.hid (fun i hi => by omega)⟩
        case round =>
          clear HI
          obtain ⟨j, hj, rfl, HI, HF⟩ := hrel
          by_cases hlt : j < kn
          · obtain ⟨x, hx⟩ := existsB (FitE (onP es at_ (j : Int)))
            have HX := Lib.hid hx
            clear hx
            go_wp2_with fail
            refine (KO.out (j : Int) _ HI.out).mono ?_
            rintro e w2 ⟨A1, n1, c1, rfl, hn1, hle, ho, b⟩
            have HO := Lib.hid (show (onP es at_ (j : Int)).length = n1 ∧ n1 ≤ m ∧ Shps w2 w2.heap.size A1 (onP es at_ (j : Int)) from ⟨hle, hn1, ho.shps⟩)
            have HI := Lib.hid (HI.out.trans (b.mono HI.out.size))
            clear b ho hle
            go_wp2_with fail
            refine (KF.out (j : Int) x HX.out A1 n1 c1 _ HI.out HO.out.1 HO.out.2.1 HO.out.2.2).mono ?_
            rintro e w3 ⟨rfl, b⟩
            have HI := Lib.hid (HI.out.trans (b.mono HI.out.size))
            clear b
            cases x with
            | true =>
              go_wp2
              go_roundw
              case rel => exact ⟨j + 1, by omega, by go_num, HI, Lib.hid (fun i hi => by
                by_cases e : i = j
                · rw [e]; exact HX.out.mp (by simp)
                · exact HF.out i (by omega))⟩
              case measure => simp [intOf]; omega
            | false =>
              have hf : r = false := by
                rw [← Bool.not_eq_true]
                exact fun e => Bool.noConfusion (HX.out.mpr ((HR.out.mp e).fit j (by omega) (by omega)))
              subst hf
              go_wp2
              go_ret
              exact ⟨rfl, HB0.out.trans (HI.out.mono HB0.out.size)⟩
          · have e : kn = j := by omega
            subst e
            have ht : r = true := HR.out.mpr ⟨HK.out, HM.out, HA.out, fun c h0 h1 => by
              have := HF.out c.toNat (by omega)
              rw [Int.toNat_of_nonneg h0] at this
              exact this⟩
            subst ht
            go_wp2
            go_ret
            exact ⟨rfl, HB0.out.trans (HI.out.mono HB0.out.size)⟩
    · have hf : r = false := by
        rw [← Bool.not_eq_true]
        exact fun e => hnm (by have := (HR.out.mp e).len; omega)
      subst hf
      have hne : ((m : Int) != (n : Int)) = true := by simp; omega
      clear hrow hr hb0 hw0 hn hS hm hP hT h0 hl hm2
      go_enter Tryd.func14, Tryd.ntmps14
      go_wp2_with fail
      rw [← HW.out]
      refine (KM.out _).mono ?_
      rintro e w1 ⟨rfl, rfl⟩
      go_wp2
      go_ret
      exact ⟨rfl, HB0.out⟩
  · rw [decide_eq_false h0] at KM
    have hf : r = false := by
      rw [← Bool.not_eq_true]
      exact fun e => h0 (HR.out.mp e).may
    subst hf
    clear hrow hr hb0 hw0 hn hS hm hP hT h0 hl hm2
    go_enter Tryd.func14, Tryd.ntmps14
    go_wp2_with fail
    rw [← HW.out]
    refine (KM.out _).mono ?_
    rintro e w1 ⟨rfl, rfl⟩
    go_wp2
    go_ret
    exact ⟨rfl, HB0.out⟩
end
end Go.Proofs.YtngdbbligebcbaaDoor
set_option linter.unusedVariables false
set_option linter.unusedSimpArgs false
namespace Go.Proofs.YtngdbbligebcbaaDoor
open Go Go.RowKit

theorem and_small : ∀ n : Fin 32, bits .and .u64 (n.1 : Int) 4294967295 = n.1 := by decide
set_option maxHeartbeats 2000000 in
theorem mul64_one (n : Nat) (hn : n ≤ 31) (w : World) : Calls Tryd.prog 53 #[.int .u64 1, .int .u64 n] w fun e w' => e = .returned (.tuple #[.int .u64 0, .int .u64 n]) ∧ w = w' := by
  have h1 : bits .and .u64 1 4294967295 = 1 := by decide
  have h0 : bits .and .u64 0 4294967295 = 0 := by decide
  have h2 : bits .and .u64 (n : Int) 4294967295 = n := and_small ⟨n, by omega⟩
  have h3 : (n : Int) / 4294967296 = 0 := by omega
  have h4 : IntKind.u64.wrap (n : Int) = n := by simp [IntKind.wrap, IntKind.signed, IntKind.bits]; omega
  have h5 : IntKind.u64.wrap 0 = 0 := by decide
  clear hn
  go_enter Tryd.func53, Tryd.ntmps53
  go_wp2
  refine bodyPost_ret (v := .tuple #[.int .u64 0, .int .u64 n]) ?_ rfl ⟨rfl, rfl⟩
  simp [results, Tryd.results53, go_sem, h0, h1, h2, h3, h4, h5]
theorem mul_one (n : Nat) (hn : n ≤ 31) (w : World) : Calls Tryd.prog 48 #[.int .u64 1, .int .u64 n] w fun e w' => e = .returned (.tuple #[.int .u64 0, .int .u64 n]) ∧ w = w' := by
  have C := Lib.hid (fun W => mul64_one n hn W)
  clear hn
  go_enter Tryd.func48, Tryd.ntmps48
  go_wp2_with fail
  refine (C.out _).mono ?_
  rintro e w1 ⟨rfl, rfl⟩
  go_wp2
  refine bodyPost_ret (v := .tuple #[.int .u64 0, .int .u64 n]) ?_ rfl ⟨rfl, rfl⟩
  simp [results, Tryd.results48, go_sem]
end Go.Proofs.YtngdbbligebcbaaDoor
