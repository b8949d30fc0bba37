import Derived.Test.YtlfekmbalgkmeaaGreatDoorYM1
import Derived.Test.YtlfekmbalgkmeaaGreatDoorChecked
import Derived.WalkKit
import Derived.WalkSmall
import Derived.Below
import Derived.Laws.Rows
import Derived.Laws.OwnMore
import Derived.Laws.MakeOwn
set_option linter.unusedSimpArgs false
set_option linter.unnecessarySimpa false
set_option linter.unusedVariables false
namespace Go.Proofs.YtlfekmbalgkmeaaGreatDoor
open Go Go.RowKit
def insO (t: Nat -> Int) (x: Nat): List Nat -> List Nat
 | [] => [x]
 | y :: ys => if t y < t x then x :: y :: ys else y :: insO t x ys
def ordO (t: Nat -> Int): Nat -> List Nat
 | 0 => []
 | n + 1 => insO t n (ordO t n)
section
variable {t: Nat -> Int}
theorem insO_perm (x : Nat) : ∀ l : List Nat, (insO t x l).Perm (x :: l)
  | [] => .refl _
  | y :: ys => by
    unfold insO
    split
    · exact .refl _
    · exact ((insO_perm x ys).cons y).trans (.swap x y ys)
theorem ordO_perm : ∀ n : Nat, (ordO t n).Perm (List.range n)
  | 0 => .refl _
  | n + 1 => by
    rw [List.range_succ]
    exact ((insO_perm n _).trans ((ordO_perm n).cons n)).trans (List.perm_append_comm (l₁ := [n]))
theorem ordO_len (n: Nat): (ordO t n).length = n:=by rw [(ordO_perm n).length_eq,List.length_range]
theorem ordO_mem {n x: Nat}: x ∈ ordO t n ↔ x < n:=by rw [(ordO_perm n).mem_iff,List.mem_range]
def LtO (t: Nat -> Int) (a b: Nat): Prop:=t b < t a \/ t a = t b /\ a < b
theorem insO_sorted {x : Nat} : ∀ {l : List Nat}, l.Pairwise (LtO t) -> (∀ y ∈ l, y < x) -> (insO t x l).Pairwise (LtO t)
  | [], _, _ => by simp [insO]
  | y :: ys, h, hx => by
    obtain ⟨h1, h2⟩ := List.pairwise_cons.mp h
    unfold insO
    split
    · rename_i hlt
      refine List.pairwise_cons.mpr ⟨fun z hz => ?_, h⟩
      rcases List.mem_cons.mp hz with rfl | hz
      · exact .inl hlt
      · rcases h1 z hz with h3 | h3
        · exact .inl (by omega)
        · exact .inl (by omega)
    · rename_i hlt
      refine List.pairwise_cons.mpr ⟨fun z hz => ?_, insO_sorted h2 (fun z hz => hx z (List.mem_cons_of_mem _ hz))⟩
      rcases List.mem_cons.mp ((insO_perm x ys).mem_iff.mp hz) with rfl | hz
      · have := hx y (List.mem_cons_self ..)
        rcases Int.lt_trichotomy (t z) (t y) with h3 | h3 | h3
        · exact .inl h3
        · exact .inr ⟨h3.symm, this⟩
        · exact absurd h3 hlt
      · exact h1 z hz
theorem ordO_sorted: ∀ n: Nat,(ordO t n).Pairwise (LtO t)
 | 0 => .nil
 | n + 1 => insO_sorted (ordO_sorted n) (fun y hy => ordO_mem.mp hy)
theorem insO_at {x : Nat} : ∀ {l : List Nat} {j : Nat}, (∀ y ∈ l.take j, ¬ t y < t x) -> (∀ y ∈ l.drop j, t y < t x) -> insO t x l = l.take j ++ x :: l.drop j
  | [], j, _, _ => by simp [insO]
  | y :: ys, 0, _, h => by
    unfold insO
    rw [if_pos (h y (by simp))]
    rfl
  | y :: ys, j + 1, h1, h2 => by
    unfold insO
    rw [if_neg (h1 y (by simp))]
    have := insO_at (x := x) (l := ys) (j := j) (fun z hz => h1 z (by simp [hz])) (fun z hz => h2 z (by simpa using hz))
    rw [this]
    rfl
theorem ordO_at {n j: Nat} (hj: j <= n) (h1: 0 < j -> ∀ y,(ordO t n)[j - 1]? = some y -> ¬ t y < t n) (h2: ∀ y ∈ (ordO t n).drop j,t y < t n): ordO t (n + 1) = (ordO t n).take j ++ n :: (ordO t n).drop j:=by
 refine insO_at (fun y hy => ?_) h2
 obtain ⟨k,hk,e⟩:=List.mem_iff_getElem.mp hy
 rw [List.length_take] at hk
 rw [List.getElem_take] at e
 have hl:=ordO_len (t:=t) n
 have hs:=ordO_sorted (t:=t) n
 have h3: ¬ t (ordO t n)[j - 1] < t n:=h1 (by omega) _ (List.getElem?_eq_getElem (by omega))
 by_cases e2: k = j - 1
 ·subst e2; rw [<- e]; exact h3
 ·have h4:=List.pairwise_iff_getElem.mp hs k (j - 1) (by omega) (by omega) (by omega)
  rw [e] at h4
  rcases h4 with h4 | h4 <;> omega
theorem swap_at {P: List Nat} {x j: Nat} {y: Nat} (h0: 0 < j) (hy: P[j - 1]? = some y): ((P.take j ++ x :: P.drop j).set j y).set (j - 1) x = P.take (j - 1) ++ x :: P.drop (j - 1):=by
 have hl:=(List.getElem?_eq_some_iff.mp hy).1
 have he:=(List.getElem?_eq_some_iff.mp hy).2
 have e1: P.take j = P.take (j - 1) ++ [y]:=by
  have: j = (j - 1) + 1:=by omega
  rw [this,List.take_add_one,Nat.add_sub_cancel,hy]; rfl
 have e2: P.drop (j - 1) = y :: P.drop j:=by
  rw [List.drop_eq_getElem_cons hl,he]
  congr 2
  omega
 have l1: (P.take (j - 1)).length = j - 1:=by rw [List.length_take]; omega
 rw [e1,e2,List.append_assoc,List.set_append_right _ _ (by rw [l1]; omega),List.set_append_right _ _ (by rw [l1]; omega),l1]
 have: j - (j - 1) = 1:=by omega
 rw [this,Nat.sub_self]
 rfl
end
theorem sumE_perm {f: Shp -> Int} {A B: List Shp} (h: A.Perm B): sumE f A = sumE f B:=by
 induction h with
 | nil => rfl
 | cons x _ ih => simp only [sumE,ih]
 | swap x y l => simp only [sumE]; omega
 | trans _ _ h1 h2 => rw [h1,h2]
theorem fit_perm {A B: List Shp} (h: FitE A) (p: A.Perm B): FitE B :=
 fit_less h (by rw [p.length_eq]; exact Nat.le_refl _) (fun s hs => p.mem_iff.mpr hs) (fun t _ => by unfold demE; rw [sumE_perm p]; exact Int.le_refl _)
theorem fit_sub {A B : List Shp} (h : FitE A) (p : B.Sublist A) : FitE B := by
  refine fit_less h p.length_le (fun s hs => p.subset hs) (fun t ht => ?_)
  have hm := h.1.2
  clear h
  induction p with
  | slnil => exact Int.le_refl _
  | cons x p ih =>
    have h1 := ih (fun s hs => hm s (List.mem_cons_of_mem _ hs))
    have h2 := (dem1_le (hm x (List.mem_cons_self ..)) ht).1
    rw [demE_cons]
    omega
  | cons_cons x p ih =>
    have h1 := ih (fun s hs => hm s (List.mem_cons_of_mem _ hs))
    rw [demE_cons, demE_cons]
    omega
theorem fit_nil: FitE []:=⟨⟨by simp,fun s h => by simp at h⟩,fun t _ _ => .inl rfl⟩
def onP: List Shp -> List Int -> Int -> List Shp
 | s :: es,a :: at_,c => if a = c then s :: onP es at_ c else onP es at_ c
 | [],_,_ => []
 | _ :: _,[],_ => []
section
variable {es: List Shp} {P: List Int} {c: Int}
theorem onP_app : ∀ (A B : List Shp) (X Y : List Int) (c : Int), A.length = X.length -> onP (A ++ B) (X ++ Y) c = onP A X c ++ onP B Y c
  | [], B, [], Y, c, _ => rfl
  | s :: A, B, x :: X, Y, c, h => by
    have ih := onP_app A B X Y c (by simpa using h)
    simp only [List.cons_append, onP]
    split
    · rw [ih]; rfl
    · exact ih
  | [], _, _ :: _, _, _, h => by simp at h
  | _ :: _, _, [], _, _, h => by simp at h
theorem onP_snoc {k: Nat} {s: Shp} {a: Int} (h1: es[k]? = some s) (h2: P[k]? = some a): onP (es.take (k + 1)) (P.take (k + 1)) c = onP (es.take k) (P.take k) c ++ (if a = c then [s] else []):=by
 have l1:=(List.getElem?_eq_some_iff.mp h1).1
 have l2:=(List.getElem?_eq_some_iff.mp h2).1
 rw [List.take_add_one,List.take_add_one,h1,h2,onP_app _ _ _ _ _ (by simp; omega)]
 rfl
theorem onP_min (es : List Shp) (P : List Int) (c : Int) : onP (es.take (min es.length P.length)) (P.take (min es.length P.length)) c = onP es P c := by
  induction es generalizing P with
  | nil => simp [onP]
  | cons s es ih =>
    cases P with
    | nil => simp [onP]
    | cons a P =>
      have := ih P
      simp only [List.length_cons, Nat.succ_min_succ, List.take_succ_cons, onP, this]
theorem onP_sub : ∀ (es : List Shp) (P : List Int) (c : Int), (onP es P c).Sublist es
  | [], _, _ => by simp [onP]
  | _ :: _, [], _ => by simp [onP]
  | s :: es, a :: P, c => by
    have := onP_sub es P c
    simp only [onP]
    split
    · exact this.cons_cons s
    · exact this.cons s
theorem onP_len (es: List Shp) (P: List Int) (c: Int): (onP es P c).length <= es.length:=(onP_sub es P c).length_le
theorem onP_none : ∀ {es : List Shp} {P : List Int} {c : Int}, (∀ x ∈ P, x ≠ c) -> onP es P c = []
  | [], _, _, _ => rfl
  | _ :: _, [], _, _ => rfl
  | s :: es, a :: P, c, h => by
    simp only [onP]
    rw [if_neg (h a (List.mem_cons_self ..))]
    exact onP_none (fun x hx => h x (List.mem_cons_of_mem _ hx))
theorem onP_all : ∀ {es : List Shp} {P : List Int} {c : Int}, P.length = es.length -> (∀ x ∈ P, x = c) -> onP es P c = es
  | [], _, _, _, _ => rfl
  | _ :: _, [], _, h, _ => by simp at h
  | s :: es, a :: P, c, h, hx => by
    simp only [onP]
    rw [if_pos (hx a (List.mem_cons_self ..)), onP_all (by simpa using h) (fun x hx' => hx x (List.mem_cons_of_mem _ hx'))]
theorem list_cut {α: Type} {l: List α} {i: Nat} {x: α} (h: l[i]? = some x): l = l.take i ++ x :: l.drop (i + 1):=by
 obtain ⟨hl,e⟩:=List.getElem?_eq_some_iff.mp h
 rw [<- e,<- List.drop_eq_getElem_cons hl,List.take_append_drop]
theorem onP_put {i: Nat} {s: Shp} {a: Int} (h1: es[i]? = some s) (h2: P[i]? = some a) (hne: a ≠ c): (onP es (P.set i c) c).Perm (onP es P c ++ [s]):=by
 have l1:=(List.getElem?_eq_some_iff.mp h1).1
 have l2:=(List.getElem?_eq_some_iff.mp h2).1
 have e3: (P.set i c) = P.take i ++ c :: P.drop (i + 1):=by rw [List.set_eq_take_append_cons_drop,if_pos l2]
 have e0: es = es.take i ++ s :: es.drop (i + 1):=list_cut h1
 have e2: P = P.take i ++ a :: P.drop (i + 1):=list_cut h2
 have hl: (es.take i).length = (P.take i).length:=by simp; omega
 have q1: onP es (P.set i c) c = onP (es.take i) (P.take i) c ++ s :: onP (es.drop (i + 1)) (P.drop (i + 1)) c:=by
  rw [e3]; conv => lhs; rw [e0]
  rw [onP_app _ _ _ _ _ hl]; simp [onP]
 have q2: onP es P c = onP (es.take i) (P.take i) c ++ onP (es.drop (i + 1)) (P.drop (i + 1)) c:=by
  conv => lhs; rw [e0,e2]
  rw [onP_app _ _ _ _ _ hl]; simp [onP,hne]
 rw [q1,q2,List.append_assoc]
 exact (List.Perm.append_left _ (List.perm_append_comm (l₁:=[s])))
theorem onP_keep {i: Nat} {a b: Int} (h2: P[i]? = some a) (hne: a ≠ c) (hb: b ≠ c): onP es (P.set i b) c = onP es P c:=by
 have l2:=(List.getElem?_eq_some_iff.mp h2).1
 by_cases l1: i < es.length
 ·obtain ⟨s,h1⟩: ∃ s,es[i]? = some s:=⟨_,List.getElem?_eq_getElem l1⟩
  have e3: (P.set i b) = P.take i ++ b :: P.drop (i + 1):=by rw [List.set_eq_take_append_cons_drop,if_pos l2]
  have e0: es = es.take i ++ s :: es.drop (i + 1):=list_cut h1
  have e2: P = P.take i ++ a :: P.drop (i + 1):=list_cut h2
  have hl: (es.take i).length = (P.take i).length:=by simp; omega
  have q1: onP es (P.set i b) c = onP (es.take i) (P.take i) c ++ onP (es.drop (i + 1)) (P.drop (i + 1)) c:=by
   rw [e3]; conv => lhs; rw [e0]
   rw [onP_app _ _ _ _ _ hl]; simp [onP,hb]
  have q2: onP es P c = onP (es.take i) (P.take i) c ++ onP (es.drop (i + 1)) (P.drop (i + 1)) c:=by
   conv => lhs; rw [e0,e2]
   rw [onP_app _ _ _ _ _ hl]; simp [onP,hne]
  rw [q1,q2]
 ·rw [<- onP_min,<- onP_min es P]
  rw [List.length_set]
  congr 1
  rw [List.take_set,List.set_eq_of_length_le]
  rw [List.length_take]; omega
theorem onP_drop {i: Nat} {s: Shp} {a: Int} (h1: es[i]? = some s) (h2: P[i]? = some a) (h: FitE (onP es P c)): FitE (onP (es.take i ++ es.drop (i + 1)) (P.take i ++ P.drop (i + 1)) c):=by
 have l1:=(List.getElem?_eq_some_iff.mp h1).1
 have l2:=(List.getElem?_eq_some_iff.mp h2).1
 have hl: (es.take i).length = (P.take i).length:=by simp; omega
 have q2: onP es P c = onP (es.take i) (P.take i) c ++ onP (s :: es.drop (i + 1)) (a :: P.drop (i + 1)) c:=by
  conv => lhs; rw [list_cut h1,list_cut h2]
  rw [onP_app _ _ _ _ _ hl]
 rw [q2] at h
 rw [onP_app _ _ _ _ _ hl]
 simp only [onP] at h
 split at h
 ·exact fit_cut h
 ·exact h
end
def fstP (p: Nat -> Prop) (n c: Nat): Prop:=c < n /\ p c /\ ∀ k,k < c -> ¬ p k
theorem fstP_one {p: Nat -> Prop} {n m c d: Nat} (h1: fstP p n c) (h2: fstP p m d): c = d:=by
 rcases Nat.lt_trichotomy c d with h | h | h
 ·exact absurd h1.2.1 (h2.2.2 c h)
 ·exact h
 ·exact absurd h2.2.1 (h1.2.2 d h)
def FitP (es: List Shp) (P: List Int) (i c: Nat): Prop:=∃ s,es[i]? = some s /\ FitE (onP es P (c: Int) ++ [s])
inductive Plc (es: List Shp) (m: Nat): List Nat -> List Int -> Option (List Int) -> Prop
 | done (P: List Int): Plc es m [] P (some P)
 | full {i: Nat} {o: List Nat} {P: List Int} (h: ∀ c,c < m -> ¬ FitP es P i c): Plc es m (i :: o) P none
 | next {i c: Nat} {o: List Nat} {P: List Int} {R: Option (List Int)} (h: fstP (FitP es P i) m c) (hr: Plc es m o (P.set i (c: Int)) R): Plc es m (i :: o) P R
theorem Plc.same {es : List Shp} {m : Nat} {o : List Nat} {P : List Int} {R : Option (List Int)} (h : Plc es m o P R) : ∀ {R' : Option (List Int)}, Plc es m o P R' -> R = R' := by
  induction h with
  | done P => intro R' h; cases h; rfl
  | full h =>
    intro R' h'
    cases h' with
    | full _ => rfl
    | next h2 _ => exact absurd h2.2.1 (h _ h2.1)
  | next h _ ih =>
    intro R' h'
    cases h' with
    | full h2 => exact absurd h.2.1 (h2 _ h.1)
    | next h2 hr =>
      obtain rfl := fstP_one h h2
      exact ih hr
theorem Plc.more {es: List Shp} {m: Nat} {o: List Nat} {P: List Int} {R: Option (List Int)} (h: Plc es m o P R): ∀ {F: List Int},R = some F -> Plc es (m + 1) o P (some F):=by
 induction h with
 | done P => intro F e; cases e; exact .done _
 | full h => intro F e; cases e
 | next h _ ih => intro F e; exact .next ⟨Nat.lt_succ_of_lt h.1,h.2⟩ (ih e)
theorem Plc.keep {es : List Shp} {m : Nat} {o : List Nat} {P : List Int} {R : Option (List Int)} (h : Plc es m o P R) : ∀ {F : List Int}, R = some F -> ∀ j, j ∉ o -> F[j]? = P[j]? := by
  induction h with
  | done P => intro F e j _; cases e; rfl
  | full h => intro F e; cases e
  | next h _ ih =>
    intro F e j hj
    rw [ih e j (fun q => hj (List.mem_cons_of_mem _ q)), List.getElem?_set_ne (fun q => hj (by rw [q]; exact List.mem_cons_self ..))]
structure OnOk (es: List Shp) (m: Nat) (o: List Nat) (P: List Int): Prop where
 len: P.length = es.length
 nd: o.Nodup
 lt: ∀ i ∈ o,i < es.length
 no: ∀ i ∈ o,P[i]? = some (-1)
 yes: ∀ i,i ∉ o -> ∀ a,P[i]? = some a -> 0 <= a /\ a < m
 fit: ∀ c: Nat,FitE (onP es P (c: Int))
section
variable {es: List Shp} {m: Nat} {P: List Int}
theorem OnOk.start (es: List Shp) (m: Nat) {o: List Nat} (h: o.Perm (List.range es.length)): OnOk es m o (List.replicate es.length (-1)):=by
 have hm: ∀ i,i ∈ o ↔ i < es.length:=fun i => by rw [h.mem_iff,List.mem_range]
 refine ⟨by simp,h.nodup_iff.mpr List.nodup_range,fun i hi => (hm i).mp hi,fun i hi => ?_,fun i hi a ha => ?_,fun c => ?_⟩
 ·rw [List.getElem?_replicate,if_pos ((hm i).mp hi)]
 ·have:=(List.getElem?_eq_some_iff.mp ha).1
  exact absurd ((hm i).mpr (by simpa using this)) hi
 ·rw [onP_none (fun x hx => by rw [(List.mem_replicate.mp hx).2]; omega)]
  exact fit_nil
theorem OnOk.next {i c: Nat} {o: List Nat} (h: OnOk es m (i :: o) P) (hf: FitP es P i c) (hc: c < m): OnOk es m o (P.set i (c: Int)):=by
 obtain ⟨hn1,hn2⟩:=List.nodup_cons.mp h.nd
 have h0:=h.no i (List.mem_cons_self ..)
 have hl:=(List.getElem?_eq_some_iff.mp h0).1
 refine ⟨by rw [List.length_set]; exact h.len,hn2,fun j hj => h.lt j (List.mem_cons_of_mem _ hj),fun j hj => ?_,fun j hj a ha => ?_,fun d => ?_⟩
 ·rw [List.getElem?_set_ne (fun (q: i = j) => hn1 (by rw [q]; exact hj))]
  exact h.no j (List.mem_cons_of_mem _ hj)
 ·by_cases e: i = j
  ·subst e
   rw [List.getElem?_set_self hl] at ha
   injection ha with ha
   omega
  ·rw [List.getElem?_set_ne e] at ha
   exact h.yes j (fun q => by rcases List.mem_cons.mp q with q | q; exact e q.symm; exact hj q) a ha
 ·obtain ⟨s,hs,hF⟩:=hf
  by_cases e: d = c
  ·subst e
   exact fit_perm hF (onP_put hs h0 (by omega)).symm
  ·rw [onP_keep h0 (by omega) (by omega)]
   exact h.fit d
structure RightP (es: List Shp) (P: List Int) (m: Int): Prop where
 may: 0 <= m /\ m <= 8
 len: P.length = es.length
 at_: ∀ a ∈ P,0 <= a /\ a < m
 fit: ∀ c: Int,0 <= c -> c < m -> FitE (onP es P c)
theorem Plc.right {o : List Nat} {R : Option (List Int)} (h : Plc es m o P R) (hm : m <= 8) : ∀ {F : List Int}, R = some F -> OnOk es m o P -> RightP es F m := by
  induction h with
  | done P =>
    intro F e ho
    cases e
    refine ⟨by omega, ho.len, fun a ha => ?_, fun c h0 _ => ?_⟩
    · obtain ⟨i, hi, e⟩ := List.mem_iff_getElem.mp ha
      exact ho.yes i (by simp) a (by rw [List.getElem?_eq_getElem hi, e])
    · have := ho.fit c.toNat
      rw [Int.toNat_of_nonneg h0] at this
      exact this
  | full h => intro F e; cases e
  | next h _ ih =>
    intro F e ho
    exact ih e (ho.next h.2.1 h.1)
theorem Plc.enough {o : List Nat} {R : Option (List Int)} (h : Plc es m o P R) (hM : ∀ s ∈ es, LightS s) : OnOk es m o P -> ∀ k : Nat, (∀ a ∈ P, a < k) -> k + o.length <= m -> R ≠ none := by
  induction h with
  | done P => intro _ _ _ _ e; cases e
  | @full i o P h =>
    intro ho k hk hl
    rw [List.length_cons] at hl
    have hi := ho.lt i (List.mem_cons_self ..)
    refine absurd ⟨es[i], List.getElem?_eq_getElem hi, ?_⟩ (h k (by omega))
    rw [onP_none (fun x hx => by have := hk x hx; omega)]
    exact fit_alone (hM _ (List.getElem_mem hi))
  | @next i c o P R h _ ih =>
    intro ho k hk hl
    rw [List.length_cons] at hl
    have hi := ho.lt i (List.mem_cons_self ..)
    have hck : c <= k := by
      apply Nat.le_of_not_lt
      intro hlt
      refine h.2.2 k hlt ⟨es[i], List.getElem?_eq_getElem hi, ?_⟩
      rw [onP_none (fun x hx => by have := hk x hx; omega)]
      exact fit_alone (hM _ (List.getElem_mem hi))
    refine ih (ho.next h.2.1 h.1) (k + 1) (fun a ha => ?_) (by omega)
    rcases List.mem_or_eq_of_mem_set ha with q | q
    · have := hk a q; omega
    · omega
theorem Plc.one {o : List Nat} {R : Option (List Int)} (h : Plc es 1 o P R) (hF : FitE es) : OnOk es 1 o P -> R ≠ none := by
  induction h with
  | done P => intro _ e; cases e
  | @full i o P h =>
    intro ho
    have hi := ho.lt i (List.mem_cons_self ..)
    refine absurd ⟨es[i], List.getElem?_eq_getElem hi, ?_⟩ (h 0 (by omega))
    have h0 := ho.no i (List.mem_cons_self ..)
    exact fit_perm (fit_sub hF (onP_sub es (P.set i ((0 : Nat) : Int)) _)) (onP_put (List.getElem?_eq_getElem hi) h0 (by omega))
  | next h _ ih => intro ho; exact ih (ho.next h.2.1 h.1)
theorem RightP.one (h: RightP es P 1): FitE es:=by
 have:=h.fit 0 (by omega) (by omega)
 rw [onP_all h.len (fun x hx => by have:=h.at_ x hx; omega)] at this
 exact this
theorem RightP.more {m: Int} (h: RightP es P m) (hm: m < 8): RightP es P (m + 1):=by
 refine ⟨by have:=h.may; omega,h.len,fun a ha => by have:=h.at_ a ha; omega,fun c h0 hc => ?_⟩
 by_cases e: c = m
 ·subst e
  rw [onP_none (fun x hx => by have:=h.at_ x hx; omega)]
  exact fit_nil
 ·exact h.fit c h0 (by omega)
theorem RightP.less {m: Int} (h: RightP es P m) {i: Nat} (hi: i < es.length): RightP (es.take i ++ es.drop (i + 1)) (P.take i ++ P.drop (i + 1)) m:=by
 have hl:=h.len
 refine ⟨h.may,by simp; omega,fun a ha => ?_,fun c h0 hc => onP_drop (List.getElem?_eq_getElem hi) (List.getElem?_eq_getElem (by omega)) (h.fit c h0 hc)⟩
 rcases List.mem_append.mp ha with q | q
 ·exact h.at_ a (List.mem_of_mem_take q)
 ·exact h.at_ a (List.mem_of_mem_drop q)
end
def fstX: List Int -> Int
 | [] => 0
 | x :: l => if x = 0 then fstX l else x
theorem fstX_app (x : Int) : ∀ l : List Int, fstX l = 0 -> fstX (l ++ [x]) = x
  | [], _ => by
    show (if x = 0 then 0 else x) = x
    split <;> omega
  | y :: l, h => by
    by_cases hy : y = 0
    · subst hy
      have h1 : fstX (0 :: l) = fstX l := if_pos rfl
      rw [h1] at h
      have h2 : fstX ((0 :: l) ++ [x]) = fstX (l ++ [x]) := if_pos rfl
      rw [h2]
      exact fstX_app x l h
    · have h1 : fstX (y :: l) = y := if_neg hy
      rw [h1] at h
      exact absurd h hy
theorem fstX_stay {x : Int} (hx : x ≠ 0) : ∀ (l r : List Int), fstX l = 0 -> fstX (l ++ x :: r) = x
  | [], r, _ => if_neg hx
  | y :: l, r, h => by
    by_cases hy : y = 0
    · subst hy
      have h1 : fstX (0 :: l) = fstX l := if_pos rfl
      rw [h1] at h
      have h2 : fstX ((0 :: l) ++ x :: r) = fstX (l ++ x :: r) := if_pos rfl
      rw [h2]
      exact fstX_stay hx l r h
    · have h1 : fstX (y :: l) = y := if_neg hy
      rw [h1] at h
      exact absurd h hy
theorem fstX_zero : ∀ {l : List Int}, fstX l = 0 ↔ ∀ x ∈ l, x = 0
  | [] => by simp [fstX]
  | y :: l => by
    by_cases hy : y = 0
    · subst hy
      have h1 : fstX (0 :: l) = fstX l := if_pos rfl
      rw [h1, fstX_zero]
      simp
    · have h1 : fstX (y :: l) = y := if_neg hy
      rw [h1]
      constructor
      · intro h; exact absurd h hy
      · intro h; exact absurd (h y (by simp)) hy
theorem fstX_next {l: List Int} {k: Nat} {x: Int} (h: fstX (l.take k) = 0) (hx: l[k]? = some x): (x = 0 -> fstX (l.take (k + 1)) = 0) /\ (x ≠ 0 -> fstX l = x):=by
 constructor
 ·intro h0
  rw [List.take_add_one,hx]
  exact (fstX_app x _ h).trans h0
 ·intro h0
  rw [list_cut hx]
  exact fstX_stay h0 _ _ h
def coresOf (S: List Shp): List Int:=S.map coresS
def usedP: List Shp -> Int
 | [] => 0
 | s :: S => (if heavyS s = true then coresS s else 0) + usedP S
def lightP (S: List Shp): List Shp:=S.filter fun s => !heavyS s
def upto (a: Int) (n: Nat): List Int:=(List.range n).map fun (k: Nat) => a + (k: Int)
theorem upto_len (a: Int) (n: Nat): (upto a n).length = n:=by simp [upto]
theorem upto_at {a: Int} {n k: Nat} (h: k < n): (upto a n)[k]? = some (a + (k: Int)):=by simp [upto,h]
theorem upto_succ (a: Int) (n: Nat): upto a (n + 1) = upto a n ++ [a + (n: Int)]:=by simp [upto,List.range_succ]
theorem upto_cons (a: Int) (n: Nat): upto a (n + 1) = a :: upto (a + 1) n:=by
 simp only [upto,List.range_succ_eq_map,List.map_cons,List.map_map]
 congr 1
 ·omega
 ·apply List.map_congr_left
  intro k _
  simp
  omega
theorem upto_mem {a x: Int} {n: Nat}: x ∈ upto a n ↔ a <= x /\ x < a + n:=by
 simp only [upto,List.mem_map,List.mem_range]
 constructor
 ·rintro ⟨k,hk,rfl⟩; omega
 ·rintro ⟨h1,h2⟩; exact ⟨(x - a).toNat,by omega,by omega⟩
theorem upto_take (a: Int) (n k: Nat) (h: k <= n): (upto a n).take k = upto a k:=by
 simp only [upto,<- List.map_take,List.take_range]
 rw [Nat.min_eq_left h]
theorem upto_drop (a : Int) : ∀ (n k : Nat), (upto a n).drop k = upto (a + k) (n - k)
  | n, 0 => by simp
  | 0, k + 1 => by simp [upto]
  | n + 1, k + 1 => by
    rw [upto_cons, List.drop_succ_cons, upto_drop (a + 1) n k, Nat.add_sub_add_right]
    congr 1
    omega
def atP (u: Int): Int -> List Shp -> List Int -> List (List Int)
 | _,[],_ => []
 | nx,s :: S,L => if heavyS s = true then upto nx (coresS s).toNat :: atP u (nx + coresS s) S L else [u + L.headD 0] :: atP u nx S L.tail
def atH: Int -> List Shp -> List (List Int)
 | _,[] => []
 | nx,s :: S => if heavyS s = true then upto nx (coresS s).toNat :: atH (nx + coresS s) S else [] :: atH nx S
theorem atP_len (u : Int) : ∀ (S : List Shp) (nx : Int) (L : List Int), (atP u nx S L).length = S.length
  | [], _, _ => rfl
  | s :: S, nx, L => by
    unfold atP
    split <;> simp [atP_len u S]
theorem atH_len : ∀ (S : List Shp) (nx : Int), (atH nx S).length = S.length
  | [], _ => rfl
  | s :: S, nx => by
    unfold atH
    split <;> simp [atH_len S]
theorem usedP_app (A B: List Shp): usedP (A ++ B) = usedP A + usedP B:=by
 induction A with
 | nil => simp [usedP]
 | cons s A ih => simp only [List.cons_append,usedP,ih]; omega
theorem lightP_app (A B: List Shp): lightP (A ++ B) = lightP A ++ lightP B:=by simp [lightP]
theorem atH_app (A B : List Shp) (nx : Int) : atH nx (A ++ B) = atH nx A ++ atH (nx + usedP A) B := by
  induction A generalizing nx with
  | nil => simp [atH, usedP]
  | cons s A ih =>
    simp only [List.cons_append, atH, usedP]
    split
    · rw [ih, List.cons_append, Int.add_assoc]
    · rw [ih, List.cons_append, Int.zero_add]
theorem lightP_cons (s: Shp) (S: List Shp): lightP (s :: S) = if heavyS s = true then lightP S else s :: lightP S:=by
 simp only [lightP,List.filter_cons]
 cases heavyS s <;> simp
theorem atP_app (u : Int) (A B : List Shp) (nx : Int) (L : List Int) : atP u nx (A ++ B) L = atP u nx A L ++ atP u (nx + usedP A) B (L.drop (lightP A).length) := by
  induction A generalizing nx L with
  | nil => simp [atP, usedP, lightP]
  | cons s A ih =>
    rw [lightP_cons]
    simp only [List.cons_append, atP, usedP]
    split
    · rw [ih, List.cons_append, Int.add_assoc]
    · rw [ih, List.cons_append, Int.zero_add, List.length_cons, List.drop_tail]
theorem coresS_pos {s: Shp} (h: faultS s = 0): 1 <= coresS s /\ coresS s <= 8 /\ s.Ok /\ (heavyS s = false -> coresS s = 1 /\ LightS s) /\ (heavyS s = true -> s.l < s.d /\ coresS s = manyS s /\ s.d < s.t):=by
 have hO: s.Ok:=by
  by_cases q: s.Ok
  ·exact q
  ·unfold faultS at h; rw [if_pos q] at h; cases h
 unfold faultS at h
 unfold coresS
 rw [if_neg (not_not_intro hO)] at h ⊢
 by_cases hd: s.d < s.t
 ·rw [if_pos hd] at h ⊢
  have hh: heavyS s = true:=decide_eq_true ⟨hO,hd⟩
  unfold faultH at h
  unfold coresH
  by_cases hl: s.d <= s.l
  ·rw [if_pos hl] at h; cases h
  ·rw [if_neg hl] at h ⊢
   by_cases h8: 8 < manyS s
   ·rw [if_pos h8] at h; cases h
   ·rw [if_neg h8]
    have:=many_spec hO hd (by omega)
    exact ⟨by omega,by omega,hO,fun (q: heavyS s = false) => (by rw [hh] at q; cases q),fun _ => ⟨by omega,rfl,hd⟩⟩
 ·rw [if_neg hd]
  have hh: heavyS s = false:=decide_eq_false fun q => hd q.2
  exact ⟨by omega,by omega,hO,fun _ => ⟨rfl,hO,by omega⟩,fun (q: heavyS s = true) => (by rw [hh] at q; cases q)⟩
theorem usedP_pos : ∀ {S : List Shp}, (∀ s ∈ S, faultS s = 0) -> 0 <= usedP S
  | [], _ => Int.le_refl _
  | s :: S, h => by
    have h1 := usedP_pos (S := S) fun x hx => h x (List.mem_cons_of_mem _ hx)
    have h2 := coresS_pos (h s (List.mem_cons_self ..))
    simp only [usedP]
    split <;> omega
theorem lightP_mem {S: List Shp} (h: ∀ s ∈ S,faultS s = 0): ∀ s ∈ lightP S,LightS s:=fun s hs => by
 obtain ⟨h1,h2⟩:=List.mem_filter.mp hs
 refine ((coresS_pos (h s h1)).2.2.2.1 ?_).2
 cases hh: heavyS s
 ·rfl
 ·rw [hh] at h2; cases h2
theorem lightP_le (S: List Shp): (lightP S).length <= S.length:=List.length_filter_le ..
theorem lightP_may {S: List Shp} (h8: S.length <= 8) (h: ∀ s ∈ S,faultS s = 0): MayE (lightP S):=⟨by have:=lightP_le S; omega,lightP_mem h⟩
def Rise (m: Int): Int -> List Int -> Prop
 | _,[] => True
 | b,x :: l => b <= x /\ x < m /\ Rise m (x + 1) l
theorem Rise.upto {m : Int} : ∀ {n : Nat} {b a : Int}, b <= a -> a + n <= m -> Rise m b (upto a n)
  | 0, _, _, _, _ => trivial
  | n + 1, b, a, h1, h2 => by
    rw [upto_cons]
    exact ⟨h1, by omega, Rise.upto (Int.le_refl _) (by omega)⟩
theorem Rise.mem {m : Int} : ∀ {l : List Int} {b : Int}, Rise m b l -> ∀ x ∈ l, b <= x /\ x < m
  | [], _, _, x, hx => by cases hx
  | y :: l, b, ⟨h1, h2, h3⟩, x, hx => by
    rcases List.mem_cons.mp hx with rfl | hx
    · exact ⟨h1, h2⟩
    · have := Rise.mem h3 x hx; omega
theorem Rise.pairs {m : Int} : ∀ {l : List Int} {b : Int}, Rise m b l ↔ (∀ (k : Nat) x, l[k]? = some x -> b <= x /\ x < m) /\ ∀ (k : Nat) x y, l[k]? = some x -> l[k + 1]? = some y -> x < y
  | [], b => by simp [Rise]
  | z :: l, b => by
    simp only [Rise]
    rw [Rise.pairs (l := l) (b := z + 1)]
    constructor
    · rintro ⟨h1, h2, h3, h4⟩
      refine ⟨fun k x hk => ?_, fun k x y hk hk2 => ?_⟩
      · cases k with
        | zero => obtain rfl : z = x := by simpa using hk
                  exact ⟨h1, h2⟩
        | succ k => have := h3 k x (by simpa using hk); omega
      · cases k with
        | zero =>
          obtain rfl : z = x := by simpa using hk
          have := h3 0 y (by simpa using hk2)
          omega
        | succ k => exact h4 k x y (by simpa using hk) (by simpa using hk2)
    · rintro ⟨h1, h2⟩
      have h0 := h1 0 z (by simp)
      refine ⟨h0.1, h0.2, fun k x hk => ?_, fun k x y hk hk2 => h2 (k + 1) x y (by simpa using hk) (by simpa using hk2)⟩
      have h3 := h1 (k + 1) x (by simpa using hk)
      refine ⟨?_, h3.2⟩
      clear h3
      induction k generalizing x with
      | zero => have := h2 0 z x (by simp) (by simpa using hk); omega
      | succ k ih =>
        have hl : k < l.length := by have := (List.getElem?_eq_some_iff.mp hk).1; omega
        have := ih l[k] (List.getElem?_eq_getElem hl)
        have := h2 (k + 1) l[k] x (by simp) (by simpa using hk)
        omega
def cntH: List Shp -> List (List Int) -> Int -> Nat
 | s :: S,c :: C,k => (if heavyS s = true /\ k ∈ c then 1 else 0) + cntH S C k
 | [],_,_ => 0
 | _ :: _,[],_ => 0
def onL: List Shp -> List (List Int) -> Int -> List Shp
 | s :: S,c :: C,k => if LightS s /\ k ∈ c then s :: onL S C k else onL S C k
 | [],_,_ => []
 | _ :: _,[],_ => []
def EnoughQ (S: List Shp) (C: List (List Int)) (k: Int): Prop:=cntH S C k <= 1 /\ (cntH S C k = 1 -> onL S C k = []) /\ FitE (onL S C k)
def SuitQ (m: Int) (s: Shp) (c: List Int): Prop:=faultS s = 0 /\ (c.length: Int) = coresS s /\ Rise m 0 c
structure RightQ (S: List Shp) (C: List (List Int)) (m: Int): Prop where
 may: 1 <= m /\ m <= 8
 few: S.length <= 8
 len: C.length = S.length
 suit: ∀ (i: Nat) s c,S[i]? = some s -> C[i]? = some c -> SuitQ m s c
 enough: ∀ k,0 <= k -> k < m -> EnoughQ S C k
theorem cntH_app : ∀ (A B : List Shp) (X Y : List (List Int)) (k : Int), A.length = X.length -> cntH (A ++ B) (X ++ Y) k = cntH A X k + cntH B Y k
  | [], B, [], Y, k, _ => by simp [cntH]
  | s :: A, B, x :: X, Y, k, h => by
    have := cntH_app A B X Y k (by simpa using h)
    simp only [List.cons_append, cntH, this]
    omega
  | [], _, _ :: _, _, _, h => by simp at h
  | _ :: _, _, [], _, _, h => by simp at h
theorem onL_app : ∀ (A B : List Shp) (X Y : List (List Int)) (k : Int), A.length = X.length -> onL (A ++ B) (X ++ Y) k = onL A X k ++ onL B Y k
  | [], B, [], Y, k, _ => by simp [onL]
  | s :: A, B, x :: X, Y, k, h => by
    have := onL_app A B X Y k (by simpa using h)
    simp only [List.cons_append, onL, this]
    split <;> rfl
  | [], _, _ :: _, _, _, h => by simp at h
  | _ :: _, _, [], _, _, h => by simp at h
theorem take_one {α: Type} {l: List α} {i: Nat} {x: α} (h: l[i]? = some x): l.take (i + 1) = l.take i ++ [x]:=by rw [List.take_add_one,h]; rfl
theorem cntH_snoc {S: List Shp} {C: List (List Int)} {j: Nat} {s: Shp} {c: List Int} {k: Int} (h1: S[j]? = some s) (h2: C[j]? = some c): cntH (S.take (j + 1)) (C.take (j + 1)) k = cntH (S.take j) (C.take j) k + if heavyS s = true /\ k ∈ c then 1 else 0:=by
 have l1:=(List.getElem?_eq_some_iff.mp h1).1
 have l2:=(List.getElem?_eq_some_iff.mp h2).1
 rw [take_one h1,take_one h2,cntH_app _ _ _ _ _ (by simp; omega)]
 simp [cntH]
theorem onL_snoc {S: List Shp} {C: List (List Int)} {j: Nat} {s: Shp} {c: List Int} {k: Int} (h1: S[j]? = some s) (h2: C[j]? = some c): onL (S.take (j + 1)) (C.take (j + 1)) k = onL (S.take j) (C.take j) k ++ if LightS s /\ k ∈ c then [s] else []:=by
 have l1:=(List.getElem?_eq_some_iff.mp h1).1
 have l2:=(List.getElem?_eq_some_iff.mp h2).1
 rw [take_one h1,take_one h2,onL_app _ _ _ _ _ (by simp; omega)]
 simp [onL]
theorem pair_min {α β γ: Type} {f: List α -> List β -> Int -> γ} (S: List α) (C: List β) (k: Int) (h: ∀ A X B,A.length = X.length -> f (A ++ B) X k = f A X k) (h2: ∀ A X Y,A.length = X.length -> f A (X ++ Y) k = f A X k): f (S.take (min S.length C.length)) (C.take (min S.length C.length)) k = f S C k:=by
 rcases Nat.le_total S.length C.length with q | q
 ·rw [Nat.min_eq_left q,List.take_length]
  conv => rhs; rw [<- List.take_append_drop S.length C]
  exact (h2 _ _ _ (by simp; omega)).symm
 ·rw [Nat.min_eq_right q,List.take_length]
  conv => rhs; rw [<- List.take_append_drop C.length S]
  exact (h _ _ _ (by simp; omega)).symm
theorem cntH_min (S: List Shp) (C: List (List Int)) (k: Int): cntH (S.take (min S.length C.length)) (C.take (min S.length C.length)) k = cntH S C k:=by
 refine pair_min (f:=cntH) S C k (fun A X B h => ?_) (fun A X Y h => ?_)
 ·have:=cntH_app A B X [] k h
  rw [List.append_nil] at this
  rw [this]
  cases B <;> simp [cntH]
 ·have:=cntH_app A [] X Y k h
  rw [List.append_nil] at this
  rw [this]
  simp [cntH]
theorem onL_min (S: List Shp) (C: List (List Int)) (k: Int): onL (S.take (min S.length C.length)) (C.take (min S.length C.length)) k = onL S C k:=by
 refine pair_min (f:=onL) S C k (fun A X B h => ?_) (fun A X Y h => ?_)
 ·have:=onL_app A B X [] k h
  rw [List.append_nil] at this
  rw [this]
  cases B <;> simp [onL]
 ·have:=onL_app A [] X Y k h
  rw [List.append_nil] at this
  rw [this]
  simp [onL]
def ownT (C: List (List Int)) (k: Int) (j: Nat): List Nat:=(List.range j).filter fun i => decide (k ∈ C.getD i [])
theorem ownT_succ {C: List (List Int)} {k: Int} {j: Nat} {c: List Int} (h: C[j]? = some c): ownT C k (j + 1) = ownT C k j ++ if k ∈ c then [j] else []:=by
 unfold ownT
 rw [List.range_succ,List.filter_append]
 congr 1
 have: C.getD j [] = c:=by simp [h]
 simp only [List.filter_cons,List.filter_nil,this]
 by_cases q: k ∈ c <;> simp [q]
theorem ownT_lt {C: List (List Int)} {k: Int} {j i: Nat} (h: i ∈ ownT C k j): i < j:=List.mem_range.mp (List.mem_filter.mp h).1
theorem ownT_len (C: List (List Int)) (k: Int) (j: Nat): (ownT C k j).length <= j:=by
 have:=List.length_filter_le (fun i => decide (k ∈ C.getD i [])) (List.range j)
 rw [List.length_range] at this
 exact this
def hvT (S: List Shp) (i: Nat): Bool:=match S[i]? with | some s => heavyS s | none => false
def ltT (S: List Shp) (i: Nat): Bool:=match S[i]? with | some s => decide (LightS s) | none => false
theorem hvT_at {S: List Shp} {i: Nat} {s: Shp} (h: S[i]? = some s): hvT S i = heavyS s:=by unfold hvT; rw [h]
theorem ltT_at {S: List Shp} {i: Nat} {s: Shp} (h: S[i]? = some s): ltT S i = decide (LightS s):=by unfold ltT; rw [h]
def owns (S: List Shp) (C: List (List Int)) (k: Int): List Nat:=ownT C k (min S.length C.length)
def firstH (S: List Shp) (l: List Nat): Int:=match l.find? (hvT S) with | some i => (i: Int) | none => -1
def heavyQ (S: List Shp) (C: List (List Int)) (k: Int): Int:=firstH S (owns S C k)
def lightQ (S: List Shp) (C: List (List Int)) (k: Int): List Nat:=(owns S C k).filter (ltT S)
def shpsL (S: List Shp) (l: List Nat): List Shp:=l.filterMap fun i => S[i]?
theorem count_is (S : List Shp) (C : List (List Int)) (k : Int) : ∀ j : Nat, j <= S.length -> j <= C.length -> ((ownT C k j).filter (hvT S)).length = cntH (S.take j) (C.take j) k
  | 0, _, _ => by simp [ownT, cntH]
  | j + 1, h1, h2 => by
    have ih := count_is S C k j (by omega) (by omega)
    have e1 : S[j]? = some S[j] := List.getElem?_eq_getElem (by omega)
    have e2 : C[j]? = some C[j] := List.getElem?_eq_getElem (by omega)
    rw [ownT_succ e2, cntH_snoc e1 e2, List.filter_append, List.length_append, ih]
    congr 1
    by_cases q : k ∈ C[j]
    · rw [if_pos q]
      cases hh : heavyS S[j] <;> simp [List.filter_cons, hvT_at e1, hh, q]
    · rw [if_neg q, if_neg (fun z => q z.2)]
      rfl
theorem light_is (S : List Shp) (C : List (List Int)) (k : Int) : ∀ j : Nat, j <= S.length -> j <= C.length -> shpsL S ((ownT C k j).filter (ltT S)) = onL (S.take j) (C.take j) k
  | 0, _, _ => by simp [ownT, onL, shpsL]
  | j + 1, h1, h2 => by
    have ih := light_is S C k j (by omega) (by omega)
    have e1 : S[j]? = some S[j] := List.getElem?_eq_getElem (by omega)
    have e2 : C[j]? = some C[j] := List.getElem?_eq_getElem (by omega)
    rw [ownT_succ e2, onL_snoc e1 e2, List.filter_append]
    unfold shpsL at ih ⊢
    rw [List.filterMap_append, ih]
    congr 1
    by_cases q : k ∈ C[j]
    · rw [if_pos q]
      by_cases hh : LightS S[j] <;> simp [List.filter_cons, ltT_at e1, hh, q, List.filterMap_cons, e1]
    · rw [if_neg q, if_neg (fun z => q z.2)]
      rfl
theorem light_len (S : List Shp) (C : List (List Int)) (k : Int) (j : Nat) (h : j <= S.length) : (shpsL S ((ownT C k j).filter (ltT S))).length = ((ownT C k j).filter (ltT S)).length := by
  unfold shpsL
  refine Eq.trans (b := (((ownT C k j).filter (ltT S)).map fun i => i).length) ?_ (by simp)
  have : ∀ l : List Nat, (∀ i ∈ l, i < S.length) -> (l.filterMap fun i => S[i]?).length = (l.map fun i => i).length := by
    intro l
    induction l with
    | nil => intro _; rfl
    | cons i l ih =>
      intro hl
      rw [List.filterMap_cons, List.getElem?_eq_getElem (hl i (by simp))]
      simp [ih fun x hx => hl x (List.mem_cons_of_mem _ hx)]
  exact this _ fun i hi => by have := ownT_lt (List.mem_filter.mp hi).1; omega
theorem firstH_none {S : List Shp} {l : List Nat} : firstH S l = -1 ↔ (l.filter (hvT S)).length = 0 := by
  unfold firstH
  cases h : l.find? (hvT S) with
  | none =>
    have := List.find?_eq_none.mp h
    have e : l.filter (hvT S) = [] := List.filter_eq_nil_iff.mpr this
    simp [e]
  | some i =>
    have h1 := List.mem_of_find?_eq_some h
    have h2 := List.find?_some h
    have h3 : i ∈ l.filter (hvT S) := List.mem_filter.mpr ⟨h1, h2⟩
    have := List.length_pos_of_mem h3
    constructor
    · intro q
      have q : (i : Int) = -1 := q
      omega
    · intro q; omega
theorem own_count (S : List Shp) (C : List (List Int)) (k : Int) (hS : ∀ s ∈ S, s.Ok) : (owns S C k).length = cntH S C k + (onL S C k).length := by
  have h1 := count_is S C k (min S.length C.length) (Nat.min_le_left ..) (Nat.min_le_right ..)
  have h2 := light_is S C k (min S.length C.length) (Nat.min_le_left ..) (Nat.min_le_right ..)
  rw [cntH_min] at h1
  rw [onL_min] at h2
  rw [<- h1, <- h2, light_len _ _ _ _ (Nat.min_le_left ..)]
  have hlt : ∀ i ∈ owns S C k, i < S.length := fun i hi => by have := ownT_lt hi; omega
  unfold owns at hlt ⊢
  generalize ownT C k (min S.length C.length) = l at hlt
  clear h1 h2
  induction l with
  | nil => rfl
  | cons i l ih =>
    have hi := hlt i (by simp)
    have ih := ih fun x hx => hlt x (List.mem_cons_of_mem _ hx)
    have e1 : S[i]? = some S[i] := List.getElem?_eq_getElem hi
    have hO := hS _ (List.getElem_mem hi)
    simp only [List.filter_cons, hvT_at e1, ltT_at e1]
    by_cases hd : S[i].d < S[i].t
    · have a1 : heavyS S[i] = true := decide_eq_true ⟨hO, hd⟩
      have a2 : decide (LightS S[i]) = false := decide_eq_false fun q => by have := q.2; omega
      simp only [a1, a2, if_true, List.length_cons, ih, Bool.false_eq_true, if_false]
      omega
    · have a1 : heavyS S[i] = false := decide_eq_false fun q => hd q.2
      have a2 : decide (LightS S[i]) = true := decide_eq_true ⟨hO, by omega⟩
      simp only [a1, a2, if_true, List.length_cons, ih, Bool.false_eq_true, if_false]
      omega
theorem enough_iff {S: List Shp} {C: List (List Int)} {k: Int} (hS: ∀ s ∈ S,s.Ok): EnoughQ S C k ↔ (heavyQ S C k ≠ -1 /\ (owns S C k).length = 1) \/ (heavyQ S C k = -1 /\ FitE (shpsL S (lightQ S C k))):=by
 have h0:=own_count S C k hS
 have h1:=count_is S C k (min S.length C.length) (Nat.min_le_left ..) (Nat.min_le_right ..)
 have h2:=light_is S C k (min S.length C.length) (Nat.min_le_left ..) (Nat.min_le_right ..)
 rw [cntH_min] at h1
 rw [onL_min] at h2
 have h3: heavyQ S C k = -1 ↔ cntH S C k = 0:=by
  unfold heavyQ
  rw [firstH_none,<- h1]
  rfl
 have h4: shpsL S (lightQ S C k) = onL S C k:=h2
 rw [h4]
 unfold EnoughQ
 constructor
 ·rintro ⟨a,b,c⟩
  by_cases q: cntH S C k = 0
  ·exact .inr ⟨h3.mpr q,c⟩
  ·refine .inl ⟨fun z => q (h3.mp z),?_⟩
   have: cntH S C k = 1:=by omega
   rw [h0,b this,this]
   rfl
 ·rintro (⟨a,b⟩ | ⟨a,b⟩)
  ·have q: cntH S C k ≠ 0:=fun z => a (h3.mpr z)
   rw [h0] at b
   have e: (onL S C k).length = 0:=by omega
   have e2: onL S C k = []:=List.eq_nil_of_length_eq_zero e
   refine ⟨by omega,fun _ => e2,?_⟩
   rw [e2]
   exact fit_nil
  ·have q:=h3.mp a
   exact ⟨by omega,fun z => by omega,b⟩
end Go.Proofs.YtlfekmbalgkmeaaGreatDoor
namespace Go.Proofs.YtlfekmbalgkmeaaGreatDoor
open Go.RowKit
def RowV (g: Nat) (t: TypeId) (vs: List Value) (w: World): Prop:=w.heap[g]? = some (.cells vs.toArray t (0,0))
theorem RowV.lt {g: Nat} {t: TypeId} {vs: List Value} {w: World} (h: RowV g t vs w): g < w.heap.size:=(Array.getElem?_eq_some_iff.1 h).1
theorem RowV.new (w: World) (t: TypeId) (vs: List Value): RowV w.heap.size t vs (w.alloc (.cells vs.toArray t)):=heap_alloc_new w _
theorem RowV.cell {g: Nat} {t: TypeId} {vs: List Value} {w: World} (h: RowV g t vs w) {j: Nat} {v: Value} (hj: vs[j]? = some v): w.cell? ⟨g,j,none⟩ = some v:=by
 rw [cell_of_row _ _ _ _ _ _ h]
 simpa using hj
theorem RowV.frozen {g: Nat} {t: TypeId} {vs: List Value} {w: World} (h: RowV g t vs w) (j: Nat): w.frozen? ⟨g,j,none⟩ = false:=frozen_of_row _ _ _ _ _ h
theorem RowV.set {g: Nat} {t: TypeId} {vs: List Value} {w: World} (h: RowV g t vs w) (j: Nat) (v: Value): RowV g t (vs.set j v) (w.setCell ⟨g,j,none⟩ v):=by
 have:=heap_setCell_same w g j _ t v h
 unfold RowV
 rw [this]
 simp
theorem RowV.below {g: Nat} {t: TypeId} {vs: List Value} {w w': World} {B: Nat} (h: RowV g t vs w) (hb: Below B w w') (hB: g < B): RowV g t vs w':=by
 unfold RowV
 rw [hb.block g hB]
 exact h
theorem RowV.alloc {g: Nat} {t: TypeId} {vs: List Value} {w: World} (h: RowV g t vs w) (o: Obj): RowV g t vs (w.alloc o):=by
 unfold RowV
 rw [Below.heap_alloc w o g h.lt]
 exact h
end Go.Proofs.YtlfekmbalgkmeaaGreatDoor
