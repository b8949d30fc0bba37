/- Plain: the futures of one part, in the order of their places: what a sort of them comes to, in the seat YtpckmhmabmmllaaDoor.
   What a sort in place leaves of a list of the call's own; cmp.Compare and the closure of desc.Touches, in the seat YtpckmhmabmmllaaDoor.
   slices.SortFunc over the places of a part's futures, in the seat YtpckmhmabmmllaaDoor: its contract.
   No statement is proved here. -/
import Derived.Test.YtpckmhmabmmllaaDoorZM8
import Derived.Test.YtpckmhmabmmllaaDoorZM10
import Derived.Shelf.SlSortCmp.Insertion
import Derived.Test.YtpckmhmabmmllaaDoorZShelf
set_option linter.unusedVariables false
namespace Go.Proofs.YtpckmhmabmmllaaDoor
open Go.RowKit

theorem sorted_ext {f : Nat → Int} : ∀ {l1 l2 : List Nat}, (l1.Pairwise fun i j => f i < f j) → (l2.Pairwise fun i j => f i < f j) → (∀ x, x ∈ l1 ↔ x ∈ l2) → l1 = l2
  | [], [], _, _, _ => rfl
  | [], b :: l2, _, _, h => absurd ((h b).mpr (List.mem_cons_self ..)) (by simp)
  | a :: l1, [], _, _, h => absurd ((h a).mp (List.mem_cons_self ..)) (by simp)
  | a :: l1, b :: l2, h1, h2, h => by
    rw [List.pairwise_cons] at h1 h2
    have e : a = b := by
      have ha := (h a).mp (List.mem_cons_self ..)
      have hb := (h b).mpr (List.mem_cons_self ..)
      rcases List.mem_cons.mp ha with ha | ha
      · exact ha
      · rcases List.mem_cons.mp hb with hb | hb
        · exact hb.symm
        · have := h1.1 b hb
          have := h2.1 a ha
          omega
    subst e
    rw [sorted_ext h1.2 h2.2 fun x => ?_]
    have hx := h x
    constructor
    · intro k
      rcases List.mem_cons.mp (hx.mp (List.mem_cons_of_mem _ k)) with e | k'
      · subst e
        have := h1.1 x k
        omega
      · exact k'
    · intro k
      rcases List.mem_cons.mp (hx.mpr (List.mem_cons_of_mem _ k)) with e | k'
      · subst e
        have := h2.1 x k
        omega
      · exact k'
/-- Of the first k futures those of user x. -/
def ownF (fs : List (Int × Int × Int)) (x : Int) (k : Nat) : List Nat := (List.range k).filter fun j => decide ((futAt fs j).2.1 = x)
theorem mem_ownF {fs : List (Int × Int × Int)} {x : Int} {k j : Nat} : j ∈ ownF fs x k ↔ j < k ∧ (futAt fs j).2.1 = x := by
  unfold ownF
  rw [List.mem_filter, List.mem_range, decide_eq_true_iff]
theorem ownF_step {fs : List (Int × Int × Int)} {x : Int} {k : Nat} {f : Int × Int × Int} (hf : fs[k]? = some f) : ownF fs x (k + 1) = if f.2.1 = x then ownF fs x k ++ [k] else ownF fs x k := by
  have e : futAt fs k = f := by unfold futAt; rw [List.getD_eq_getElem?_getD, hf]; rfl
  unfold ownF
  rw [List.range_succ, List.filter_append]
  by_cases h : f.2.1 = x
  · rw [if_pos h]
    simp [List.filter, e, h]
  · rw [if_neg h]
    simp [List.filter, e, h]
theorem ownF_nodup (fs : List (Int × Int × Int)) (x : Int) (k : Nat) : (ownF fs x k).Nodup := List.Nodup.sublist (List.filter_sublist) List.nodup_range
theorem ownF_len (fs : List (Int × Int × Int)) (x : Int) (k : Nat) : (ownF fs x k).length ≤ k := by
  have := List.length_filter_le (fun j => decide ((futAt fs j).2.1 = x)) (List.range k)
  rw [List.length_range] at this
  exact this
theorem fut_inj {fs : List (Int × Int × Int)} (hn : (fs.map fun f => f.2).Nodup) {i j : Nat} (hi : i < fs.length) (hj : j < fs.length) (e : (futAt fs i).2 = (futAt fs j).2) : i = j := by
  unfold futAt at e
  rw [List.getD_eq_getElem?_getD, List.getElem?_eq_getElem hi, List.getD_eq_getElem?_getD, List.getElem?_eq_getElem hj] at e
  have h4 : i < (fs.map fun f => f.2).length := by simpa using hi
  have h5 : j < (fs.map fun f => f.2).length := by simpa using hj
  refine (List.getElem_inj (h₀ := h4) (h₁ := h5) hn).mp ?_
  simpa using e
theorem futAt_mem {fs : List (Int × Int × Int)} {j : Nat} (hj : j < fs.length) : futAt fs j ∈ fs := by
  unfold futAt
  rw [List.getD_eq_getElem?_getD, List.getElem?_eq_getElem hj]
  exact List.getElem_mem _
theorem touL_rises {fs : List (Int × Int × Int)} {x : Int} (hn : (fs.map fun f => f.2).Nodup) : ∀ a, (touK fs x a).Pairwise fun i j => (futAt fs i).2.2 < (futAt fs j).2.2
  | 0 => List.Pairwise.nil
  | a + 1 => by
    show (touK fs x a ++ selF fs x (a + 1) fs.length).Pairwise _
    rw [List.pairwise_append]
    refine ⟨touL_rises hn a, ?_, fun i hi j hj => ?_⟩
    · have hone : ∀ i ∈ selF fs x (a + 1) fs.length, ∀ j ∈ selF fs x (a + 1) fs.length, i = j := fun i hi j hj => by
        obtain ⟨h1, h2, h3⟩ := mem_selF.mp hi
        obtain ⟨k1, k2, k3⟩ := mem_selF.mp hj
        exact fut_inj hn h1 k1 (Prod.ext (h2.trans k2.symm) (h3.trans k3.symm))
      have hnd := selF_nodup fs x (a + 1) fs.length
      rcases hs : selF fs x (a + 1) fs.length with _ | ⟨i, _ | ⟨j, l⟩⟩
      · exact List.Pairwise.nil
      · exact List.pairwise_singleton _ _
      · rw [hs] at hone hnd
        have := hone i (by simp) j (by simp)
        rw [List.nodup_cons] at hnd
        exact absurd (by rw [this]; simp) hnd.1
    · have h1 := (mem_touK.mp hi).2.2.2
      have h2 := (mem_selF.mp hj).2.2
      omega
def plAt (pl : List Nat) (i : Nat) : Nat := pl.getD i 0
def atOf (fs : List (Int × Int × Int)) (pl : List Nat) (i : Nat) : Int := (futAt fs (plAt pl i)).2.2
theorem plAt_mem {pl : List Nat} {i : Nat} (h : i < pl.length) : plAt pl i ∈ pl := by
  unfold plAt
  rw [List.getD_eq_getElem?_getD, List.getElem?_eq_getElem h]
  exact List.getElem_mem _
/-- Places in the order of their futures are the reference's. -/
theorem places_sorted {ps fs : List (Int × Int × Int)} {x : Int} (hps : partsOk ps) (hfs : FutsOk ps fs) {m : Nat} (hm : (ownF fs x fs.length).length = m) (S : List (Fin m)) (hp : S.Perm (List.finRange m))
    (hs : S.Pairwise fun (i j : Fin m) => atOf fs (ownF fs x fs.length) i.val ≤ atOf fs (ownF fs x fs.length) j.val) : (S.map fun (i : Fin m) => plAt (ownF fs x fs.length) i.val) = touL fs x := by
  have hmem : ∀ i : Fin m, plAt (ownF fs x fs.length) i.val ∈ ownF fs x fs.length := fun i => plAt_mem (by have := i.isLt; omega)
  have hinj : ∀ i j : Fin m, atOf fs (ownF fs x fs.length) i.val = atOf fs (ownF fs x fs.length) j.val → i = j := fun i j h => by
    have h1 := mem_ownF.mp (hmem i)
    have h2 := mem_ownF.mp (hmem j)
    have e := fut_inj hfs.once h1.1 h2.1 (Prod.ext (h1.2.trans h2.2.symm) h)
    unfold plAt at e
    have hi : i.val < (ownF fs x fs.length).length := by have := i.isLt; omega
    have hj : j.val < (ownF fs x fs.length).length := by have := j.isLt; omega
    rw [List.getD_eq_getElem?_getD, List.getElem?_eq_getElem hi, List.getD_eq_getElem?_getD, List.getElem?_eq_getElem hj] at e
    exact Fin.ext ((List.getElem_inj (h₀ := hi) (h₁ := hj) (ownF_nodup fs x fs.length)).mp (by simpa using e))
  have hnd : S.Nodup := (hp.nodup_iff).mpr (List.nodup_finRange m)
  refine sorted_ext (f := fun j => (futAt fs j).2.2) ?_ (touL_rises hfs.once 99) fun j => ?_
  · rw [List.pairwise_map]
    refine (hs.and hnd).imp fun {i j} h => ?_
    have := h.1
    have hne : atOf fs (ownF fs x fs.length) i.val ≠ atOf fs (ownF fs x fs.length) j.val := fun e => h.2 (hinj i j e)
    show atOf fs (ownF fs x fs.length) i.val < atOf fs (ownF fs x fs.length) j.val
    omega
  · show _ ↔ j ∈ touK fs x 99
    rw [mem_touK, List.mem_map]
    constructor
    · rintro ⟨i, _, rfl⟩
      obtain ⟨h1, h2⟩ := mem_ownF.mp (hmem i)
      have hf := hfs.each _ (futAt_mem h1)
      have hu := hf.user
      obtain ⟨e, he⟩ : ∃ e, ps[(futAt fs (plAt (ownF fs x fs.length) i.val)).2.1.toNat]? = some e := ⟨_, List.getElem?_eq_getElem (by omega)⟩
      have hl := hf.last e he
      have hw := (hps e (List.mem_of_getElem? he)).2.2.2.2.2
      exact ⟨h1, h2, hf.first, by show _ ≤ (99 : Int); omega⟩
    · rintro ⟨h1, h2, _, _⟩
      have hj : j ∈ ownF fs x fs.length := mem_ownF.mpr ⟨h1, h2⟩
      obtain ⟨k, hk⟩ := List.mem_iff_getElem?.mp hj
      have hkl := (List.getElem?_eq_some_iff.1 hk).1
      refine ⟨⟨k, by omega⟩, hp.mem_iff.mpr (List.mem_finRange _), ?_⟩
      show (ownF fs x fs.length).getD k 0 = j
      rw [List.getD_eq_getElem?_getD, hk]
      rfl
end Go.Proofs.YtpckmhmabmmllaaDoor
set_option linter.unusedVariables false
namespace Go.Proofs.YtpckmhmabmmllaaDoor
open Go.RowKit

section
variable {α : Type} [Inhabited α]
theorem sortWorld_heap (enc : α → Value) (w : World) (blk m : Nat) (dk : Array α) (os : Array Obj) (k : Nat) (hk : k < w.heap.size) :
    (sortWorld enc w blk 0 m dk os).heap[k]? = if blk = k then (w.heap[k]?).map (Go.Sort.onCells (Go.Sort.putCells enc 0 dk)) else w.heap[k]? := by
  show ((w.heap.modify blk (Go.Sort.onCells (Go.Sort.putCells enc 0 dk))) ++ os)[k]? = _
  rw [Array.getElem?_append, if_pos (by rw [Array.size_modify]; exact hk), Array.getElem?_modify]
theorem below_sortWorld (enc : α → Value) (w : World) (blk m : Nat) (dk : Array α) (os : Array Obj) {B : Nat} (hB : B ≤ blk) (hs : B ≤ w.heap.size) : Below B w (sortWorld enc w blk 0 m dk os) := by
  refine ⟨rfl, rfl, rfl, ?_, fun k hk => ?_⟩
  · show _ ≤ ((w.heap.modify blk (Go.Sort.onCells (Go.Sort.putCells enc 0 dk))) ++ os).size
    rw [Array.size_append, Array.size_modify]
    omega
  · rw [sortWorld_heap enc w blk m dk os k (by omega), if_neg (by omega)]
theorem own_sortWorld {f : α → Int} {enc : α → Value} (he : ∀ a, enc a = .int .i64 (f a)) {w : World} {base g n c : Nat} {zs : List Int} (m : Nat) (dk : Array α) (os : Array Obj) (hn : zs.length = n) (hd : dk.size = n) (h : OwnI w base (.slice (some ⟨g, 0, none⟩) n c) zs) :
    OwnI (sortWorld enc w g 0 m dk os) base (.slice (some ⟨g, 0, none⟩) n c) (dk.toList.map f) := by
  obtain ⟨h0, h⟩ := h
  rcases h with ⟨h1, _⟩ | ⟨g', cap, cur, h1, h2, h3, h4, h5, h6, h7⟩
  · injection h1 with h1; cases h1
  · injection h1 with e1 e2 e3
    injection e1 with e1
    injection e1 with e1
    subst e1 e3
    have hg := (Array.getElem?_eq_some_iff.1 h3).1
    have hl : (dk.toList.map f).length = n := by rw [List.length_map, Array.length_toList, hd]
    refine ⟨by rw [List.length_map, Nat.mul_one], .inr ⟨g, c, Go.Sort.putCells enc 0 dk cur, by rw [hl], h2, ?_, by rw [hl]; omega, h5, ?_, ?_⟩⟩
    · rw [sortWorld_heap enc w g m dk os g hg, if_pos rfl, h3]
      rfl
    · unfold Go.Sort.putCells
      rw [Array.size_mapIdx]
      exact h6
    · apply List.ext_getElem?
      intro k
      rw [hl, Nat.mul_one, List.getElem?_take, List.getElem?_map, List.getElem?_map]
      by_cases hk : k < n
      · rw [if_pos hk]
        unfold Go.Sort.putCells
        have hc : k < cur.size := by omega
        rw [Array.getElem?_toList, Array.getElem?_mapIdx, Array.getElem?_eq_getElem hc, Option.map_some, if_pos ⟨by omega, by omega⟩, Array.getElem?_toList, Array.getElem?_eq_getElem (by omega : k < dk.size), he, Nat.sub_zero, getElem!_pos dk k (by omega)]
        rfl
      · rw [if_neg hk, Array.getElem?_toList, Array.getElem?_eq_none (by omega)]
        rfl
end
def cmpI (a b : Int) : Int := if a < b then -1 else if b < a then 1 else 0
theorem isNaN_int (a : Int) (w : World) : Calls Tryd.prog 63 #[.int .i64 a] w fun e w' => e = .returned (.bool false) ∧ w = w' := by
  go_enter Tryd.func63, Tryd.ntmps63
  go_wp2
  go_ret
  exact ⟨rfl, rfl⟩
theorem compare_any (a b : Int) (w : World) : Calls Tryd.prog 42 #[.int .i64 a, .int .i64 b] w fun e w' => e = .returned (.int .i64 (cmpI a b)) ∧ w' = w := by
  have C1 := Lib.hid (isNaN_int a)
  have C2 := Lib.hid (isNaN_int b)
  unfold cmpI
  by_cases h1 : a < b
  · rw [if_pos h1]
    go_enter Tryd.func42, Tryd.ntmps42
    go_wp2_with fail
    refine (C1.out _).mono ?_
    rintro e w' ⟨rfl, rfl⟩
    go_wp2_with fail
    refine (C2.out _).mono ?_
    rintro e w' ⟨rfl, rfl⟩
    go_wp2
    go_ret
    exact ⟨rfl, rfl⟩
  · rw [if_neg h1]
    by_cases h2 : b < a
    · rw [if_pos h2]
      have h1' : decide (a < b) = false := decide_eq_false h1
      clear h1
      go_enter Tryd.func42, Tryd.ntmps42
      go_wp2_with fail
      refine (C1.out _).mono ?_
      rintro e w' ⟨rfl, rfl⟩
      go_wp2_with fail
      refine (C2.out _).mono ?_
      rintro e w' ⟨rfl, rfl⟩
      go_wp2
      go_ret
      exact ⟨rfl, rfl⟩
    · rw [if_neg h2]
      have h1' : decide (a < b) = false := decide_eq_false h1
      have h2' : decide (b < a) = false := decide_eq_false h2
      clear h1 h2
      go_enter Tryd.func42, Tryd.ntmps42
      go_wp2_with fail
      refine (C1.out _).mono ?_
      rintro e w' ⟨rfl, rfl⟩
      go_wp2_with fail
      refine (C2.out _).mono ?_
      rintro e w' ⟨rfl, rfl⟩
      go_wp2
      go_ret
      exact ⟨rfl, rfl⟩
theorem byAt_any (F : Option Addr) (nf fc : Nat) (fs : List (Int × Int × Int)) (gb i j : Nat) (w : World) (B : Nat) (hm : fs.length = nf) (hl : nf ≤ 1000) (hi : i < nf) (hj : j < nf) (hT : Trips w B F fs) (hbox : w.cell? ⟨gb, 4, none⟩ = some (.slice F nf fc)) :
    Calls Tryd.prog 41 #[.int .i64 i, .int .i64 j, .pointer (some ⟨gb, 0, none⟩)] w fun e w' => e = .returned (.int .i64 (cmpI (futAt fs i).2.2 (futAt fs j).2.2)) ∧ ∃ q, w' = w.drewN q := by
  obtain ⟨b, off, x1, x2, x3, rfl, _, hk1, d1, d2, d3⟩ := hT.at_ (k := i) (by omega)
  obtain ⟨b', off', y1, y2, y3, e, _, hk2, f1, f2, f3⟩ := hT.at_ (k := j) (by omega)
  injection e with e
  injection e with e1 e2
  subst e1 e2
  have g1 : (futAt fs i).2.2 = x3 := by unfold futAt; rw [List.getD_eq_getElem?_getD, hk1]; rfl
  have g2 : (futAt fs j).2.2 = y3 := by unfold futAt; rw [List.getD_eq_getElem?_getD, hk2]; rfl
  rw [g1, g2]
  have C := Lib.hid (compare_any x3 y3)
  generalize cmpI x3 y3 = r at C ⊢
  clear hT hk1 hk2 d1 d2 f1 f2 g1 g2
  go_enter Tryd.func41, Tryd.ntmps41
  go_wp2
  go_quiet (first
    | (go_at_call 42; exact Calls.quiet_of_same (C.out _)))
  go_wp2
  go_ret
  exact ⟨rfl, _, rfl⟩
end Go.Proofs.YtpckmhmabmmllaaDoor
set_option linter.unusedVariables false
namespace Go.Proofs.YtpckmhmabmmllaaDoor
open Go.RowKit

theorem cmpI_neg (a b : Int) : cmpI a b < 0 ↔ a < b := by
  unfold cmpI
  split
  · exact ⟨fun _ => by assumption, fun _ => by decide⟩
  · split
    · exact ⟨fun h => absurd h (by decide), fun h => by omega⟩
    · exact ⟨fun h => absurd h (by decide), fun h => by omega⟩
theorem lt_cmpI {α : Type} (f : α → Int) (x y : α) : ltOf (fun a b => cmpI (f a) (f b)) x y = decide (f x < f y) := by
  unfold ltOf
  rw [decide_eq_decide]
  exact cmpI_neg _ _
theorem swo_cmpI {α : Type} [Inhabited α] (f : α → Int) : Go.Sort.SWO (ltOf fun a b => cmpI (f a) (f b)) where
  irrefl x := by rw [lt_cmpI]; simp
  trans x y z h1 h2 := by rw [lt_cmpI] at *; simp at *; omega
  ntrans x y z h1 h2 := by rw [lt_cmpI] at *; simp at *; omega
set_option maxHeartbeats 1000000 in
theorem sort_any (F : Option Addr) (nf fc : Nat) (ps fs : List (Int × Int × Int)) (x : Int) (gb : Nat) (A : Option Addr) (k c : Nat) (w : World) (base : Nat) (hm : fs.length = nf) (hl : nf ≤ 1000) (hps : partsOk ps) (hfs : FutsOk ps fs)
    (hk : (ownF fs x nf).length = k) (hO : OwnI w base (.slice A k c) (nums (ownF fs x nf))) (hb : base ≤ w.heap.size) (hT : Trips w base F fs) (hgb : gb < base) (hbox : w.cell? ⟨gb, 4, none⟩ = some (.slice F nf fc)) :
    Calls Tryd.prog 40 #[.slice A k c, .func (.func 41) #[] #[.pointer (some ⟨gb, 0, none⟩)]] w fun e w' => e = .returned (.tuple #[]) ∧ (touL fs x).length = k ∧ OwnI w' base (.slice A k c) (nums (touL fs x)) ∧ Below base w w' := by
  subst hm
  cases k with
  | zero =>
    have h1 : ownF fs x fs.length = [] := List.eq_nil_of_length_eq_zero hk
    have h2 : ([] : List Nat) = touL fs x := places_sorted hps hfs hk [] (by rw [List.finRange_zero]) List.Pairwise.nil
    refine (Tryd.slices_SortFunc_none (α := Nat) A c (.func (.func 41) #[] #[.pointer (some ⟨gb, 0, none⟩)]) w).mono ?_
    rintro e w' ⟨he, rfl⟩
    rw [h1] at hO
    rw [← h2]
    exact ⟨he, rfl, hO, Below.refl _ _⟩
  | succ m =>
    obtain ⟨pl, hpl⟩ : ∃ pl, pl = ownF fs x fs.length := ⟨_, rfl⟩
    rw [← hpl] at hk hO
    obtain ⟨g, rfl, hbg, hgl, hfz⟩ : ∃ g, A = some ⟨g, 0, none⟩ ∧ base ≤ g ∧ g < w.heap.size ∧ ∀ j, w.frozen? ⟨g, j, none⟩ = false := by
      rcases hO.2 with ⟨_, h2⟩ | ⟨g, cap, cur, h1, h2, h3, _⟩
      · rw [nums_length, hk] at h2
        cases h2
      · injection h1 with h1
        refine ⟨g, h1, h2, (Array.getElem?_eq_some_iff.1 h3).1, fun j => ?_⟩
        simp [World.frozen?, h3]
    have hcell : ∀ j, j < m + 1 → w.cell? ⟨g, 0 + j, none⟩ = some (.int .i64 (plAt pl j : Nat)) := fun j hj => by
      obtain ⟨b', o', z, e, _, hz, hc⟩ := hO.ints.at_ (k := j) (by rw [nums_length]; omega)
      injection e with e
      injection e with e1 e2
      subst e1 e2
      obtain ⟨y, rfl, hy⟩ := nums_at hz
      have : plAt pl j = y := by unfold plAt; rw [List.getD_eq_getElem?_getD, hy]; rfl
      rw [this]
      exact hc
    have hd : (List.finRange (m + 1)).toArray.size = m + 1 := by simp
    have hdj : ∀ j (hj : j < m + 1), (List.finRange (m + 1)).toArray[j]! = ⟨j, hj⟩ := fun j hj => by
      rw [getElem!_pos _ j (by rw [hd]; exact hj)]
      simp
    have hin : ∀ i : Fin (m + 1), plAt pl i.val < fs.length ∧ (futAt fs (plAt pl i.val)).2.1 = x := fun i => by
      rw [hpl]
      exact mem_ownF.mp (plAt_mem (by rw [← hpl]; have := i.isLt; omega))
    have hinj : ∀ i j : Fin (m + 1), atOf fs pl i.val = atOf fs pl j.val → i = j := fun i j h => by
      have e := fut_inj hfs.once (hin i).1 (hin j).1 (Prod.ext ((hin i).2.trans (hin j).2.symm) h)
      unfold plAt at e
      have hi : i.val < pl.length := by have := i.isLt; omega
      have hj : j.val < pl.length := by have := j.isLt; omega
      rw [List.getD_eq_getElem?_getD, List.getElem?_eq_getElem hi, List.getD_eq_getElem?_getD, List.getElem?_eq_getElem hj] at e
      have hnd := ownF_nodup fs x fs.length
      rw [← hpl] at hnd
      exact Fin.ext ((List.getElem_inj (h₀ := hi) (h₁ := hj) hnd).mp (by simpa using e))
    have hcon := Tryd.slices_SortFunc_total (α := Fin (m + 1)) (fun i => .int .i64 (plAt pl i.val : Nat)) (fun _ => rfl) (fun i j => cmpI (atOf fs pl i.val) (atOf fs pl j.val)) (swo_cmpI fun i : Fin (m + 1) => atOf fs pl i.val) 41 #[.pointer (some ⟨gb, 0, none⟩)] g 0 c (List.finRange (m + 1)).toArray w
      (eg_of Tryd.func41 (by kernel_rfl) rfl)
      (CmpReads.lays fun M os dk hdk i j => byAt_any F fs.length fc fs gb (plAt pl i.val) (plAt pl j.val) _ base rfl hl (hin i).1 (hin j).1 (hT.below (below_sortWorld _ w g M dk os hbg hb)) (((below_sortWorld _ w g M dk os hbg hb).cell hgb).trans hbox))
      (fun j hj => ⟨by rw [hdj j (by rwa [hd] at hj)]; exact hcell j (by rwa [hd] at hj), hfz _⟩) hgl (by rw [hd]; have := ownF_len fs x fs.length; rw [← hpl] at this; omega)
      (fun i j h1 h2 => by
        rw [lt_cmpI (fun i : Fin (m + 1) => atOf fs pl i.val)] at h1 h2
        simp only [decide_eq_false_iff_not] at h1 h2
        exact hinj i j (by omega))
    rw [hd] at hcon
    refine hcon.mono ?_
    rintro e w' ⟨he, n, os, rfl⟩
    obtain ⟨S, hS⟩ : ∃ S, S = (List.finRange (m + 1)).toArray.toList.mergeSort (fun i j => !(ltOf fun i j : Fin (m + 1) => cmpI (atOf fs pl i.val) (atOf fs pl j.val)) j i) := ⟨_, rfl⟩
    have hperm : S.Perm (List.finRange (m + 1)) := by rw [hS]; exact List.mergeSort_perm _ _
    have hsort : S.Pairwise fun i j : Fin (m + 1) => atOf fs pl i.val ≤ atOf fs pl j.val := by
      rw [hS]
      refine (List.pairwise_mergeSort (le := fun i j => !(ltOf fun i j : Fin (m + 1) => cmpI (atOf fs pl i.val) (atOf fs pl j.val)) j i) ?_ ?_ _).imp fun {i j} h => ?_
      · intro a b c h1 h2
        rw [lt_cmpI (fun i : Fin (m + 1) => atOf fs pl i.val)] at *
        simp at *
        omega
      · intro a b
        rw [lt_cmpI (fun i : Fin (m + 1) => atOf fs pl i.val), lt_cmpI (fun i : Fin (m + 1) => atOf fs pl i.val)]
        simp
        omega
      · rw [lt_cmpI (fun i : Fin (m + 1) => atOf fs pl i.val)] at h
        simp at h
        exact h
    have hmap : (S.map fun i : Fin (m + 1) => plAt pl i.val) = touL fs x := by
      have h := places_sorted hps hfs (by rw [← hpl]; exact hk) S hperm (by rw [← hpl]; exact hsort)
      rw [← hpl] at h
      exact h
    have hlen : (touL fs x).length = m + 1 := by rw [← hmap, List.length_map, hperm.length_eq, List.length_finRange]
    have hnum : S.map (fun i : Fin (m + 1) => ((plAt pl i.val : Nat) : Int)) = nums (touL fs x) := by
      rw [← hmap]
      unfold nums
      rw [List.map_map]
      rfl
    rw [← hS]
    refine ⟨he, hlen, ?_, below_sortWorld _ w g n _ os hbg hb⟩
    have ho := own_sortWorld (f := fun i : Fin (m + 1) => ((plAt pl i.val : Nat) : Int)) (enc := fun i => .int .i64 (plAt pl i.val : Nat)) (fun _ => rfl) n S.toArray os (by rw [nums_length]; exact hk) (by rw [List.size_toArray, hperm.length_eq, List.length_finRange]) hO
    rw [List.toList_toArray, hnum] at ho
    exact ho
end Go.Proofs.YtpckmhmabmmllaaDoor
