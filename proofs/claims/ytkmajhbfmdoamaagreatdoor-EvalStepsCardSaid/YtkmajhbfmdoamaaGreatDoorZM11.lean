/- What a sort in place leaves of a list of the call's own; cmp.Compare and the closure of desc.Touches, in the seat YtkmajhbfmdoamaaGreatDoor.
   slices.SortFunc over the places of a part's futures, in the seat YtkmajhbfmdoamaaGreatDoor: its contract.
   desc.Touches, in the seat YtkmajhbfmdoamaaGreatDoor: its contract.
   No statement is proved here. -/
import Derived.Test.YtkmajhbfmdoamaaGreatDoorZM12
import Derived.Test.YtkmajhbfmdoamaaGreatDoorZM10
import Derived.Shelf.SlSortCmp.Insertion
import Derived.Test.YtkmajhbfmdoamaaGreatDoorZShelf
import Derived.Test.YtkmajhbfmdoamaaGreatDoorZM6
set_option linter.unusedSimpArgs false
set_option linter.unusedVariables false
namespace Go.Proofs.YtkmajhbfmdoamaaGreatDoor
open Go.RowKit

section
variable {α : Type} [Inhabited α]
theorem sortWorld_heap (enc : α → Value) (w : World) (blk m : Nat) (dk : Array α) (os : Array Obj) (k : Nat) (hk : k < w.heap.size) :
    (sortWorld enc w blk 0 m dk os).heap[k]? = if blk = k then (w.heap[k]?).map (Go.Sort.onCells (Go.Sort.putCells enc 0 dk)) else w.heap[k]? := by
  show ((w.heap.modify blk (Go.Sort.onCells (Go.Sort.putCells enc 0 dk))) ++ os)[k]? = _
  rw [Array.getElem?_append, if_pos (by rw [Array.size_modify]; exact hk), Array.getElem?_modify]
theorem below_sortWorld (enc : α → Value) (w : World) (blk m : Nat) (dk : Array α) (os : Array Obj) {B : Nat} (hB : B ≤ blk) (hs : B ≤ w.heap.size) : Below B w (sortWorld enc w blk 0 m dk os) := by
  refine ⟨rfl, rfl, rfl, ?_, fun k hk => ?_⟩
  · show _ ≤ ((w.heap.modify blk (Go.Sort.onCells (Go.Sort.putCells enc 0 dk))) ++ os).size
    rw [Array.size_append, Array.size_modify]
    omega
  · rw [sortWorld_heap enc w blk m dk os k (by omega), if_neg (by omega)]
theorem own_sortWorld {f : α → Int} {enc : α → Value} (he : ∀ a, enc a = .int .i64 (f a)) {w : World} {base g n c : Nat} {zs : List Int} (m : Nat) (dk : Array α) (os : Array Obj) (hn : zs.length = n) (hd : dk.size = n) (h : OwnI w base (.slice (some ⟨g, 0, none⟩) n c) zs) :
    OwnI (sortWorld enc w g 0 m dk os) base (.slice (some ⟨g, 0, none⟩) n c) (dk.toList.map f) := by
  obtain ⟨h0, h⟩ := h
  rcases h with ⟨h1, _⟩ | ⟨g', cap, cur, h1, h2, h3, h4, h5, h6, h7⟩
  · injection h1 with h1; cases h1
  · injection h1 with e1 e2 e3
    injection e1 with e1
    injection e1 with e1
    subst e1 e3
    have hg := (Array.getElem?_eq_some_iff.1 h3).1
    have hl : (dk.toList.map f).length = n := by rw [List.length_map, Array.length_toList, hd]
    refine ⟨by rw [List.length_map, Nat.mul_one], .inr ⟨g, c, Go.Sort.putCells enc 0 dk cur, by rw [hl], h2, ?_, by rw [hl]; omega, h5, ?_, ?_⟩⟩
    · rw [sortWorld_heap enc w g m dk os g hg, if_pos rfl, h3]
      rfl
    · unfold Go.Sort.putCells
      rw [Array.size_mapIdx]
      exact h6
    · apply List.ext_getElem?
      intro k
      rw [hl, Nat.mul_one, List.getElem?_take, List.getElem?_map, List.getElem?_map]
      by_cases hk : k < n
      · rw [if_pos hk]
        unfold Go.Sort.putCells
        have hc : k < cur.size := by omega
        rw [Array.getElem?_toList, Array.getElem?_mapIdx, Array.getElem?_eq_getElem hc, Option.map_some, if_pos ⟨by omega, by omega⟩, Array.getElem?_toList, Array.getElem?_eq_getElem (by omega : k < dk.size), he, Nat.sub_zero, getElem!_pos dk k (by omega)]
        rfl
      · rw [if_neg hk, Array.getElem?_toList, Array.getElem?_eq_none (by omega)]
        rfl
end
def cmpI (a b : Int) : Int := if a < b then -1 else if b < a then 1 else 0
theorem isNaN_int (a : Int) (w : World) : Calls Tryz.prog 113 #[.int .i64 a] w fun e w' => e = .returned (.bool false) ∧ w = w' := by
  go_enter Tryz.func113, Tryz.ntmps113
  go_wp2
  go_ret
  exact ⟨rfl, rfl⟩
theorem compare_any (a b : Int) (w : World) : Calls Tryz.prog 86 #[.int .i64 a, .int .i64 b] w fun e w' => e = .returned (.int .i64 (cmpI a b)) ∧ w' = w := by
  have C1 := Lib.hid (isNaN_int a)
  have C2 := Lib.hid (isNaN_int b)
  unfold cmpI
  by_cases h1 : a < b
  · rw [if_pos h1]
    go_enter Tryz.func86, Tryz.ntmps86
    go_wp2_with fail
    refine (C1.out _).mono ?_
    rintro e w' ⟨rfl, rfl⟩
    go_wp2_with fail
    refine (C2.out _).mono ?_
    rintro e w' ⟨rfl, rfl⟩
    go_wp2
    go_ret
    exact ⟨rfl, rfl⟩
  · rw [if_neg h1]
    by_cases h2 : b < a
    · rw [if_pos h2]
      have h1' : decide (a < b) = false := decide_eq_false h1
      clear h1
      go_enter Tryz.func86, Tryz.ntmps86
      go_wp2_with fail
      refine (C1.out _).mono ?_
      rintro e w' ⟨rfl, rfl⟩
      go_wp2_with fail
      refine (C2.out _).mono ?_
      rintro e w' ⟨rfl, rfl⟩
      go_wp2
      go_ret
      exact ⟨rfl, rfl⟩
    · rw [if_neg h2]
      have h1' : decide (a < b) = false := decide_eq_false h1
      have h2' : decide (b < a) = false := decide_eq_false h2
      clear h1 h2
      go_enter Tryz.func86, Tryz.ntmps86
      go_wp2_with fail
      refine (C1.out _).mono ?_
      rintro e w' ⟨rfl, rfl⟩
      go_wp2_with fail
      refine (C2.out _).mono ?_
      rintro e w' ⟨rfl, rfl⟩
      go_wp2
      go_ret
      exact ⟨rfl, rfl⟩
theorem byAt_any (F : Option Addr) (nf fc : Nat) (fs : List (Int × Int × Int)) (gb i j : Nat) (w : World) (B : Nat) (hm : fs.length = nf) (hl : nf ≤ 1000) (hi : i < nf) (hj : j < nf) (hT : Trips w B F fs) (hbox : w.cell? ⟨gb, 4, none⟩ = some (.slice F nf fc)) :
    Calls Tryz.prog 85 #[.int .i64 i, .int .i64 j, .pointer (some ⟨gb, 0, none⟩)] w fun e w' => e = .returned (.int .i64 (cmpI (futAt fs i).2.2 (futAt fs j).2.2)) ∧ ∃ q, w' = w.drewN q := by
  obtain ⟨b, off, x1, x2, x3, rfl, _, hk1, d1, d2, d3⟩ := hT.at_ (k := i) (by omega)
  obtain ⟨b', off', y1, y2, y3, e, _, hk2, f1, f2, f3⟩ := hT.at_ (k := j) (by omega)
  injection e with e
  injection e with e1 e2
  subst e1 e2
  have g1 : (futAt fs i).2.2 = x3 := by unfold futAt; rw [List.getD_eq_getElem?_getD, hk1]; rfl
  have g2 : (futAt fs j).2.2 = y3 := by unfold futAt; rw [List.getD_eq_getElem?_getD, hk2]; rfl
  rw [g1, g2]
  have C := Lib.hid (compare_any x3 y3)
  generalize cmpI x3 y3 = r at C ⊢
  clear hT hk1 hk2 d1 d2 f1 f2 g1 g2
  go_enter Tryz.func85, Tryz.ntmps85
  go_wp2
  go_quiet (first
    | (go_at_call 86; exact Calls.quiet_of_same (C.out _)))
  go_wp2
  go_ret
  exact ⟨rfl, _, rfl⟩
end Go.Proofs.YtkmajhbfmdoamaaGreatDoor
set_option linter.unusedVariables false
namespace Go.Proofs.YtkmajhbfmdoamaaGreatDoor
open Go.RowKit

theorem cmpI_neg (a b : Int) : cmpI a b < 0 ↔ a < b := by
  unfold cmpI
  split
  · exact ⟨fun _ => by assumption, fun _ => by decide⟩
  · split
    · exact ⟨fun h => absurd h (by decide), fun h => by omega⟩
    · exact ⟨fun h => absurd h (by decide), fun h => by omega⟩
theorem lt_cmpI {α : Type} (f : α → Int) (x y : α) : ltOf (fun a b => cmpI (f a) (f b)) x y = decide (f x < f y) := by
  unfold ltOf
  rw [decide_eq_decide]
  exact cmpI_neg _ _
theorem swo_cmpI {α : Type} [Inhabited α] (f : α → Int) : Go.Sort.SWO (ltOf fun a b => cmpI (f a) (f b)) where
  irrefl x := by rw [lt_cmpI]; simp
  trans x y z h1 h2 := by rw [lt_cmpI] at *; simp at *; omega
  ntrans x y z h1 h2 := by rw [lt_cmpI] at *; simp at *; omega
set_option maxHeartbeats 1000000 in
theorem sort_any (F : Option Addr) (nf fc : Nat) (ps fs : List (Int × Int × Int)) (x : Int) (gb : Nat) (A : Option Addr) (k c : Nat) (w : World) (base : Nat) (hm : fs.length = nf) (hl : nf ≤ 1000) (hps : partsOk ps) (hfs : FutsOk ps fs)
    (hk : (ownF fs x nf).length = k) (hO : OwnI w base (.slice A k c) (nums (ownF fs x nf))) (hb : base ≤ w.heap.size) (hT : Trips w base F fs) (hgb : gb < base) (hbox : w.cell? ⟨gb, 4, none⟩ = some (.slice F nf fc)) :
    Calls Tryz.prog 84 #[.slice A k c, .func (.func 85) #[] #[.pointer (some ⟨gb, 0, none⟩)]] w fun e w' => e = .returned (.tuple #[]) ∧ (touL fs x).length = k ∧ OwnI w' base (.slice A k c) (nums (touL fs x)) ∧ Below base w w' := by
  subst hm
  cases k with
  | zero =>
    have h1 : ownF fs x fs.length = [] := List.eq_nil_of_length_eq_zero hk
    have h2 : ([] : List Nat) = touL fs x := places_sorted hps hfs hk [] (by rw [List.finRange_zero]) List.Pairwise.nil
    refine (Tryz.slices_SortFunc_none (α := Nat) A c (.func (.func 85) #[] #[.pointer (some ⟨gb, 0, none⟩)]) w).mono ?_
    rintro e w' ⟨he, rfl⟩
    rw [h1] at hO
    rw [← h2]
    exact ⟨he, rfl, hO, Below.refl _ _⟩
  | succ m =>
    obtain ⟨pl, hpl⟩ : ∃ pl, pl = ownF fs x fs.length := ⟨_, rfl⟩
    rw [← hpl] at hk hO
    obtain ⟨g, rfl, hbg, hgl, hfz⟩ : ∃ g, A = some ⟨g, 0, none⟩ ∧ base ≤ g ∧ g < w.heap.size ∧ ∀ j, w.frozen? ⟨g, j, none⟩ = false := by
      rcases hO.2 with ⟨_, h2⟩ | ⟨g, cap, cur, h1, h2, h3, _⟩
      · rw [nums_length, hk] at h2
        cases h2
      · injection h1 with h1
        refine ⟨g, h1, h2, (Array.getElem?_eq_some_iff.1 h3).1, fun j => ?_⟩
        simp [World.frozen?, h3]
    have hcell : ∀ j, j < m + 1 → w.cell? ⟨g, 0 + j, none⟩ = some (.int .i64 (plAt pl j : Nat)) := fun j hj => by
      obtain ⟨b', o', z, e, _, hz, hc⟩ := hO.ints.at_ (k := j) (by rw [nums_length]; omega)
      injection e with e
      injection e with e1 e2
      subst e1 e2
      obtain ⟨y, rfl, hy⟩ := nums_at hz
      have : plAt pl j = y := by unfold plAt; rw [List.getD_eq_getElem?_getD, hy]; rfl
      rw [this]
      exact hc
    have hd : (List.finRange (m + 1)).toArray.size = m + 1 := by simp
    have hdj : ∀ j (hj : j < m + 1), (List.finRange (m + 1)).toArray[j]! = ⟨j, hj⟩ := fun j hj => by
      rw [getElem!_pos _ j (by rw [hd]; exact hj)]
      simp
    have hin : ∀ i : Fin (m + 1), plAt pl i.val < fs.length ∧ (futAt fs (plAt pl i.val)).2.1 = x := fun i => by
      rw [hpl]
      exact mem_ownF.mp (plAt_mem (by rw [← hpl]; have := i.isLt; omega))
    have hinj : ∀ i j : Fin (m + 1), atOf fs pl i.val = atOf fs pl j.val → i = j := fun i j h => by
      have e := fut_inj hfs.once (hin i).1 (hin j).1 (Prod.ext ((hin i).2.trans (hin j).2.symm) h)
      unfold plAt at e
      have hi : i.val < pl.length := by have := i.isLt; omega
      have hj : j.val < pl.length := by have := j.isLt; omega
      rw [List.getD_eq_getElem?_getD, List.getElem?_eq_getElem hi, List.getD_eq_getElem?_getD, List.getElem?_eq_getElem hj] at e
      have hnd := ownF_nodup fs x fs.length
      rw [← hpl] at hnd
      exact Fin.ext ((List.getElem_inj (h₀ := hi) (h₁ := hj) hnd).mp (by simpa using e))
    have hcon := Tryz.slices_SortFunc_total (α := Fin (m + 1)) (fun i => .int .i64 (plAt pl i.val : Nat)) (fun _ => rfl) (fun i j => cmpI (atOf fs pl i.val) (atOf fs pl j.val)) (swo_cmpI fun i : Fin (m + 1) => atOf fs pl i.val) 85 #[.pointer (some ⟨gb, 0, none⟩)] g 0 c (List.finRange (m + 1)).toArray w
      (eg_of Tryz.func85 (by kernel_rfl) rfl)
      (CmpReads.lays fun M os dk hdk i j => byAt_any F fs.length fc fs gb (plAt pl i.val) (plAt pl j.val) _ base rfl hl (hin i).1 (hin j).1 (hT.below (below_sortWorld _ w g M dk os hbg hb)) (((below_sortWorld _ w g M dk os hbg hb).cell hgb).trans hbox))
      (fun j hj => ⟨by rw [hdj j (by rwa [hd] at hj)]; exact hcell j (by rwa [hd] at hj), hfz _⟩) hgl (by rw [hd]; have := ownF_len fs x fs.length; rw [← hpl] at this; omega)
      (fun i j h1 h2 => by
        rw [lt_cmpI (fun i : Fin (m + 1) => atOf fs pl i.val)] at h1 h2
        simp only [decide_eq_false_iff_not] at h1 h2
        exact hinj i j (by omega))
    rw [hd] at hcon
    refine hcon.mono ?_
    rintro e w' ⟨he, n, os, rfl⟩
    obtain ⟨S, hS⟩ : ∃ S, S = (List.finRange (m + 1)).toArray.toList.mergeSort (fun i j => !(ltOf fun i j : Fin (m + 1) => cmpI (atOf fs pl i.val) (atOf fs pl j.val)) j i) := ⟨_, rfl⟩
    have hperm : S.Perm (List.finRange (m + 1)) := by rw [hS]; exact List.mergeSort_perm _ _
    have hsort : S.Pairwise fun i j : Fin (m + 1) => atOf fs pl i.val ≤ atOf fs pl j.val := by
      rw [hS]
      refine (List.pairwise_mergeSort (le := fun i j => !(ltOf fun i j : Fin (m + 1) => cmpI (atOf fs pl i.val) (atOf fs pl j.val)) j i) ?_ ?_ _).imp fun {i j} h => ?_
      · intro a b c h1 h2
        rw [lt_cmpI (fun i : Fin (m + 1) => atOf fs pl i.val)] at *
        simp at *
        omega
      · intro a b
        rw [lt_cmpI (fun i : Fin (m + 1) => atOf fs pl i.val), lt_cmpI (fun i : Fin (m + 1) => atOf fs pl i.val)]
        simp
        omega
      · rw [lt_cmpI (fun i : Fin (m + 1) => atOf fs pl i.val)] at h
        simp at h
        exact h
    have hmap : (S.map fun i : Fin (m + 1) => plAt pl i.val) = touL fs x := by
      have h := places_sorted hps hfs (by rw [← hpl]; exact hk) S hperm (by rw [← hpl]; exact hsort)
      rw [← hpl] at h
      exact h
    have hlen : (touL fs x).length = m + 1 := by rw [← hmap, List.length_map, hperm.length_eq, List.length_finRange]
    have hnum : S.map (fun i : Fin (m + 1) => ((plAt pl i.val : Nat) : Int)) = nums (touL fs x) := by
      rw [← hmap]
      unfold nums
      rw [List.map_map]
      rfl
    rw [← hS]
    refine ⟨he, hlen, ?_, below_sortWorld _ w g n _ os hbg hb⟩
    have ho := own_sortWorld (f := fun i : Fin (m + 1) => ((plAt pl i.val : Nat) : Int)) (enc := fun i => .int .i64 (plAt pl i.val : Nat)) (fun _ => rfl) n S.toArray os (by rw [nums_length]; exact hk) (by rw [List.size_toArray, hperm.length_eq, List.length_finRange]) hO
    rw [List.toList_toArray, hnum] at ho
    exact ho
end Go.Proofs.YtkmajhbfmdoamaaGreatDoor
set_option linter.unusedVariables false
namespace Go.Proofs.YtkmajhbfmdoamaaGreatDoor
open Go.RowKit

theorem ownI_nil (w : World) (base : Nat) : OwnI w base (.slice none 0 0) [] := ⟨rfl, .inl ⟨rfl, rfl⟩⟩
theorem gotOwn_nil {w w' : World} (hb : Below w.heap.size w w') : GotOwn [] w (.returned (.slice none 0 0)) w' := ⟨none, 0, rfl, ownI_nil _ _, hb⟩
theorem wr_ge {w w0 wr : World} {o : Obj} (h0 : w0 = w.alloc o) (h : Below (w.heap.size + 1) w0 wr) : w.heap.size + 1 ≤ wr.heap.size := by
  have := h.size
  rw [h0] at this
  simpa using this
theorem wr_bel {w w0 wr : World} {o : Obj} (h0 : w0 = w.alloc o) (h : Below (w.heap.size + 1) w0 wr) : Below w.heap.size w wr := by
  refine Below.trans ?_ (h.mono (by omega))
  rw [h0]
  exact below_alloc _
set_option maxRecDepth 100000 in
set_option maxHeartbeats 8000000 in
theorem touches_any5 (s : Sh) (T : Task) (x : Int) (w : World) (hD : IsD w s T) :
    Calls Tryz.prog 54 #[s.arg T.period T.deadline, .int .i64 x] w (GotOwn (touchesV T x) w) := by
  obtain ⟨P, np, pc, E, ne, ec, F, nf, fc, R, nr, rc⟩ := s
  obtain ⟨p, q, ps, es, fs, bs⟩ := T
  have B0 := Lib.hid (BxI.start hD p q)
  have C := Lib.hid (fun (W' : World) (h : IsD W' ⟨P, np, pc, E, ne, ec, F, nf, fc, R, nr, rc⟩ ⟨p, q, ps, es, fs, bs⟩) => check_any5 ⟨P, np, pc, E, ne, ec, F, nf, fc, R, nr, rc⟩ ⟨p, q, ps, es, fs, bs⟩ W' h)
  have HD := Lib.hid hD
  have hm := hD.t.hf
  have hl := hD.few.nf
  simp only at hm hl
  rw [hm] at hl
  have HM := Lib.hid hm
  simp only [Sh.arg] at C ⊢
  obtain ⟨w0, hw0⟩ : ∃ w0, w0 = w.alloc (.cells #[.int .i64 p, .int .i64 q, .slice P np pc, .slice E ne ec, .slice F nf fc, .slice R nr rc] 27) := ⟨_, rfl⟩
  have HW0 := Lib.hid hw0
  rw [← hw0] at B0
  clear hD hm
  by_cases hM : MayT ⟨p, q, ps, es, fs, bs⟩
  · have HV := Lib.hid (show touchesV ⟨p, q, ps, es, fs, bs⟩ x = nums (touL fs x) by unfold touchesV; rw [if_pos hM])
    have HMAY := Lib.hid hM
    have C1 := Lib.hid (fun W' h => by have := C.out W' h; rwa [chkT_zero.mpr hM] at this)
    obtain ⟨l, hl0⟩ : ∃ l, l = touchesV ⟨p, q, ps, es, fs, bs⟩ x := ⟨_, rfl⟩
    rw [← hl0] at HV ⊢
    clear hM C hl0
    rw [hw0] at B0
    clear hw0
    go_enter Tryz.func54, Tryz.ntmps54
    go_wp2_with fail
    refine (C1.out _ B0.out.d).mono ?_
    rintro e w1 ⟨rfl, b⟩
    have HB1 : Hid (Below (w.heap.size + 1) w0 w1) := Lib.hid (by rw [HW0.out]; exact b.mono (by simp))
    have hbox1 : w1.cell? ⟨w.heap.size, 4, none⟩ = some (.slice F nf fc) := (B0.out.next b).b.c4
    clear b B0
    go_wp2
    go_loopw [5, 14] (fun v i wr => ∃ (t k : Nat) (A' : Option Addr) (c' : Nat), t ≤ nf ∧ i = .int .i64 t ∧ v = .slice A' k c' ∧ Hid ((ownF fs x t).length = k) ∧ Hid (OwnI wr (w.heap.size + 1) (.slice A' k c') (nums (ownF fs x t))) ∧ Hid (Below (w.heap.size + 1) w0 wr)) (fun _ i _ => nf - (intOf i).toNat)
    case atStart => exact ⟨0, 0, none, 0, Nat.zero_le _, rfl, rfl, Lib.hid rfl, Lib.hid (ownI_nil _ _), HB1⟩
    case round =>
      obtain ⟨t, k, A', c', ht, rfl, rfl, HK, HO, HB⟩ := hrel
      clear hbox1 HB1
      have hsz := wr_ge HW0.out HB.out
      have HDr := Lib.hid (HD.out.below (wr_bel HW0.out HB.out))
      have hk : k ≤ 400 := by
        have h1 := ownF_len fs x t
        rw [HK.out] at h1
        omega
      by_cases hlt : t < nf
      · obtain ⟨bk, o, f1, f2, f3, hFe, hbg, hft, d1, d2, d3⟩ := (HD.out.t.futures.below (wr_bel HW0.out HB.out)).at_ (k := t) (by rw [HM.out]; exact hlt)
        simp only at hFe
        subst hFe
        have HS := Lib.hid (ownF_step (x := x) hft)
        have HB5 : Hid (∀ o5, Below (w.heap.size + 1) w0 (wr.alloc o5)) := Lib.hid (fun o5 => HB.out.trans ((below_alloc o5).mono hsz))
        have HO5 := Lib.hid (fun o5 => HO.out.alloc o5)
        clear hft
        by_cases h1 : f2 = x
        · have HS2 := Lib.hid (show ownF fs x (t + 1) = ownF fs x t ++ [t] by rw [HS.out, if_pos h1])
          have g1 : (f2 == x) = true := by simpa using h1
          clear h1
          go_wp2_with (at_builtin; refine wpList_push rfl _ _ rfl (wr.alloc (.cells #[.int .i64 f1, .int .i64 f2, .int .i64 f3] 50)) (w.heap.size + 1) _ (nums (ownF fs x t)) t k (by rw [nums_length]; exact HK.out) (by omega) (HO5.out _) (by simp; omega) rfl (by simp; rfl) ?_; intro A4 c4' w4 HO4 HB4; (have HO4' := Lib.hid HO4); (have HB4' := Lib.hid HB4); clear HO4 HB4)
          go_roundw
          case rel => exact ⟨t + 1, k + 1, A4, c4', by omega, by go_num, rfl, Lib.hid (by rw [HS2.out, List.length_append, HK.out]; rfl), Lib.hid (by rw [HS2.out, nums_snoc]; exact HO4'.out), Lib.hid ((HB5.out _).trans HB4'.out)⟩
          case measure => simp [intOf]; omega
        · have HS2 := Lib.hid (show ownF fs x (t + 1) = ownF fs x t by rw [HS.out, if_neg h1])
          have g1 : (f2 == x) = false := by simpa using h1
          clear h1
          go_wp2
          go_roundw
          case rel => exact ⟨t + 1, k, A', c', by omega, by go_num, rfl, Lib.hid (by rw [HS2.out]; exact HK.out), Lib.hid (by rw [HS2.out]; exact HO5.out _), Lib.hid (HB5.out _)⟩
          case measure => simp [intOf]; omega
      · have e : t = nf := by omega
        have HST := Lib.hid (sort_any F nf fc ps fs x w.heap.size A' k c' wr (w.heap.size + 1) HM.out (by omega) HMAY.out.parts HMAY.out.futures (by rw [← e]; exact HK.out) (by rw [← e]; exact HO.out) hsz
          ((HD.out.t.futures.below (wr_bel HW0.out HB.out)).more (by omega)) (by omega) ((HB.out.cell (Nat.lt_succ_self _)).trans (by rw [HW0.out, World.cell?_alloc_at _ _ _ _ rfl]; rfl)))
        clear e
        go_wp2_with fail
        refine HST.out.mono ?_
        rintro e w2 ⟨rfl, hlen, hO2, hb2⟩
        have HL2 := Lib.hid hlen
        have HO2 := Lib.hid hO2
        have HB2 := Lib.hid hb2
        clear hlen hO2 hb2
        go_wp2
        go_ret
        refine ⟨A', c', by rw [HV.out, nums_length, HL2.out]; rfl, ?_, (wr_bel HW0.out (HB.out.trans HB2.out))⟩
        rw [HV.out, nums_length, HL2.out]
        exact HO2.out.down (by omega)
  · have HV : touchesV ⟨p, q, ps, es, fs, bs⟩ x = [] := by unfold touchesV; rw [if_neg hM]
    rw [HV]
    have hc : (chkT ⟨p, q, ps, es, fs, bs⟩ != 0) = true := by
      rw [bne_iff_ne]
      exact fun k => hM (chkT_zero.mp k)
    obtain ⟨r, hr⟩ : ∃ r, r = chkT ⟨p, q, ps, es, fs, bs⟩ := ⟨_, rfl⟩
    rw [← hr] at C hc
    rw [hw0] at B0
    clear hM hr HV hw0
    go_enter Tryz.func54, Tryz.ntmps54
    go_wp2_with fail
    refine (C.out _ B0.out.d).mono ?_
    rintro e w1 ⟨rfl, b⟩
    have B1 := Lib.hid (B0.out.next b)
    clear b
    go_wp2
    go_ret
    exact gotOwn_nil B1.out.b.bel
end Go.Proofs.YtkmajhbfmdoamaaGreatDoor
