/- list.fill in the seat YtmmogdccjiagnaaDoor: its contract (it writes in place).
   slices.Sort at integers in the seat YtmmogdccjiagnaaDoor: its contract, at a list of the call's own.
   A tick of a crew, core by core, in place (plain), in the seat YtmmogdccjiagnaaDoor.
   No statement is proved here. -/
import Derived.Test.YtmmogdccjiagnaaDoorZM24
import Derived.BigRegion
import Derived.Test.YtmmogdccjiagnaaDoorZShelf
import Derived.Test.YtmmogdccjiagnaaDoorZM4
import Derived.Test.YtmmogdccjiagnaaDoorZM1
import Derived.Test.YtmmogdccjiagnaaDoorZM18
set_option linter.unusedSimpArgs false
set_option linter.unusedVariables false
namespace Go.Proofs.YtmmogdccjiagnaaDoor
open Go Go.RowKit

section
variable {A : Option Addr} {n c : Nat} {F : Option Addr} {m d : Nat} {W : List Int} {E : List (Int × Int)} {gO : Nat} {FL : Option Addr} {n' m' cO cL : Nat} {O L : List Int}
/-- In the middle of fill: the boxes; what was written in the crew's first list. -/
structure StFi (wb wf : World) (A : Option Addr) (n c : Nat) (F : Option Addr) (m d : Nat) (W : List Int) (E : List (Int × Int)) (gO : Nat) (FL : Option Addr) (n' m' cO cL : Nat) (O L : List Int) (w : World) : Prop where
  tn : Turn2 gO gO wf w
  lt : wf.heap.size + 1 < w.heap.size
  d0 : w.cell? ⟨wf.heap.size, 0, none⟩ = some (.slice A n c)
  d1 : w.cell? ⟨wf.heap.size, 1, none⟩ = some (.slice F m d)
  c0 : w.cell? ⟨wf.heap.size + 1, 0, none⟩ = some (.slice (some ⟨gO, 0, none⟩) n' cO)
  c1 : w.cell? ⟨wf.heap.size + 1, 1, none⟩ = some (.slice FL m' cL)
  rows : RowsC wb.heap.size gO FL n' m' cO cL O L w
  g : IsG w A n c F m d W E
theorem RowsC.setO {B : Nat} {w : World} (h : RowsC B gO FL n' m' cO cL O L w) {j : Nat} (hj : j < n') (z : Int) : RowsC B gO FL n' m' cO cL (O.set j z) L (w.setCell ⟨gO, j, none⟩ (.int .i64 z)) := by
  have hO := h.rO.len_eq
  refine ⟨ownI_setC h.rO (by omega) z, ?_, h.ne⟩
  rcases Nat.eq_zero_or_pos m' with h0 | h0
  · have hL := h.rL.len_eq
    subst h0
    obtain rfl : L = [] := List.eq_nil_of_length_eq_zero hL
    refine ⟨h.rL.1, ?_⟩
    rcases h.rL.2 with q | ⟨g', cap, cur, e, hg, hgg, hnc, hcm, hcs, ht⟩
    · exact .inl q
    · by_cases hgo : g' = gO
      · subst hgo
        exact .inr ⟨g', cap, cur.setIfInBounds j (.int .i64 z), e, hg, heap_setCell_same w g' j _ _ _ hgg, hnc, hcm, by rw [Array.size_setIfInBounds]; exact hcs, by simp⟩
      · exact .inr ⟨g', cap, cur, e, hg, by rw [heap_setCell_other _ _ _ _ hgo]; exact hgg, hnc, hcm, hcs, ht⟩
  · obtain ⟨gL, rfl, hne⟩ := h.ne h0
    exact own_farC h.rL (fun e => hne (by simpa [Value.ownBlock] using e.symm)) fun k hk => heap_setCell_other _ _ _ _ hk
theorem StFi.next {wb wf w w' : World} (h : StFi wb wf A n c F m d W E gO FL n' m' cO cL O L w) (hb : Below w.heap.size w w') : StFi wb wf A n c F m d W E gO FL n' m' cO cL O L w' :=
  ⟨h.tn.more hb, Nat.lt_of_lt_of_le h.lt hb.size, (hb.cell (show wf.heap.size < _ by have := h.lt; omega)).trans h.d0, (hb.cell (show wf.heap.size < _ by have := h.lt; omega)).trans h.d1, (hb.cell (show wf.heap.size + 1 < _ from h.lt)).trans h.c0, (hb.cell (show wf.heap.size + 1 < _ from h.lt)).trans h.c1, h.rows.next hb, h.g.below hb⟩
theorem StFi.set {wb wf w : World} (h : StFi wb wf A n c F m d W E gO FL n' m' cO cL O L w) (hgb : IsG wb A n c F m d W E) (hbel : Below wb.heap.size wb wf) (hgl : gO < wf.heap.size) (hgO : wb.heap.size ≤ gO) {j : Nat} (hj : j < n') (z : Int) :
    StFi wb wf A n c F m d W E gO FL n' m' cO cL (O.set j z) L (w.setCell ⟨gO, j, none⟩ (.int .i64 z)) := by
  have ht : Turn2 gO gO w (w.setCell ⟨gO, j, none⟩ (.int .i64 z)) := (Turn2.refl gO gO w).setD j _
  have hlt := h.lt
  have hT := h.tn.trans ht
  refine ⟨hT, by simp [World.setCell]; exact hlt, (ht.cell (show wf.heap.size < _ by omega) (show wf.heap.size ≠ _ by omega) (show wf.heap.size ≠ _ by omega)).trans h.d0, (ht.cell (show wf.heap.size < _ by omega) (show wf.heap.size ≠ _ by omega) (show wf.heap.size ≠ _ by omega)).trans h.d1, (ht.cell (show wf.heap.size + 1 < _ by omega) (show wf.heap.size + 1 ≠ _ by omega) (show wf.heap.size + 1 ≠ _ by omega)).trans h.c0, (ht.cell (show wf.heap.size + 1 < _ by omega) (show wf.heap.size + 1 ≠ _ by omega) (show wf.heap.size + 1 ≠ _ by omega)).trans h.c1, h.rows.setO hj z, ?_⟩
  exact hgb.below (hbel.trans (hT.below hbel.size hgO hgO))
theorem StFi.drew {wb wf w : World} (h : StFi wb wf A n c F m d W E gO FL n' m' cO cL O L w) : StFi wb wf A n c F m d W E gO FL n' m' cO cL O L w.drew := h.next (Below.refl _ _).drew
set_option maxRecDepth 100000 in
set_option maxHeartbeats 8000000 in
theorem pfill_any (wb wf : World) (hg : IsG wb A n c F m d W E) (hbel : Below wb.heap.size wb wf) (hr : RowsC wb.heap.size gO FL n' m' cO cL O L wf) (hF : Fits W.length E) (h64 : W.length ≤ 64) (hl : L.length = W.length) (ln : n' ≤ 400) :
    Calls Tryd.prog 38 #[.agg #[.slice A n c, .slice F m d], .agg #[.slice (some ⟨gO, 0, none⟩) n' cO, .slice FL m' cL]] wf fun e w' => e = .returned (.tuple #[]) ∧ RowsC wb.heap.size gO FL n' m' cO cL (fillC m' E L O) L w' ∧ Turn2 gO gO wf w' := by
  have hO := hr.rO.len_eq
  have hm := hr.rL.len_eq
  have hk := hr.isC ln (by omega)
  have hgf := hg.below hbel
  obtain ⟨cur, hgg, hgO, hncO, _⟩ := hr.rO.blockC
  have hgl : gO < wf.heap.size := (Array.getElem?_eq_some_iff.1 hgg).1
  obtain ⟨w0, hw0⟩ : ∃ w0, w0 = (wf.alloc (.cells #[.slice A n c, .slice F m d] 25)).alloc (.cells #[.slice (some ⟨gO, 0, none⟩) n' cO, .slice FL m' cL] 27) := ⟨_, rfl⟩
  have B0 : Hid (StFi wb wf A n c F m d W E gO FL n' m' cO cL O L w0) := Lib.hid (by
    have h1 := BxDC.start hgf hk
    rw [← hw0] at h1
    exact ⟨(Turn2.refl _ _ _).more h1.bel, h1.lt, h1.d0, h1.d1, h1.c0, h1.c1, hr.next h1.bel, h1.g⟩)
  have HW := Lib.hid hw0
  have HSET := Lib.hid (fun (O1 : List Int) (w : World) (h : StFi wb wf A n c F m d W E gO FL n' m' cO cL O1 L w) (j : Nat) (hj : j < n') (z : Int) => h.set hg hbel hgl hgO hj z)
  have CR := Lib.hid (fun W' (h1 : IsG W' A n c F m d W E) (h2 : IsC W' (some ⟨gO, 0, none⟩) n' cO FL m' cL O L) => pready_any W' h1 h2 hF h64 hl)
  have HO := Lib.hid hO
  have HGL := Lib.hid hgl
  have hm64 : m' ≤ 64 := by omega
  have TL := fun b off k c hk W' => run_tail b off k c hk W'
  clear hg hbel hr hF h64 hl hO hm hk hgf hgg hncO hgl hw0
  have p0 := B0.out.d0
  have p1 := B0.out.d1
  have q0 := B0.out.c0
  have q1 := B0.out.c1
  go_enter Tryd.func38, Tryd.ntmps38
  go_wp2_with fail
  rw [← HW.out]
  clear HW
  go_wp2_with fail
  refine (CR.out w0 B0.out.g (B0.out.rows.isC ln (by omega))).mono ?_
  rintro e w1 ⟨A1, c1, rfl, ho, b1⟩
  have B1 := Lib.hid (B0.out.next b1)
  have HN1 : Hid (IntsN w1 gO A1 (readyW E O L m') ∧ (readyW E O L m').length ≤ c1) := Lib.hid ⟨IntsN.of ho (by have := HGL.out; have := B0.out.lt; omega), by
    rcases ho.2 with ⟨e, h0⟩ | ⟨g', cap, cur, e, hg', hgg', hnc, _⟩
    · injection e with _ e2 _; omega
    · injection e with _ e2 e3; omega⟩
  obtain ⟨k1, hk1⟩ : ∃ k, k = (readyW E O L m').length := ⟨_, rfl⟩
  rw [← hk1]
  have HK1 := Lib.hid hk1
  have hk14 : k1 ≤ m' := by rw [hk1]; exact readyW_len E O L m'
  clear ho b1 B0 CR p0 p1 q0 q1 hk1
  have q0 := B1.out.c0
  go_wp2
  go_loopw [4, 12] (fun v i wr => ∃ (j k : Nat) (A2 : Option Addr) (c2 : Nat), j ≤ n' ∧ k ≤ m' ∧ k ≤ c2 ∧ i = .int .i64 j ∧ v = .slice A2 k c2 ∧ Hid (k = (readyW E (fillK m' E L O j) L m').length) ∧ Hid (IntsN wr gO A2 (readyW E (fillK m' E L O j) L m')) ∧ Hid (StFi wb wf A n c F m d W E gO FL n' m' cO cL (fillK m' E L O j) L wr)) (fun _ i _ => n' - (intOf i).toNat)
  case atStart => exact ⟨0, k1, A1, c1, Nat.zero_le _, hk14, by have := HN1.out.2; have := HK1.out; omega, rfl, rfl, HK1, Lib.hid HN1.out.1, B1⟩
  case round =>
    clear B1 HN1 HK1 q0
    obtain ⟨j, k, A2, c2, hj, hkm, hkc, rfl, rfl, HK, HN, HB⟩ := hrel
    have q0 := HB.out.c0
    by_cases hlt : j < n'
    · obtain ⟨Oj, hOj⟩ : ∃ z, z = fillK m' E L O j := ⟨_, rfl⟩
      have HNX : Hid (fillK m' E L O (j + 1) = fillOne m' E L Oj j) := Lib.hid (by rw [hOj]; rfl)
      rw [← hOj] at HK HN HB
      obtain ⟨b3, o3, x, e3, hb3, hx, d3⟩ := HB.out.rows.rO.ints.at_ (k := j) (by have := HB.out.rows.rO.len_eq; omega)
      have HX : Hid (Oj.getD j 0 = x) := Lib.hid (by rw [List.getD_eq_getElem?_getD, hx]; rfl)
      obtain ⟨h31, h32⟩ : gO = b3 ∧ 0 = o3 := by
        injection e3 with e3
        injection e3 with e31 e32
        exact ⟨e31, e32⟩
      rw [← h31, ← h32, Nat.zero_add] at d3
      clear e3 hb3 hx h31 h32 hOj
      by_cases hx1 : x = -1
      · subst hx1
        by_cases hk0 : k = 0
        · have HNS : Hid (fillK m' E L O (j + 1) = Oj) := Lib.hid (by
            have h0 : readyU m' E Oj L = [] := by
              have h2 := HK.out
              rw [hk0] at h2
              unfold readyW at h2
              rw [nums_length] at h2
              exact List.eq_nil_of_length_eq_zero h2.symm
            rw [HNX.out]
            unfold fillOne
            rw [h0]
            split <;> rfl)
          have hk0a : decide (0 < k) = false := decide_eq_false (by omega)
          have hk0b : decide ((0 : Int) < (k : Int)) = false := decide_eq_false (by omega)
          clear hk0
          go_wp2
          go_roundw
          case rel => exact ⟨j + 1, k, A2, c2, by omega, hkm, hkc, by go_num, rfl, Lib.hid (by rw [HNS.out]; exact HK.out), Lib.hid (by rw [HNS.out]; exact HN.out), Lib.hid (by rw [HNS.out]; exact HB.out)⟩
          case measure => simp [intOf]; omega
        · have hkp : 0 < k := by omega
          obtain ⟨y, r, hr⟩ : ∃ y r, readyU m' E Oj L = y :: r := by
            cases hq : readyU m' E Oj L with
            | nil =>
              have h2 := HK.out
              unfold readyW at h2
              rw [nums_length, hq] at h2
              exact absurd h2 (by simp; omega)
            | cons y r => exact ⟨y, r, rfl⟩
          have hlen : j < Oj.length := by have := HB.out.rows.rO.len_eq; omega
          have HNS : Hid (fillK m' E L O (j + 1) = Oj.set j (y : Int)) := Lib.hid (by
            rw [HNX.out]
            unfold fillOne
            rw [if_pos HX.out, hr])
          have HRW : Hid (readyW E Oj L m' = (y : Int) :: nums r ∧ readyW E (Oj.set j (y : Int)) L m' = nums r) := Lib.hid ⟨by unfold readyW; rw [hr]; rfl, by unfold readyW; rw [readyU_next hlen HX.out hr]⟩
          have hNN := HN.out
          rw [HRW.out.1] at hNN
          obtain ⟨b5, o5, rfl, hb5, hne5, d5⟩ := hNN.head
          have HTL := Lib.hid (hNN.tail (c := c2) (by have := HK.out; rw [HRW.out.1] at this; simp at this; omega))
          have HK2 : Hid (k - 1 = (nums r).length) := Lib.hid (by have := HK.out; rw [HRW.out.1] at this; simp at this; omega)
          have hf := HB.out.rows.rO.frozenC j
          have hgs : gO < wr.heap.size := Nat.lt_of_lt_of_le HGL.out HB.out.tn.size
          have hS := fun W' => TL b5 o5 k c2 hkp W'
          obtain ⟨A3, hA3⟩ : ∃ z, z = tailA (some ⟨b5, o5, none⟩) c2 := ⟨_, rfl⟩
          have hk0a : decide (0 < k) = true := decide_eq_true hkp
          have hk0b : decide ((0 : Int) < (k : Int)) = true := decide_eq_true (by omega)
          have hne5' : b5 ≠ gO := hne5
          rw [← hA3] at hS HTL
          have HNX2 := Lib.hid (HSET.out _ _ HB.out _ hlt (y : Int))
          have HT3 : Hid (Turn2 gO gO wr (wr.setCell ⟨gO, j, none⟩ (.int .i64 (y : Int)))) := Lib.hid ((Turn2.refl _ _ _).setD j _)
          clear hk0 hr hNN hA3 HNX HX TL hne5
          go_wp2
          go_region
          go_wp2
          go_roundw
          case rel => exact ⟨j + 1, k - 1, A3, c2 - 1, by omega, by omega, by omega, by go_num, rfl, Lib.hid (by rw [HNS.out, HRW.out.2]; exact HK2.out), Lib.hid (by rw [HNS.out, HRW.out.2]; exact HTL.out.turn (HT3.out.drew)), Lib.hid (by rw [HNS.out]; exact HNX2.out.drew)⟩
          case measure => simp [intOf]; omega
      · have hx1a : (x == -1) = false := beq_eq_false_iff_ne.mpr hx1
        have HNS : Hid (fillK m' E L O (j + 1) = Oj) := Lib.hid (by
          rw [HNX.out]
          unfold fillOne
          rw [if_neg (by rw [HX.out]; exact hx1)])
        clear hx1
        go_wp2
        go_roundw
        case rel => exact ⟨j + 1, k, A2, c2, by omega, hkm, hkc, by go_num, rfl, Lib.hid (by rw [HNS.out]; exact HK.out), Lib.hid (by rw [HNS.out]; exact HN.out), Lib.hid (by rw [HNS.out]; exact HB.out)⟩
        case measure => simp [intOf]; omega
    · obtain rfl : n' = j := by omega
      go_wp2
      go_end0
      exact ⟨rfl, by unfold fillC; rw [HO.out]; exact HB.out.rows, HB.out.tn⟩
end
end Go.Proofs.YtmmogdccjiagnaaDoor
set_option linter.unusedVariables false
namespace Go.Proofs.YtmmogdccjiagnaaDoor
open Go Go.RowKit

theorem heap_putRow {w : World} {g : Nat} {cur : Array Value} {e : TypeId} {fr : Nat × Nat} (h : w.heap[g]? = some (.cells cur e fr)) (d : Array Int) : (Sort.putRow (Value.int .i64) w g 0 d).heap[g]? = some (.cells (Sort.putCells (Value.int .i64) 0 d cur) e fr) := by
  unfold Sort.putRow Sort.mapBlock
  simp [Array.getElem?_modify, h, Sort.onCells]
theorem heap_putRow_other (w : World) {g k : Nat} (hk : k ≠ g) (d : Array Int) : (Sort.putRow (Value.int .i64) w g 0 d).heap[k]? = w.heap[k]? := by
  unfold Sort.putRow Sort.mapBlock
  simp only [Array.getElem?_modify]
  rw [if_neg (fun e => hk e.symm)]
theorem take_putCells {cur : Array Value} {zs : List Int} (h : zs.length ≤ cur.size) : (Sort.putCells (Value.int .i64) 0 zs.toArray cur).toList.take zs.length = zs.map (Value.int .i64) := by
  apply List.ext_getElem?
  intro i
  rw [List.getElem?_take, List.getElem?_map]
  by_cases hi : i < zs.length
  · rw [if_pos hi]
    unfold Sort.putCells
    rw [Array.getElem?_toList, Array.getElem?_mapIdx, Array.getElem?_eq_getElem (by omega), List.getElem?_eq_getElem hi]
    simp [hi]
  · rw [if_neg hi, List.getElem?_eq_none (by omega)]; rfl
theorem sortOwn_any (w : World) (B : Nat) (A : Option Addr) (n c : Nat) (zs : List Int) (hn : zs.length = n) (hl : n ≤ 1000) (h : OwnI w B (.slice A n c) zs) (hB : B ≤ w.heap.size) :
    Calls Tryd.prog 62 #[.slice A n c] w fun e w' => e = .returned (.tuple #[]) ∧ OwnI w' B (.slice A n c) (zs.mergeSort fun x y => decide (x ≤ y)) ∧ Below B w w' := by
  rcases Nat.eq_zero_or_pos n with h0 | h0
  · subst h0
    obtain rfl : zs = [] := List.eq_nil_of_length_eq_zero hn
    refine (Tryd.slices_Sort_int_none A c w).mono ?_
    rintro e w' ⟨rfl, rfl⟩
    exact ⟨rfl, by simpa using h, Below.refl _ _⟩
  · rcases h.2 with ⟨e, _⟩ | ⟨g, cap, cur, e, hg, hgg, hnc, hcm, hcs, ht⟩
    · injection e with _ e2 _; omega
    · injection e with e1 e2 e3
      subst e1 e3
      subst hn
      have hH : Sort.Holds (Value.int .i64) w g 0 zs.toArray := fun j hj => by
        have hj' : j < zs.length := by simpa using hj
        refine ⟨?_, frozen_of_row w g _ _ _ hgg⟩
        have hc := OwnI.ints h
        obtain ⟨b, off, eb, hb, hcell⟩ := hc (by omega)
        injection eb with eb
        injection eb with eb1 eb2
        subst eb1 eb2
        rw [hcell j hj', List.getD_eq_getElem?_getD, List.getElem?_eq_getElem hj']
        simp [hj']
      have hlt : g < w.heap.size := (Array.getElem?_eq_some_iff.1 hgg).1
      refine (Tryd.slices_Sort_int g 0 c zs w hH hlt (by omega)).mono ?_
      rintro e w' ⟨rfl, N, os, rfl⟩
      have hlen : (zs.mergeSort fun x y => decide (x ≤ y)).length = zs.length := List.length_mergeSort zs
      have hgA : (Sort.ahead w N).heap[g]? = some (.cells cur 3 (0, 0)) := hgg
      refine ⟨rfl, ?_, ?_⟩
      · refine ⟨by rw [List.length_map, Nat.mul_one], .inr ⟨g, c, Sort.putCells (Value.int .i64) 0 (zs.mergeSort fun x y => decide (x ≤ y)).toArray cur, by rw [hlen], hg, ?_, by rw [hlen]; exact hnc, hcm, by simp [Sort.putCells]; simpa using hcs, ?_⟩⟩
        · rw [Sort.heap_grow_old _ _ (by rw [Sort.size_putRow]; exact hlt)]
          exact heap_putRow hgA _
        · rw [Nat.mul_one]
          exact take_putCells (by rw [hlen]; omega)
      · refine ⟨rfl, rfl, rfl, by simp [Sort.size_grow, Sort.size_putRow], fun k hk => ?_⟩
        rw [Sort.heap_grow_old _ _ (by rw [Sort.size_putRow]; show k < w.heap.size; omega)]
        exact heap_putRow_other (Sort.ahead w N) (by omega) _
end Go.Proofs.YtmmogdccjiagnaaDoor
set_option linter.unusedVariables false
namespace Go.Proofs.YtmmogdccjiagnaaDoor

theorem sorted_extI : ∀ {l1 l2 : List Int}, (l1.Pairwise fun i j => i < j) → (l2.Pairwise fun i j => i < j) → (∀ x, x ∈ l1 ↔ x ∈ l2) → l1 = l2
  | [], [], _, _, _ => rfl
  | [], b :: l2, _, _, h => absurd ((h b).mpr (List.mem_cons_self ..)) (by simp)
  | a :: l1, [], _, _, h => absurd ((h a).mp (List.mem_cons_self ..)) (by simp)
  | a :: l1, b :: l2, h1, h2, h => by
    rw [List.pairwise_cons] at h1 h2
    have e : a = b := by
      have ha := (h a).mp (List.mem_cons_self ..)
      have hb := (h b).mpr (List.mem_cons_self ..)
      rcases List.mem_cons.mp ha with ha | ha
      · exact ha
      · rcases List.mem_cons.mp hb with hb | hb
        · exact hb.symm
        · have := h1.1 b hb
          have := h2.1 a ha
          omega
    subst e
    rw [sorted_extI h1.2 h2.2 fun x => ?_]
    have hx := h x
    constructor
    · intro k
      rcases List.mem_cons.mp (hx.mp (List.mem_cons_of_mem _ k)) with e | k'
      · subst e
        have := h1.1 x k
        omega
      · exact k'
    · intro k
      rcases List.mem_cons.mp (hx.mpr (List.mem_cons_of_mem _ k)) with e | k'
      · subst e
        have := h2.1 x k
        omega
      · exact k'
theorem sort_is {l l' : List Int} (hn : l.Nodup) (hs : l'.Pairwise fun i j => i < j) (h : ∀ x, x ∈ l ↔ x ∈ l') : (l.mergeSort fun x y => decide (x ≤ y)) = l' := by
  have hp := List.mergeSort_perm l (fun x y => decide (x ≤ y))
  have h1 : (l.mergeSort fun x y => decide (x ≤ y)).Pairwise fun x y => decide (x ≤ y) = true :=
    List.pairwise_mergeSort (fun a b c q r => by simp at q r ⊢; omega) (fun a b => by simp; omega) l
  have h2 : (l.mergeSort fun x y => decide (x ≤ y)).Nodup := hp.nodup_iff.mpr hn
  refine sorted_extI ?_ hs fun x => (hp.mem_iff).trans (h x)
  have h3 := h1.and h2
  exact h3.imp fun {a b} q => by
    have q1 := q.1
    simp at q1
    have q2 := q.2
    omega
theorem nums_rises (n : Nat) (p : Nat → Bool) : (nums ((List.range n).filter p)).Pairwise fun i j => i < j := by
  unfold nums
  rw [List.pairwise_map]
  exact (List.pairwise_lt_range.filter p).imp fun {a b} h => by simpa using h
/-- The cores below k are done with. -/
structure TickC (O L : List Int) (k : Nat) (Oc Lc Dc : List Int) : Prop where
  ho : Oc.length = O.length
  hl : Lc.length = L.length
  on : ∀ (i : Nat) (x : Int), O[i]? = some x → Oc[i]? = some (if i < k ∧ x ≠ -1 ∧ leftC L x = 1 then -1 else x)
  left : ∀ q : Nat, q < L.length → leftC Lc (q : Int) = leftC L (q : Int) - if (q : Int) ∈ O.take k then 1 else 0
  done : Dc = (O.take k).filter fun x => decide (x ≠ -1 ∧ leftC L x = 1)
section
variable {O L Oc Lc Dc : List Int} {k : Nat}
theorem TickC.start (O L : List Int) : TickC O L 0 O L [] := by
  refine ⟨rfl, rfl, fun i x h => ?_, fun q hq => ?_, by simp⟩
  · rw [h, if_neg (fun q => by omega)]
  · rw [if_neg (by simp)]
    omega
theorem take_nextI {O : List Int} {k : Nat} {x : Int} (hx : O[k]? = some x) : O.take (k + 1) = O.take k ++ [x] := by
  rw [List.take_add_one, hx]; rfl
theorem TickC.here (h : TickC O L k Oc Lc Dc) {x : Int} (hx : O[k]? = some x) : Oc[k]? = some x := by
  rw [h.on k x hx, if_neg (fun q => by omega)]
/-- A core that has nothing. -/
theorem TickC.idle (h : TickC O L k Oc Lc Dc) (hx : O[k]? = some (-1)) : TickC O L (k + 1) Oc Lc Dc := by
  refine ⟨h.ho, h.hl, fun i y hy => ?_, fun q hq => ?_, ?_⟩
  · rw [h.on i y hy]
    congr 1
    by_cases hik : i = k
    · subst hik
      rw [hx] at hy
      obtain rfl := Option.some.inj hy
      rw [if_neg (fun q => by omega), if_neg (fun q => q.2.1 rfl)]
    · have : (i < k + 1) ↔ (i < k) := by omega
      simp only [this]
  · rw [h.left q hq, take_nextI hx]
    congr 1
    have : (q : Int) ∈ O.take k ++ [-1] ↔ (q : Int) ∈ O.take k := by
      rw [List.mem_append, List.mem_singleton]
      exact ⟨fun r => r.resolve_right (by omega), .inl⟩
    simp only [this]
  · rw [h.done, take_nextI hx, List.filter_append]
    simp
/-- A core that has a node. -/
theorem TickC.node (h : TickC O L k Oc Lc Dc) {n : Nat} (hx : O[k]? = some (n : Int)) (hn : n < L.length) (hno : (n : Int) ∉ O.take k) :
    leftC Lc (n : Int) = leftC L (n : Int) ∧ (leftC L (n : Int) = 1 → TickC O L (k + 1) (Oc.set k (-1)) (Lc.set n (leftC L (n : Int) - 1)) (Dc ++ [(n : Int)])) ∧ (leftC L (n : Int) ≠ 1 → TickC O L (k + 1) Oc (Lc.set n (leftC L (n : Int) - 1)) Dc) := by
  have hk : k < O.length := (List.getElem?_eq_some_iff.1 hx).1
  have hleft : ∀ q : Nat, q < L.length → leftC (Lc.set n (leftC L (n : Int) - 1)) (q : Int) = leftC L (q : Int) - if (q : Int) ∈ O.take (k + 1) then 1 else 0 := fun q hq => by
    have hm : (q : Int) ∈ O.take (k + 1) ↔ (q : Int) ∈ O.take k ∨ q = n := by
      rw [take_nextI hx, List.mem_append, List.mem_singleton]
      exact ⟨fun r => r.imp id (fun e => by omega), fun r => r.imp id (fun e => by omega)⟩
    rw [leftC_nat (Lc.set n _)]
    by_cases hqn : q = n
    · subst hqn
      rw [getD_set_self (by rw [h.hl]; exact hq), if_pos (hm.mpr (.inr rfl))]
    · rw [getD_set_ne (fun e => hqn e.symm), ← leftC_nat, h.left q hq]
      congr 1
      have : (q : Int) ∈ O.take (k + 1) ↔ (q : Int) ∈ O.take k := hm.trans ⟨fun r => r.resolve_right hqn, .inl⟩
      simp only [this]
  have hother : ∀ i, i ≠ k → ∀ x, O[i]? = some x → Oc[i]? = some (if i < k + 1 ∧ x ≠ -1 ∧ leftC L x = 1 then -1 else x) := fun i hik x hi => by
    rw [h.on i x hi]
    have : (i < k + 1) ↔ (i < k) := by omega
    simp only [this]
  have hf : (O.take (k + 1)).filter (fun x => decide (x ≠ -1 ∧ leftC L x = 1)) = Dc ++ if leftC L (n : Int) = 1 then [(n : Int)] else [] := by
    rw [take_nextI hx, List.filter_append, ← h.done]
    congr 1
    by_cases h1 : leftC L (n : Int) = 1
    · rw [if_pos h1]
      have hn1 : (n : Int) ≠ -1 := by omega
      simp [List.filter, h1, hn1]
    · rw [if_neg h1]
      simp [List.filter, h1]
  refine ⟨by rw [h.left n hn, if_neg hno]; omega, fun h1 => ⟨by rw [List.length_set]; exact h.ho, by rw [List.length_set]; exact h.hl, fun i x hi => ?_, hleft, by rw [hf, if_pos h1]⟩, fun h1 => ⟨h.ho, by rw [List.length_set]; exact h.hl, fun i x hi => ?_, hleft, by rw [hf, if_neg h1, List.append_nil]⟩⟩
  · by_cases hik : i = k
    · subst hik
      rw [hx] at hi
      obtain rfl := Option.some.inj hi
      rw [List.getElem?_set_self (by rw [h.ho]; exact hk), if_pos ⟨by omega, by omega, h1⟩]
    · rw [List.getElem?_set_ne (fun e => hik e.symm)]
      exact hother i hik x hi
  · by_cases hik : i = k
    · subst hik
      rw [h.on i x hi]
      rw [hx] at hi
      obtain rfl := Option.some.inj hi
      rw [if_neg (fun q => h1 q.2.2), if_neg (fun q => h1 q.2.2)]
    · exact hother i hik x hi
theorem TickC.end_ (h : TickC O L O.length Oc Lc Dc) (hO : ∀ x ∈ O, x = -1 ∨ (0 ≤ x ∧ x < (L.length : Int))) (h1 : ∀ x, x ≠ -1 → O.count x ≤ 1) : Oc = onT O L ∧ Lc = leftT O L ∧ (Dc.mergeSort fun x y => decide (x ≤ y)) = nums (doneT O L) := by
  obtain ⟨ho, hl, on, left, done⟩ := h
  rw [List.take_length] at left done
  refine ⟨?_, ?_, ?_⟩
  · refine List.ext_getElem? fun i => ?_
    unfold onT
    rw [List.getElem?_map]
    rcases Nat.lt_or_ge i O.length with hi | hi
    · have he := List.getElem?_eq_getElem hi
      rw [on i _ he, he]
      show _ = some (if O[i] ≠ -1 ∧ leftC L O[i] = 1 then -1 else O[i])
      congr 1
      simp only [hi, true_and]
    · rw [List.getElem?_eq_none (by omega), List.getElem?_eq_none hi]; rfl
  · refine List.ext_getElem? fun i => ?_
    rcases Nat.lt_or_ge i L.length with hi | hi
    · have e1 := left i hi
      have e2 := leftT_at (O := O) hi
      rw [List.getElem?_eq_getElem (by omega), List.getElem?_eq_getElem (by rw [leftT_len]; exact hi)]
      congr 1
      rw [leftC_nat, List.getD_eq_getElem?_getD, List.getElem?_eq_getElem (by omega)] at e1
      rw [leftC_nat, List.getD_eq_getElem?_getD, List.getElem?_eq_getElem (by rw [leftT_len]; exact hi)] at e2
      simp only [Option.getD_some] at e1 e2
      rw [e1, e2]
    · rw [List.getElem?_eq_none (by omega), List.getElem?_eq_none (by rw [leftT_len]; exact hi)]
  · refine sort_is ?_ (nums_rises _ _) fun x => ?_
    · rw [done, List.nodup_iff_count]
      intro x
      by_cases hx : x = -1
      · subst hx
        rw [List.count_eq_zero.mpr]
        · omega
        · rw [List.mem_filter]
          simp
      · exact Nat.le_trans (List.filter_sublist.count_le x) (h1 x hx)
    · rw [done, List.mem_filter, decide_eq_true_iff]
      unfold nums
      rw [List.mem_map]
      constructor
      · rintro ⟨hm, hne, hle⟩
        rcases hO x hm with e | ⟨e1, e2⟩
        · exact absurd e hne
        · refine ⟨x.toNat, mem_doneT.mpr ⟨by omega, ?_, ?_⟩, Int.toNat_of_nonneg e1⟩ <;> rw [Int.toNat_of_nonneg e1] <;> assumption
      · rintro ⟨y, hy, rfl⟩
        obtain ⟨e1, e2, e3⟩ := mem_doneT.mp hy
        exact ⟨e2, by simp only [Int.ofNat_eq_natCast]; omega, e3⟩
theorem TickC.dlen (h : TickC O L k Oc Lc Dc) : Dc.length ≤ k := by
  rw [h.done]
  refine Nat.le_trans (List.length_filter_le _ _) ?_
  rw [List.length_take]; omega
end
end Go.Proofs.YtmmogdccjiagnaaDoor
