/- The contract of trefoilref04.Same in the seat YtmmogdccjiagnaaDoor.
   The contract of trefoilref04.Total in the seat YtmmogdccjiagnaaDoor.
   Words for memory in the seat YtmmogdccjiagnaaDoor: a list of integers that is handed out; natural numbers as integers.
   The contracts of trefoilref04.Preds and Succs in the seat YtmmogdccjiagnaaDoor.
   Words for memory in the seat YtmmogdccjiagnaaDoor: a block of cells that are all known, one of them written.
   The contract of trefoilref04.Reach in the seat YtmmogdccjiagnaaDoor.
   Edges that may be: plain mathematics, in the seat YtmmogdccjiagnaaDoor.
   No statement is proved here. -/
import Derived.Test.YtmmogdccjiagnaaDoorZM3
import Derived.Laws.StructEq
import Derived.Test.YtmmogdccjiagnaaDoorZM1
import Derived.Test.YtmmogdccjiagnaaDoorChecked
import Derived.WalkKit
import Derived.WalkSmall
import Derived.Below
import Derived.Laws.Rows
import Derived.Laws.OwnMore
import Derived.Laws.MakeOwn
set_option linter.unusedSimpArgs false
set_option linter.unusedVariables false
namespace Go.Proofs.YtmmogdccjiagnaaDoor
open Go.RowKit

theorem below_alloc2 {w : World} (o o2 : Obj) : Below w.heap.size w ((w.alloc o).alloc o2) := (below_alloc o).alloc (by simp) o2
theorem edge_fields : (Tryd.prog.fieldsOf 106).toList.map (fun f => (f.name, f.type, f.offset)) = [("From", 3, 0), ("To", 3, 1)] := by kernel_rfl
theorem part_int (x y : Int) (W : World) : (part 3 #[.int .i64 x, .int .i64 y] 0).run Tryd.prog W = .ok (.int .i64 x) W ∧ (part 3 #[.int .i64 x, .int .i64 y] 1).run Tryd.prog W = .ok (.int .i64 y) W := ⟨by kernel_rfl, by kernel_rfl⟩
theorem edge_eq (x y u v : Int) (W : World) : (Op.equalIn 10000 106 (.agg #[.int .i64 x, .int .i64 y]) (.agg #[.int .i64 u, .int .i64 v])).run Tryd.prog W = .ok (x == u && y == v) W := by
  have hf := edge_fields
  rw [run_equalIn_agg (d := 9999) W 106 _ _ (by kernel_rfl) (by kernel_rfl)]
  generalize (Tryd.prog.fieldsOf 106).toList = fs at hf
  match fs, hf with
  | [], hf => simp at hf
  | [_], hf => simp at hf
  | _ :: _ :: _ :: _, hf => simp at hf
  | [f, g], hf =>
    simp only [List.map_cons, List.map_nil, List.cons.injEq, Prod.mk.injEq, and_true] at hf
    obtain ⟨⟨n1, t1, o1⟩, n2, t2, o2⟩ := hf
    have e1 := fun a b W => run_equalIn_int (P := Tryd.prog) W 9998 3 .i64 .i64 a b Tryd.underlying3
    have p1 := fun a b W => (part_int a b W).1
    have p2 := fun a b W => (part_int a b W).2
    simp only [Op.eqFields, n1, n2, t1, t2, o1, o2]
    by_cases h1 : x = u
    · subst h1
      by_cases h2 : y = v
      · simp [p1, p2, e1, h2]
      · simp [p1, p2, e1, h2]
    · simp [p1, p2, e1, h1]
theorem edge_neq_run (x y u v : Int) (W : World) : (binOp .neq 106 (.agg #[.int .i64 x, .int .i64 y]) (.agg #[.int .i64 u, .int .i64 v])).run Tryd.prog W = .ok (.bool (!(x == u && y == v))) W := by
  rw [run_neq_struct, edge_eq]
  rfl
theorem edge_eql_run (x y u v : Int) (W : World) : (binOp .eql 106 (.agg #[.int .i64 x, .int .i64 y]) (.agg #[.int .i64 u, .int .i64 v])).run Tryd.prog W = .ok (.bool (x == u && y == v)) W := by
  rw [run_eql_struct, edge_eq]
  rfl
end Go.Proofs.YtmmogdccjiagnaaDoor
set_option linter.unusedVariables false
namespace Go.Proofs.YtmmogdccjiagnaaDoor
open Go.RowKit

end Go.Proofs.YtmmogdccjiagnaaDoor
set_option linter.unusedVariables false
namespace Go.Proofs.YtmmogdccjiagnaaDoor
open Go.RowKit

/-- A new list of integers, handed out. -/
def GotInts (zs : List Int) (w : World) (e : Ending) (w' : World) : Prop :=
  ∃ A c, e = .returned (.slice A zs.length c) ∧ Ints w' w'.heap.size A zs ∧ Below w.heap.size w w'

theorem OwnI.down {w : World} {b b' : Nat} {v : Value} {zs : List Int} (h : OwnI w b v zs) (hb : b' ≤ b) : OwnI w b' v zs := by
  refine ⟨h.1, ?_⟩
  rcases h.2 with hn | ⟨g, cap, cur, rfl, hg, rest⟩
  · exact .inl hn
  · exact .inr ⟨g, cap, cur, rfl, by omega, rest⟩
theorem OwnI.ints {w : World} {b : Nat} {A : Option Addr} {n c : Nat} {zs : List Int} (h : OwnI w b (.slice A n c) zs) : Ints w w.heap.size A zs := by
  obtain ⟨A', c', e1, hI⟩ := h.slice
  injection e1 with e2 e3 e4
  rw [e2]
  exact hI
/-- A new list of integers of the caller's own, handed out. -/
def GotOwn (zs : List Int) (w : World) (e : Ending) (w' : World) : Prop :=
  ∃ A c, e = .returned (.slice A zs.length c) ∧ OwnI w' w.heap.size (.slice A zs.length c) zs ∧ Below w.heap.size w w'
theorem GotOwn.ints {zs : List Int} {w : World} {e : Ending} {w' : World} (h : GotOwn zs w e w') : GotInts zs w e w' := by
  obtain ⟨A, c, he, hO, b⟩ := h
  obtain ⟨A', c', e1, hI⟩ := hO.slice
  injection e1 with e2 e3 e4
  subst e2
  exact ⟨A, c, he, hI, b⟩
theorem ownI_first (w : World) (o : Obj) : OwnI ((w.alloc o).alloc (.cells #[] 3)) (w.heap.size + 1) (.slice (some ⟨w.heap.size + 1, 0, none⟩) 0 0) [] := by
  have h := OwnI.new (w.alloc o) (w.heap.size + 1) (by simp)
  rwa [show (w.alloc o).heap.size = w.heap.size + 1 by simp] at h
def nums (l : List Nat) : List Int := l.map Int.ofNat
theorem mem_nums {l : List Nat} {a : Nat} : (a : Int) ∈ nums l ↔ a ∈ l := by
  unfold nums
  constructor
  · intro h
    obtain ⟨b, hb, e⟩ := List.mem_map.mp h
    obtain rfl : b = a := Int.ofNat_inj.mp e
    exact hb
  · intro h
    exact List.mem_map.mpr ⟨a, h, rfl⟩
theorem nums_length (l : List Nat) : (nums l).length = l.length := by unfold nums; rw [List.length_map]
theorem nums_snoc (l : List Nat) (a : Nat) : nums (l ++ [a]) = nums l ++ [(a : Int)] := by unfold nums; rw [List.map_append]; rfl
end Go.Proofs.YtmmogdccjiagnaaDoor
set_option linter.unusedVariables false
namespace Go.Proofs.YtmmogdccjiagnaaDoor
open Go.RowKit

/-- The nodes below n with an edge to x; to which one leads from x. -/
def predsL (n : Nat) (E : List (Int × Int)) (x : Int) : List Int := ((List.range n).map Int.ofNat).filter fun a => decide ((a, x) ∈ E)
def succsL (n : Nat) (E : List (Int × Int)) (x : Int) : List Int := ((List.range n).map Int.ofNat).filter fun a => decide ((x, a) ∈ E)
theorem predsL_step (n : Nat) (E : List (Int × Int)) (x : Int) : predsL (n + 1) E x = if ((n : Int), x) ∈ E then predsL n E x ++ [(n : Int)] else predsL n E x := by
  unfold predsL
  rw [List.range_succ, List.map_append, List.filter_append]
  by_cases h : ((n : Int), x) ∈ E
  · rw [if_pos h]
    simp [h]
  · rw [if_neg h]
    simp [h]
theorem succsL_step (n : Nat) (E : List (Int × Int)) (x : Int) : succsL (n + 1) E x = if (x, (n : Int)) ∈ E then succsL n E x ++ [(n : Int)] else succsL n E x := by
  unfold succsL
  rw [List.range_succ, List.map_append, List.filter_append]
  by_cases h : (x, (n : Int)) ∈ E
  · rw [if_pos h]
    simp [h]
  · rw [if_neg h]
    simp [h]
theorem predsL_length (n : Nat) (E : List (Int × Int)) (x : Int) : (predsL n E x).length ≤ n := by
  unfold predsL
  refine Nat.le_trans (List.length_filter_le _ _) ?_
  simp
theorem succsL_length (n : Nat) (E : List (Int × Int)) (x : Int) : (succsL n E x).length ≤ n := by
  unfold succsL
  refine Nat.le_trans (List.length_filter_le _ _) ?_
  simp
set_option maxRecDepth 100000 in
set_option maxHeartbeats 2000000 in
theorem preds_any (A F : Option Addr) (n c m d : Nat) (E : List (Int × Int)) (x : Int) (w : World) (hl : n ≤ 1000) (hm : E.length = m) (hk : m ≤ 1000) (hP : Pairs w w.heap.size F E) :
    Calls Tryd.prog 67 #[.agg #[.slice A n c, .slice F m d], .int .i64 x] w (GotInts (predsL n E x) w) := by
  have HP := Lib.hid hP
  have C := Lib.hid (fun a W hW => near_any A F n c m d E a x W hm hk hW)
  clear hP hm
  go_enter Tryd.func67, Tryd.ntmps67
  go_wp2
  go_loopw [5, 6] (fun v i wr => ∃ (j k : Nat) (A' : Option Addr) (c' : Nat), j ≤ n ∧ k ≤ j ∧ i = .int .i64 j ∧ v = .slice A' k c' ∧ Hid (k = (predsL j E x).length) ∧ Hid (OwnI wr (w.heap.size + 1) v (predsL j E x)) ∧ Hid (Below (w.heap.size + 1) (w.alloc (.cells #[.slice A n c, .slice F m d] 25)) wr)) (fun _ i _ => n - (intOf i).toNat)
  case atStart => exact ⟨0, 0, _, _, Nat.zero_le _, Nat.le_refl _, rfl, rfl, Lib.hid rfl, Lib.hid (ownI_first w _), Lib.hid ((Below.refl _ _).alloc (by simp) _)⟩
  case round =>
    obtain ⟨j, k, A', c', hj, hkj, rfl, rfl, HK, HO, HB⟩ := hrel
    have hbox0 : wr.cell? ⟨w.heap.size, 0, none⟩ = some (.slice A n c) := (HB.out.cell (Nat.lt_succ_self _)).trans (by rw [World.cell?_alloc_at _ _ _ _ rfl]; rfl)
    have hbox1 : wr.cell? ⟨w.heap.size, 1, none⟩ = some (.slice F m d) := (HB.out.cell (Nat.lt_succ_self _)).trans (by rw [World.cell?_alloc_at _ _ _ _ rfl]; rfl)
    by_cases hlt : j < n
    · have hsz : w.heap.size + 1 ≤ wr.heap.size := by have := HB.out.size; simpa using this
      have C1 := Lib.hid (C.out (j : Int) wr (((HP.out.alloc (Nat.le_refl _) _).below (HB.out.mono (by omega))).more (by omega)))
      have HST := Lib.hid (predsL_step j E x)
      by_cases he : ((j : Int), x) ∈ E
      · rw [decide_eq_true he] at C1
        rw [if_pos he] at HST
        clear he
        go_wp2_with fail
        refine C1.out.mono ?_
        rintro e w1 ⟨rfl, b1⟩
        have HO1 := Lib.hid (HO.out.below b1)
        have HB1 := Lib.hid (HB.out.trans (b1.mono hsz))
        have hsz1 : w.heap.size + 1 ≤ w1.heap.size := Nat.le_trans hsz b1.size
        clear b1
        go_wp2_with (at_builtin; refine wpList_push rfl _ _ rfl w1 (w.heap.size + 1) _ (predsL j E x) (j : Int) k HK.out.symm (by omega) HO1.out hsz1 rfl rfl ?_; intro A2 c2 w2 HO2 HB2; (have HO2' := Lib.hid HO2); (have HB2' := Lib.hid HB2); clear HO2 HB2)
        go_roundw
        case rel => exact ⟨j + 1, k + 1, A2, c2, by omega, by omega, by go_num, rfl, Lib.hid (by rw [HST.out, List.length_append, HK.out]; rfl), Lib.hid (by rw [HST.out]; exact HO2'.out), Lib.hid (HB1.out.trans HB2'.out)⟩
        case measure => simp [intOf]; omega
      · rw [decide_eq_false he] at C1
        rw [if_neg he] at HST
        clear he
        go_wp2_with fail
        refine C1.out.mono ?_
        rintro e w1 ⟨rfl, b1⟩
        have HO1 := Lib.hid (HO.out.below b1)
        have HB1 := Lib.hid (HB.out.trans (b1.mono hsz))
        clear b1
        go_wp2
        go_roundw
        case rel => exact ⟨j + 1, k, A', c', by omega, by omega, by go_num, rfl, Lib.hid (by rw [HST.out, HK.out]), Lib.hid (by rw [HST.out]; exact HO1.out), HB1⟩
        case measure => simp [intOf]; omega
    · obtain rfl : j = n := by omega
      obtain ⟨A2, c2, he, hI⟩ := HO.out.slice
      have HI := Lib.hid hI
      have HE := Lib.hid he
      clear hI he
      go_wp2
      go_ret
      exact ⟨A2, c2, by rw [← HE.out]; rfl, HI.out, (below_alloc _).trans (HB.out.mono (by omega))⟩
end Go.Proofs.YtmmogdccjiagnaaDoor
set_option linter.unusedVariables false
namespace Go.Proofs.YtmmogdccjiagnaaDoor
open Go.RowKit

def RowV (g : Nat) (t : TypeId) (vs : List Value) (w : World) : Prop := w.heap[g]? = some (.cells vs.toArray t (0, 0))
theorem RowV.lt {g : Nat} {t : TypeId} {vs : List Value} {w : World} (h : RowV g t vs w) : g < w.heap.size := (Array.getElem?_eq_some_iff.1 h).1
theorem RowV.new (w : World) (t : TypeId) (vs : List Value) : RowV w.heap.size t vs (w.alloc (.cells vs.toArray t)) := heap_alloc_new w _
theorem RowV.cell {g : Nat} {t : TypeId} {vs : List Value} {w : World} (h : RowV g t vs w) {j : Nat} {v : Value} (hj : vs[j]? = some v) : w.cell? ⟨g, j, none⟩ = some v := by
  rw [cell_of_row _ _ _ _ _ _ h]
  simpa using hj
theorem RowV.frozen {g : Nat} {t : TypeId} {vs : List Value} {w : World} (h : RowV g t vs w) (j : Nat) : w.frozen? ⟨g, j, none⟩ = false := frozen_of_row _ _ _ _ _ h
theorem RowV.set {g : Nat} {t : TypeId} {vs : List Value} {w : World} (h : RowV g t vs w) (j : Nat) (v : Value) : RowV g t (vs.set j v) (w.setCell ⟨g, j, none⟩ v) := by
  have := heap_setCell_same w g j _ t v h
  unfold RowV
  rw [this]
  simp
theorem RowV.below {g : Nat} {t : TypeId} {vs : List Value} {w w' : World} {B : Nat} (h : RowV g t vs w) (hb : Below B w w') (hB : g < B) : RowV g t vs w' := by
  unfold RowV
  rw [hb.block g hB]
  exact h
theorem RowV.alloc {g : Nat} {t : TypeId} {vs : List Value} {w : World} (h : RowV g t vs w) (o : Obj) : RowV g t vs (w.alloc o) := by
  unfold RowV
  rw [Below.heap_alloc w o g h.lt]
  exact h
theorem bool_cell_info : (Tryd.prog.info? 4).map (fun i => (i.zero, i.size, i.bytes)) = some (some (.bool false), 1, 1) := by kernel_rfl
theorem make_bools (n : Nat) (hn : n ≤ 1000) (W : World) : (Instr.makeSlice 85 (.int .i64 n) (.int .i64 n)).run Tryd.prog W = .ok (.slice (some ⟨W.heap.size, 0, none⟩) n n) (W.alloc (.cells (List.replicate n (Value.bool false)).toArray 4)) := by
  obtain ⟨i0, hi, hz0, hz1, hz2⟩ : ∃ i, Tryd.prog.info? 4 = some i ∧ i.zero = some (.bool false) ∧ i.size = 1 ∧ i.bytes = 1 := by
    have h := bool_cell_info
    cases hi : Tryd.prog.info? 4 with
    | none => rw [hi] at h; cases h
    | some i =>
      rw [hi] at h
      simp at h
      exact ⟨i, rfl, h.1, h.2.1, h.2.2⟩
  have h := run_make (P := Tryd.prog) W 85 4 i0 (.bool false) Tryd.underlying85 hi hz0 .i64 .i64 n n (by omega) (by omega) (by rw [hz2]; omega) (by omega)
  rw [hz1] at h
  have e : madeCells (Value.bool false).cells (((n : Int)).toNat * 1) = (List.replicate n (Value.bool false)).toArray := by
    apply Array.toList_inj.mp
    rw [show (Value.bool false).cells = #[Value.bool false] from rfl, toList_madeCells_one]
    simp
  rw [e] at h
  exact h
end Go.Proofs.YtmmogdccjiagnaaDoor
set_option linter.unusedVariables false
namespace Go.Proofs.YtmmogdccjiagnaaDoor
open Go.RowKit

theorem roundR_snoc {a : Nat} {E : List (Int × Int)} {i : Nat} {e : Int × Int} (out : List Bool) (h : E[i]? = some e) : roundR a (E.take (i + 1)) out = relaxR a (roundR a (E.take i) out) e := by
  rw [take_snoc' h]
  unfold roundR
  rw [List.foldl_append]
  rfl
theorem fits_nat {n : Nat} {E : List (Int × Int)} (hF : Fits n E) {i : Nat} {e : Int × Int} (h : E[i]? = some e) : ∃ x y : Nat, e = ((x : Int), (y : Int)) ∧ x < n ∧ y < n := by
  have := hF e (List.mem_of_getElem? h)
  refine ⟨e.1.toNat, e.2.toNat, ?_, by omega, by omega⟩
  cases e
  simp only at this
  simp only [Prod.mk.injEq]
  omega
def bools (l : List Bool) : List Value := l.map Value.bool
theorem bools_at {l : List Bool} {j : Nat} (h : j < l.length) : (bools l)[j]? = some (.bool (l.getD j false)) := by
  unfold bools
  rw [List.getElem?_map, List.getElem?_eq_getElem h, List.getD_eq_getElem?_getD, List.getElem?_eq_getElem h]
  rfl
theorem bools_set (l : List Bool) (j : Nat) (b : Bool) : bools (l.set j b) = (bools l).set j (.bool b) := by unfold bools; rw [List.map_set]
theorem relaxR_length (a : Nat) (out : List Bool) (e : Int × Int) : (relaxR a out e).length = out.length := ((relaxR_le a out e).1).symm
theorem roundR_length (a : Nat) (E : List (Int × Int)) (out : List Bool) : (roundR a E out).length = out.length := ((roundR_le a E out).1).symm
/-- A new row of bools, handed out. -/
def GotBools (l : List Bool) (w : World) (e : Ending) (w' : World) : Prop :=
  ∃ g c, e = .returned (.slice (some ⟨g, 0, none⟩) l.length c) ∧ w.heap.size ≤ g ∧ RowV g 4 (bools l) w' ∧ Below w.heap.size w w'

set_option maxRecDepth 100000 in
set_option maxHeartbeats 4000000 in
theorem reach_any (A F : Option Addr) (n c m d : Nat) (E : List (Int × Int)) (a : Nat) (w : World) (hl : n ≤ 1000) (hm : E.length = m) (hk : m ≤ 1000) (ha : a ≤ 1000) (hF : Fits n E) (hP : Pairs w w.heap.size F E) :
    Calls Tryd.prog 66 #[.agg #[.slice A n c, .slice F m d], .int .i64 a] w (GotBools (reach n E a) w) := by
  have HP := Lib.hid hP
  have HM := Lib.hid hm
  have HF := Lib.hid hF
  have hmk := fun W => make_bools n hl W
  obtain ⟨w0, hw0⟩ : ∃ w0, w0 = w.alloc (.cells #[.slice A n c, .slice F m d] 25) := ⟨_, rfl⟩
  have HW0 := Lib.hid hw0
  clear hP hm hF hw0
  go_enter Tryd.func66, Tryd.ntmps66
  go_wp2
  have h0 : RowV (w.heap.size + 1) 4 (bools (reachK n E a 0)) ((w.alloc (.cells #[.slice A n c, .slice F m d] 25)).alloc (.cells (List.replicate n (Value.bool false)).toArray 4)) := by
    have h := RowV.new (w.alloc (.cells #[.slice A n c, .slice F m d] 25)) 4 (List.replicate n (Value.bool false))
    rw [show (w.alloc (.cells #[.slice A n c, .slice F m d] 25)).heap.size = w.heap.size + 1 by simp] at h
    rw [show bools (reachK n E a 0) = List.replicate n (Value.bool false) by unfold bools reachK; rw [List.map_replicate]]
    exact h
  have H0 := Lib.hid h0
  clear h0
  go_loopw [6] (fun k wr => ∃ j : Nat, j ≤ n ∧ k = .int .i64 j ∧ Hid (RowV (w.heap.size + 1) 4 (bools (reachK n E a j)) wr) ∧ Hid (Below (w.heap.size + 1) w0 wr)) (fun k _ => n - (intOf k).toNat)
  case atStart => exact ⟨0, Nat.zero_le _, rfl, H0, Lib.hid (by rw [HW0.out]; exact (Below.refl _ _).alloc (by simp) _)⟩
  case round =>
    obtain ⟨j, hj, rfl, HV, HB⟩ := hrel
    have hbox0 : wr.cell? ⟨w.heap.size, 0, none⟩ = some (.slice A n c) := (HB.out.cell (Nat.lt_succ_self _)).trans (by rw [HW0.out, World.cell?_alloc_at _ _ _ _ rfl]; rfl)
    have hbox1 : wr.cell? ⟨w.heap.size, 1, none⟩ = some (.slice F m d) := (HB.out.cell (Nat.lt_succ_self _)).trans (by rw [HW0.out, World.cell?_alloc_at _ _ _ _ rfl]; rfl)
    by_cases hlt : j < n
    · go_wp2
      go_loopw [7] (fun i wi => ∃ k : Nat, k ≤ m ∧ i = .int .i64 k ∧ Hid (RowV (w.heap.size + 1) 4 (bools (roundR a (E.take k) (reachK n E a j))) wi) ∧ Hid (Below (w.heap.size + 1) w0 wi)) (fun i _ => m - (intOf i).toNat)
      case atStart => exact ⟨0, Nat.zero_le _, rfl, HV, HB⟩
      case round =>
        obtain ⟨k, hk2, rfl, HV2, HB2⟩ := hrel
        have hbox2 : wr.cell? ⟨w.heap.size, 0, none⟩ = some (.slice A n c) := (HB2.out.cell (Nat.lt_succ_self _)).trans (by rw [HW0.out, World.cell?_alloc_at _ _ _ _ rfl]; rfl)
        have hbox3 : wr.cell? ⟨w.heap.size, 1, none⟩ = some (.slice F m d) := (HB2.out.cell (Nat.lt_succ_self _)).trans (by rw [HW0.out, World.cell?_alloc_at _ _ _ _ rfl]; rfl)
        by_cases hlt2 : k < m
        · obtain ⟨bk, o, e, rfl, hbg, hek, hc1, hc2⟩ := HP.out.at_ (k := k) (by rw [HM.out]; exact hlt2)
          obtain ⟨x, y, rfl, hx, hy⟩ := fits_nat HF.out hek
          simp only at hc1 hc2
          have hd1 : wr.cell? ⟨bk, o + k * 2, none⟩ = some (.int .i64 x) := (HB2.out.cell (by show bk < _; omega)).trans (by rw [HW0.out, World.cell?_alloc_lt _ _ _ hbg]; exact hc1)
          have hd2 : wr.cell? ⟨bk, o + k * 2 + 1, none⟩ = some (.int .i64 y) := (HB2.out.cell (by show bk < _; omega)).trans (by rw [HW0.out, World.cell?_alloc_lt _ _ _ hbg]; exact hc2)
          obtain ⟨out, hout⟩ : ∃ out, out = roundR a (E.take k) (reachK n E a j) := ⟨_, rfl⟩
          have hol : out.length = n := by rw [hout, roundR_length, reachK_length]
          have HN := Lib.hid (roundR_snoc (a := a) (reachK n E a j) hek)
          rw [← hout] at HN HV2
          have ho1 := HV2.out.cell (bools_at (l := out) (j := x) (by rw [hol]; exact hx))
          have ho2 := HV2.out.cell (bools_at (l := out) (j := y) (by rw [hol]; exact hy))
          have hof := HV2.out.frozen y
          have hgl : w.heap.size + 1 < wr.heap.size := HV2.out.lt
          have HOL := Lib.hid hol
          clear hc1 hc2 hek hout hol
          by_cases h1 : x = a
          · subst h1
            have HN2 := Lib.hid (show roundR x (E.take (k + 1)) (reachK n E x j) = out.set y true by
              rw [HN.out]
              unfold relaxR
              rw [if_pos (.inl rfl)]
              simp)
            go_wp2
            go_roundw
            case rel => exact ⟨k + 1, by omega, by go_num, Lib.hid (by rw [HN2.out, bools_set]; exact (HV2.out.set y _).alloc _), Lib.hid ((HB2.out.setCell (Nat.le_refl _) _).alloc (by simp [World.setCell]; omega) _)⟩
            case measure => simp [intOf]; omega
          · have h2 : ((x : Int) == (a : Int)) = false := by simpa using fun e => h1 (Int.ofNat_inj.mp e)
            have H1 := Lib.hid h1
            clear h1
            cases hox : out.getD x false with
            | true =>
              have HN2 := Lib.hid (show roundR a (E.take (k + 1)) (reachK n E a j) = out.set y true by
                rw [HN.out]
                unfold relaxR
                rw [if_pos (.inr (by simpa using hox))]
                simp)
              rw [hox] at ho1
              clear hox
              go_wp2
              go_roundw
              case rel => exact ⟨k + 1, by omega, by go_num, Lib.hid (by rw [HN2.out, bools_set]; exact (HV2.out.set y _).alloc _), Lib.hid ((HB2.out.setCell (Nat.le_refl _) _).alloc (by simp [World.setCell]; omega) _)⟩
              case measure => simp [intOf]; omega
            | false =>
              have HN2 := Lib.hid (show roundR a (E.take (k + 1)) (reachK n E a j) = out by
                rw [HN.out]
                unfold relaxR
                rw [if_neg]
                rintro (h | h)
                · exact H1.out (Int.ofNat_inj.mp h)
                · simp only [Int.toNat_natCast] at h
                  rw [hox] at h
                  cases h)
              rw [hox] at ho1
              clear hox
              go_wp2
              go_roundw
              case rel => exact ⟨k + 1, by omega, by go_num, Lib.hid (by rw [HN2.out]; exact HV2.out.alloc _), Lib.hid (HB2.out.alloc (by omega) _)⟩
              case measure => simp [intOf]; omega
        · obtain rfl : k = m := by omega
          have HT : Hid (reachK n E a (j + 1) = roundR a (E.take k) (reachK n E a j)) := Lib.hid (by rw [List.take_of_length_le (by rw [HM.out]; omega)]; rfl)
          go_wp2
          go_roundw
          case rel => exact ⟨j + 1, by omega, by go_num, Lib.hid (by rw [HT.out]; exact HV2.out), HB2⟩
          case measure => simp [intOf]; omega
    · obtain rfl : j = n := by omega
      have HLEN := Lib.hid (reachK_length j E a j)
      go_wp2
      go_ret
      exact ⟨w.heap.size + 1, j, by rw [show (reach j E a).length = j from HLEN.out]; rfl, by omega, HV.out, ((below_alloc _).trans (by rw [← HW0.out]; exact HB.out.mono (by omega)))⟩
end Go.Proofs.YtmmogdccjiagnaaDoor
set_option linter.unusedVariables false
namespace Go.Proofs.YtmmogdccjiagnaaDoor
open Go.RowKit

def EdgesOk (n : Nat) (E : List (Int × Int)) : Prop := Fits n E ∧ (∀ e ∈ E, e.1 ≠ e.2) ∧ E.Nodup
theorem edgesOk_snoc {n : Nat} {E : List (Int × Int)} {j : Nat} {e : Int × Int} (h : E[j]? = some e) : EdgesOk n (E.take (j + 1)) ↔ EdgesOk n (E.take j) ∧ (0 ≤ e.1 ∧ e.1 < n) ∧ (0 ≤ e.2 ∧ e.2 < n) ∧ e.1 ≠ e.2 ∧ e ∉ E.take j := by
  rw [take_snoc' h]
  unfold EdgesOk Fits
  rw [List.nodup_append]
  constructor
  · rintro ⟨k1, k2, k3⟩
    have q := k1 e (by simp)
    refine ⟨⟨fun x hx => k1 x (by simp [hx]), fun x hx => k2 x (by simp [hx]), k3.1⟩, ⟨q.1, q.2.1⟩, q.2.2, k2 e (by simp), fun hm => k3.2.2 e hm e (by simp) rfl⟩
  · rintro ⟨⟨k1, k2, k3⟩, q1, q2, q3, q4⟩
    refine ⟨fun x hx => ?_, fun x hx => ?_, k3, by simp, fun a ha b hb => ?_⟩
    · rcases List.mem_append.mp hx with hx | hx
      · exact k1 x hx
      · obtain rfl : x = e := by simpa using hx
        exact ⟨q1.1, q1.2, q2.1, q2.2⟩
    · rcases List.mem_append.mp hx with hx | hx
      · exact k2 x hx
      · obtain rfl : x = e := by simpa using hx
        exact q3
    · obtain rfl : b = e := by simpa using hb
      exact fun h => q4 (h ▸ ha)
theorem edgesOk_take {n : Nat} {E : List (Int × Int)} (h : EdgesOk n E) (j : Nat) : EdgesOk n (E.take j) :=
  ⟨fun e he => h.1 e (List.mem_of_mem_take he), fun e he => h.2.1 e (List.mem_of_mem_take he), h.2.2.sublist (List.take_sublist j E)⟩
end Go.Proofs.YtmmogdccjiagnaaDoor
