/- Words for a memory that is written in place, in the seat YtkmajhbfmdoamaaGreatDoor.
   eval.settle in the seat YtkmajhbfmdoamaaGreatDoor: its contract.
   No statement is proved here. -/
import Derived.Test.YtkmajhbfmdoamaaGreatDoorZEvalNew
import Derived.Test.YtkmajhbfmdoamaaGreatDoorZEvalComeAll
import Derived.Test.YtkmajhbfmdoamaaGreatDoorZM29
import Derived.Test.YtkmajhbfmdoamaaGreatDoorZM4
set_option linter.unusedSimpArgs false
set_option linter.unusedVariables false
namespace Go.Proofs.YtkmajhbfmdoamaaGreatDoor
open Go.RowKit

/-- A block whose first cells are these. -/
def RowC (g : Nat) (t : TypeId) (xs : List Value) (w : World) : Prop := ∃ tl : List Value, w.heap[g]? = some (.cells (xs ++ tl).toArray t (0, 0))
section
variable {g : Nat} {t : TypeId} {xs : List Value} {w w' : World}
theorem RowC.lt (h : RowC g t xs w) : g < w.heap.size := by
  obtain ⟨tl, h⟩ := h
  exact (Array.getElem?_eq_some_iff.1 h).1
theorem RowC.same (h : RowC g t xs w) (hk : w'.heap[g]? = w.heap[g]?) : RowC g t xs w' := by
  obtain ⟨tl, h⟩ := h
  exact ⟨tl, by rw [hk]; exact h⟩
theorem RowC.below {B : Nat} (h : RowC g t xs w) (hb : Below B w w') (hB : g < B) : RowC g t xs w' := h.same (hb.block g hB)
theorem RowC.cell (h : RowC g t xs w) {j : Nat} {v : Value} (hj : xs[j]? = some v) : w.cell? ⟨g, j, none⟩ = some v := by
  obtain ⟨tl, h⟩ := h
  have hl := (List.getElem?_eq_some_iff.mp hj).1
  rw [cell_of_row _ _ _ _ _ _ h, List.getElem?_toArray, List.getElem?_append_left hl]
  exact hj
theorem RowC.frozen (h : RowC g t xs w) (j : Nat) : w.frozen? ⟨g, j, none⟩ = false := by
  obtain ⟨tl, h⟩ := h
  exact frozen_of_row _ _ _ _ _ h
theorem RowC.set (h : RowC g t xs w) {j : Nat} (hj : j < xs.length) (v : Value) : RowC g t (xs.set j v) (w.setCell ⟨g, j, none⟩ v) := by
  obtain ⟨tl, h⟩ := h
  have := heap_setCell_same w g j _ t v h
  refine ⟨tl, ?_⟩
  rw [this]
  simp [hj]
theorem RowV.rowC (h : RowV g t xs w) : RowC g t xs w := ⟨[], by rw [List.append_nil]; exact h⟩
theorem RowC.ne {t' : TypeId} {g' : Nat} {ys : List Value} (h : RowC g t xs w) (h' : RowC g' t' ys w) (ht : t ≠ t') : g ≠ g' := fun e => by
  subst e
  obtain ⟨tl, h⟩ := h
  obtain ⟨tl', h'⟩ := h'
  rw [h] at h'
  injection h' with h'
  injection h' with _ h2 _
  exact ht h2
end
theorem own_rowC {w : World} {base : Nat} {t : TypeId} {n k c : Nat} {ad : Addr} {xs : List Value} (h : w.ownsRow base t 1 (.slice (some ad) k c) n xs) : ∃ g, ad = ⟨g, 0, none⟩ ∧ base ≤ g ∧ RowC g t xs w := by
  rcases h.2 with ⟨e, _⟩ | ⟨g, cap, cur, e, hg, hgg, hnc, hcm, hcs, htake⟩
  · cases e
  · injection e with e1 e2 e3
    injection e1 with e1
    subst e1
    refine ⟨g, rfl, hg, cur.toList.drop (n * 1), ?_⟩
    rw [← htake, List.take_append_drop]
    exact hgg
/-- Two blocks at most are otherwise; and new ones. -/
structure Only (gD gV : Nat) (w w' : World) : Prop where
  os : w'.os = w.os
  tape : w'.tape = w.tape
  output : w'.output = w.output
  size : w.heap.size ≤ w'.heap.size
  block : ∀ k, k < w.heap.size → k ≠ gD → k ≠ gV → w'.heap[k]? = w.heap[k]?
section
variable {gD gV : Nat} {w w1 w2 : World}
theorem Only.refl (gD gV : Nat) (w : World) : Only gD gV w w := ⟨rfl, rfl, rfl, Nat.le_refl _, fun _ _ _ _ => rfl⟩
theorem Only.trans (h : Only gD gV w w1) (k : Only gD gV w1 w2) : Only gD gV w w2 :=
  ⟨k.os.trans h.os, k.tape.trans h.tape, k.output.trans h.output, Nat.le_trans h.size k.size, fun i hi h1 h2 => (k.block i (Nat.lt_of_lt_of_le hi h.size) h1 h2).trans (h.block i hi h1 h2)⟩
theorem Only.more (h : Only gD gV w w1) (k : Below w1.heap.size w1 w2) : Only gD gV w w2 :=
  h.trans ⟨k.os, k.tape, k.output, k.size, fun i hi _ _ => k.block i hi⟩
theorem Only.setD (h : Only gD gV w w1) (j : Nat) (v : Value) : Only gD gV w (w1.setCell ⟨gD, j, none⟩ v) :=
  h.trans ⟨rfl, rfl, rfl, by simp [World.setCell], fun i hi h1 _ => heap_setCell_other _ _ _ _ h1⟩
theorem Only.setV (h : Only gD gV w w1) (j : Nat) (v : Value) : Only gD gV w (w1.setCell ⟨gV, j, none⟩ v) :=
  h.trans ⟨rfl, rfl, rfl, by simp [World.setCell], fun i hi _ h2 => heap_setCell_other _ _ _ _ h2⟩
theorem Only.below {B : Nat} (h : Only gD gV w w1) (hB : B ≤ w.heap.size) (hD : B ≤ gD) (hV : B ≤ gV) : Below B w w1 :=
  ⟨h.os, h.tape, h.output, h.size, fun k hk => h.block k (by omega) (by omega) (by omega)⟩
end
/-- A memory in two blocks that came behind a world. -/
structure StM (wb : World) (gD gV : Nat) (D : List Bool) (V : List Int) (w : World) : Prop where
  bel : Below wb.heap.size wb w
  leD : wb.heap.size ≤ gD
  leV : wb.heap.size ≤ gV
  rD : RowC gD 4 (boolsV D) w
  rV : RowC gV 3 (intsV V) w
section
variable {wb : World} {gD gV : Nat} {D : List Bool} {V : List Int} {w w1 w2 : World}
theorem boolsV_len (l : List Bool) : (boolsV l).length = l.length := by unfold boolsV; rw [List.length_map]
theorem intsV_len (l : List Int) : (intsV l).length = l.length := by unfold intsV; rw [List.length_map]
theorem StM.ne (h : StM wb gD gV D V w) : gD ≠ gV := h.rD.ne h.rV (by decide)
theorem StM.next (h : StM wb gD gV D V w1) (b : Below w1.heap.size w1 w2) : StM wb gD gV D V w2 :=
  ⟨h.bel.trans (b.mono h.bel.size), h.leD, h.leV, h.rD.below b h.rD.lt, h.rV.below b h.rV.lt⟩
theorem StM.setD (h : StM wb gD gV D V w) {j : Nat} (hj : j < D.length) (z : Bool) : StM wb gD gV (D.set j z) V (w.setCell ⟨gD, j, none⟩ (.bool z)) :=
  ⟨h.bel.setCell h.leD _, h.leD, h.leV, by rw [boolsV_set]; exact h.rD.set (by rw [boolsV_len]; exact hj) _, h.rV.same (heap_setCell_other _ _ _ _ h.ne.symm)⟩
theorem StM.setV (h : StM wb gD gV D V w) {j : Nat} (hj : j < V.length) (z : Int) : StM wb gD gV D (V.set j z) (w.setCell ⟨gV, j, none⟩ (.int .i64 z)) :=
  ⟨h.bel.setCell h.leV _, h.leD, h.leV, h.rD.same (heap_setCell_other _ _ _ _ h.ne), by rw [intsV_set]; exact h.rV.set (by rw [intsV_len]; exact hj) _⟩
theorem OwnV.same {w' : World} {b n : Nat} {DM : DataW Unit} (h : OwnV w b n DM) (hk : w'.heap[b]? = w.heap[b]?) : OwnV w' b n DM := by
  obtain ⟨es, clock, hb', F, hs, hD⟩ := h
  exact ⟨es, clock, by rw [hk]; exact hb', F, hs, hD⟩
theorem OwnV.ne {b n g : Nat} {t : TypeId} {xs : List Value} {DM : DataW Unit} (h : OwnV w b n DM) (hr : RowC g t xs w) : b ≠ g := fun e => by
  subst e
  obtain ⟨es, clock, hb', _⟩ := h
  obtain ⟨tl, hr⟩ := hr
  rw [hb'] at hr
  cases hr
theorem StM.isM (h : StM wb gD gV D V w) {n m cD cV : Nat} (hn : D.length = n) (hm : V.length = m) (l1 : n ≤ 400) (l2 : m ≤ 400) : IsM w (some ⟨gD, 0, none⟩) n cD (some ⟨gV, 0, none⟩) m cV D V :=
  ⟨hn, hm, l1, l2, fun _ => ⟨gD, 0, rfl, h.rD.lt, fun k hk => by rw [Nat.zero_add]; exact h.rD.cell (boolsV_at hk)⟩, fun _ => ⟨gV, 0, rfl, h.rV.lt, fun k hk => by rw [Nat.zero_add]; exact h.rV.cell (intsV_at hk)⟩, fun e => (by cases e), fun e => (by cases e)⟩
end
end Go.Proofs.YtkmajhbfmdoamaaGreatDoor
set_option linter.unusedVariables false
namespace Go.Proofs.YtkmajhbfmdoamaaGreatDoor
open Go.RowKit

theorem feedsL_len8 (es : List (Int × Int)) (fs : List (Int × Int × Int)) (x : Int) : (feedsL es fs x).length ≤ es.length + fs.length := by
  unfold feedsL feF
  rw [List.length_append, List.length_map]
  have h1 := feE_len es x
  have h2 := touK_len fs x 99
  show _ + (touK fs x 99).length ≤ _
  omega
/-- A store of an integer. -/
theorem ox_store1 {o : Oper} {a : Act} {x : World} {K : Act → World → Prop} {Q : Exit → Act → World → Prop} {s y : Operand} {g j : Nat} {z : Int} {v0 : Value} (hop : o.op = .store 3 s y) (hdst : o.dst = none)
    (hs : a.eval s = .pointer (some ⟨g, j, none⟩)) (hy : a.eval y = .int .i64 z) (hc : x.cell? ⟨g, j, none⟩ = some v0) (hf : x.frozen? ⟨g, j, none⟩ = false)
    (hK : K a (x.setCell ⟨g, j, none⟩ (.int .i64 z))) : o.wp Tryz.prog a x K Q := by
  have hr : (execOp a.eval o).run Tryz.prog x = .ok .skip (x.setCell ⟨g, j, none⟩ (.int .i64 z)) := by
    simp only [execOp, hop]
    rw [hs, hy]
    simp [go_sem, hc, hf]
  unfold Oper.wp
  rw [hr, Oper.upon_skip, hdst]
  exact hK
set_option maxRecDepth 100000 in
theorem idx_eqP8 {ρ : Operand → Value} {o : Oper} {x y : Operand} {lb lo n c k : Nat} {w : World} (ho : o.op = .indexAddr 22 x y) (hx : ρ x = .slice (some ⟨lb, lo, none⟩) n c) (hy : ρ y = .int .i64 (k : Int)) (hk : k < n) :
    (execOp ρ o).run Tryz.prog w = .ok (.value (.pointer (some ⟨lb, lo + k * 3, none⟩))) w := by
  have hk2 : (k : Int) < (n : Int) := by omega
  simp [execOp, ho, hx, hy, hk2, go_sem]
section
variable {s : Sh} {T : Task} {A1 : Option Addr} {nw c1 : Nat} {F1 : Option Addr} {nE d1 : Nat} {R1 : Option Addr} {nP e1 : Nat} {b kk : Nat} {DM : DataW Unit} {gD gV n m cD cV : Nat} {wb : World}
/-- The boxes of settle. -/
structure BxSt (w wb : World) (s : Sh) (T : Task) (A1 : Option Addr) (nw c1 : Nat) (F1 : Option Addr) (nE d1 : Nat) (R1 : Option Addr) (nP e1 : Nat) (b kk : Nat) (DM : DataW Unit) (gD gV n m cD cV : Nat) (D : List Bool) (V : List Int) (w' : World) : Prop where
  ltD : gD < w.heap.size
  ltV : gV < w.heap.size
  cd : CellsD w' s T.period T.deadline w.heap.size
  l0 : w'.cell? ⟨w.heap.size + 1, 0, none⟩ = some (.slice A1 nw c1)
  l1 : w'.cell? ⟨w.heap.size + 1, 1, none⟩ = some (.slice F1 nE d1)
  l2 : w'.cell? ⟨w.heap.size + 1, 2, none⟩ = some (.slice R1 nP e1)
  m0 : w'.cell? ⟨w.heap.size + 1 + 1, 0, none⟩ = some (.slice (some ⟨gD, 0, none⟩) n cD)
  m1 : w'.cell? ⟨w.heap.size + 1 + 1, 1, none⟩ = some (.slice (some ⟨gV, 0, none⟩) m cV)
  st : StM wb gD gV D V w'
  ov : OwnV w' b kk DM
  on : Only gD gV w w'
theorem BxSt.next {w w1 w2 : World} {D : List Bool} {V : List Int} (h : BxSt w wb s T A1 nw c1 F1 nE d1 R1 nP e1 b kk DM gD gV n m cD cV D V w1) (hb : Below w1.heap.size w1 w2) : BxSt w wb s T A1 nw c1 F1 nE d1 R1 nP e1 b kk DM gD gV n m cD cV D V w2 :=
  ⟨h.ltD, h.ltV, h.cd.next hb, (hb.cell (World.block_lt_of_cell? _ _ h.l0)).trans h.l0, (hb.cell (World.block_lt_of_cell? _ _ h.l1)).trans h.l1, (hb.cell (World.block_lt_of_cell? _ _ h.l2)).trans h.l2, (hb.cell (World.block_lt_of_cell? _ _ h.m0)).trans h.m0, (hb.cell (World.block_lt_of_cell? _ _ h.m1)).trans h.m1, h.st.next hb, h.ov.below hb, h.on.more hb⟩
theorem BxSt.setD {w w1 : World} {D : List Bool} {V : List Int} (h : BxSt w wb s T A1 nw c1 F1 nE d1 R1 nP e1 b kk DM gD gV n m cD cV D V w1) {j : Nat} (hj : j < D.length) (z : Bool) : BxSt w wb s T A1 nw c1 F1 nE d1 R1 nP e1 b kk DM gD gV n m cD cV (D.set j z) V (w1.setCell ⟨gD, j, none⟩ (.bool z)) := by
  have hd := h.ltD
  have q : ∀ k i, w.heap.size ≤ k → (w1.setCell ⟨gD, j, none⟩ (.bool z)).cell? ⟨k, i, none⟩ = w1.cell? ⟨k, i, none⟩ := fun k i hk => cell_same (heap_setCell_other _ _ _ _ (by show k ≠ gD; omega))
  exact ⟨h.ltD, h.ltV, ⟨(q _ _ (by omega)).trans h.cd.1, (q _ _ (by omega)).trans h.cd.2.1, (q _ _ (by omega)).trans h.cd.2.2.1, (q _ _ (by omega)).trans h.cd.2.2.2.1, (q _ _ (by omega)).trans h.cd.2.2.2.2.1, (q _ _ (by omega)).trans h.cd.2.2.2.2.2⟩,
    (q _ _ (by omega)).trans h.l0, (q _ _ (by omega)).trans h.l1, (q _ _ (by omega)).trans h.l2, (q _ _ (by omega)).trans h.m0, (q _ _ (by omega)).trans h.m1, h.st.setD hj z, h.ov.same (heap_setCell_other _ _ _ _ (h.ov.ne h.st.rD)), h.on.setD j _⟩
theorem BxSt.start {w : World} {D : List Bool} {V : List Int} (hS : StM wb gD gV D V w) (hO : OwnV w b kk DM) :
    BxSt w wb s T A1 nw c1 F1 nE d1 R1 nP e1 b kk DM gD gV n m cD cV D V (((w.alloc (.cells #[.int .i64 T.period, .int .i64 T.deadline, .slice s.P s.np s.pc, .slice s.E s.ne s.ec, .slice s.F s.nf s.fc, .slice s.R s.nr s.rc] 27)).alloc (.cells #[.slice A1 nw c1, .slice F1 nE d1, .slice R1 nP e1] 60)).alloc (.cells #[.slice (some ⟨gD, 0, none⟩) n cD, .slice (some ⟨gV, 0, none⟩) m cV] 31)) := by
  have x1 := heap_alloc_new w (.cells #[.int .i64 T.period, .int .i64 T.deadline, .slice s.P s.np s.pc, .slice s.E s.ne s.ec, .slice s.F s.nf s.fc, .slice s.R s.nr s.rc] 27)
  obtain ⟨v1, hv1⟩ : ∃ v1, v1 = w.alloc (.cells #[.int .i64 T.period, .int .i64 T.deadline, .slice s.P s.np s.pc, .slice s.E s.ne s.ec, .slice s.F s.nf s.fc, .slice s.R s.nr s.rc] 27) := ⟨_, rfl⟩
  have s1 : v1.heap.size = w.heap.size + 1 := by rw [hv1]; simp
  have hb1 : Below w.heap.size w v1 := by rw [hv1]; exact below_alloc _
  rw [← hv1] at x1 ⊢
  have x2 := heap_alloc_new v1 (.cells #[.slice A1 nw c1, .slice F1 nE d1, .slice R1 nP e1] 60)
  obtain ⟨v2, hv2⟩ : ∃ v2, v2 = v1.alloc (.cells #[.slice A1 nw c1, .slice F1 nE d1, .slice R1 nP e1] 60) := ⟨_, rfl⟩
  have s2 : v2.heap.size = w.heap.size + 1 + 1 := by rw [hv2]; simp [s1]
  have hb2 : Below v1.heap.size v1 v2 := by rw [hv2]; exact below_alloc _
  rw [← hv2] at x2 ⊢
  rw [s1] at x2
  have x3 := heap_alloc_new v2 (.cells #[.slice (some ⟨gD, 0, none⟩) n cD, .slice (some ⟨gV, 0, none⟩) m cV] 31)
  obtain ⟨v3, hv3⟩ : ∃ v3, v3 = v2.alloc (.cells #[.slice (some ⟨gD, 0, none⟩) n cD, .slice (some ⟨gV, 0, none⟩) m cV] 31) := ⟨_, rfl⟩
  have hb3 : Below v2.heap.size v2 v3 := by rw [hv3]; exact below_alloc _
  rw [← hv3] at x3 ⊢
  rw [s2] at x3
  have k1 : v3.heap[w.heap.size]? = some (.cells #[.int .i64 T.period, .int .i64 T.deadline, .slice s.P s.np s.pc, .slice s.E s.ne s.ec, .slice s.F s.nf s.fc, .slice s.R s.nr s.rc] 27 (0, 0)) := by rw [hb3.block _ (by omega), hb2.block _ (by omega)]; exact x1
  have k2 : v3.heap[w.heap.size + 1]? = some (.cells #[.slice A1 nw c1, .slice F1 nE d1, .slice R1 nP e1] 60 (0, 0)) := by rw [hb3.block _ (by omega)]; exact x2
  have hb : Below w.heap.size w v3 := (hb1.trans (hb2.mono hb1.size)).trans (hb3.mono (by omega))
  refine ⟨hS.rD.lt, hS.rV.lt, ⟨?_, ?_, ?_, ?_, ?_, ?_⟩, ?_, ?_, ?_, ?_, ?_, hS.next hb, hO.below hb, (Only.refl gD gV w).more hb⟩
  all_goals first
    | (rw [cell_of_row _ _ _ _ _ _ k1]; rfl)
    | (rw [cell_of_row _ _ _ _ _ _ k2]; rfl)
    | (rw [cell_of_row _ _ _ _ _ _ x3]; rfl)
/-- What the operations of settle's last region have yielded. -/
def SetF (hb : Nat) (gV m cV bp op np pc x : Nat) (p1 p2 p3 : Int) (b : Nat) (Av : Option Addr) (k cv : Nat) (z : Int) : Nat → Value → World → Prop
  | 0, v, _ => v = .pointer (some ⟨hb + 1 + 1, 1, none⟩)
  | 1, v, _ => v = .slice (some ⟨gV, 0, none⟩) m cV
  | 2, v, _ => v = .int .i64 (x : Int)
  | 3, v, _ => v = .pointer (some ⟨hb, 2, none⟩)
  | 4, v, _ => v = .slice (some ⟨bp, op, none⟩) np pc
  | 5, v, _ => v = .int .i64 (x : Int)
  | 6, v, _ => v = .pointer (some ⟨bp, op + x * 3, none⟩)
  | 7, v, _ => v = .agg #[.int .i64 p1, .int .i64 p2, .int .i64 p3]
  | 8, v, _ => v = .map (some b)
  | 9, v, _ => v = .slice Av k cv
  | 10, v, _ => v = .int .i64 z
  | 11, v, _ => v = .pointer (some ⟨gV, 0 + x, none⟩)
  | _, _, _ => True
theorem setF_keep {hb gV m cV bp op np pc x : Nat} {p1 p2 p3 : Int} {b : Nat} {Av : Option Addr} {k cv : Nat} {z : Int} : ∀ q v w w', SetF hb gV m cV bp op np pc x p1 p2 p3 b Av k cv z q v w → SetF hb gV m cV bp op np pc x p1 p2 p3 b Av k cv z q v w'
  | 0, _, _, _, h | 1, _, _, _, h | 2, _, _, _, h | 3, _, _, _, h | 4, _, _, _, h | 5, _, _, _, h | 6, _, _, _, h | 7, _, _, _, h | 8, _, _, _, h | 9, _, _, _, h | 10, _, _, _, h | 11, _, _, _, h => h
  | _ + 12, _, _, _, _ => trivial
set_option maxRecDepth 100000 in
set_option maxHeartbeats 16000000 in
theorem settle_any {inp : List Int} {D : List Bool} {V : List Int} {node : Nat} (w : World) (hok : LowOk T) (hD : IsD wb s T) (hL : IsL wb A1 nw c1 F1 nE d1 R1 nP e1 (lowW T) (lowE T) (lowP T)) (hS : StM wb gD gV D V w) (hO : OwnV w b kk DM) (hT : TellsI DM inp)
    (hDl : D.length = n) (hn : n = (lowP T).length) (hVl : V.length = m) (hm : m = T.parts.length) (hnode : node < n) :
    Calls Tryz.prog 24 #[s.arg T.period T.deadline, .agg #[.slice A1 nw c1, .slice F1 nE d1, .slice R1 nP e1], .map (some b), .agg #[.slice (some ⟨gD, 0, none⟩) n cD, .slice (some ⟨gV, 0, none⟩) m cV], .int .i64 (node : Int)] w
      fun e w' => e = .returned (.tuple #[]) ∧ StM wb gD gV (D.set node true) (settleV T inp V node) w' ∧ Only gD gV w w' := by
  have hB0 := BxSt.start (s := s) (T := T) (A1 := A1) (nw := nw) (c1 := c1) (F1 := F1) (nE := nE) (d1 := d1) (R1 := R1) (nP := nP) (e1 := e1) (n := n) (m := m) (cD := cD) (cV := cV) hS hO
  have hB1 := hB0.setD (j := node) (by rw [hDl]; exact hnode) true
  have HIL := Lib.hid (fun W (h : Below wb.heap.size wb W) => hL.below h)
  have HID := Lib.hid (fun W (h : Below wb.heap.size wb W) => hD.below h)
  obtain ⟨⟨p, p'⟩, hpp⟩ : ∃ pp, (lowP T).getD node (0, 0) = pp := ⟨_, rfl⟩
  have hpe : (lowP T)[node]? = some (p, p') := by
    rw [List.getD_eq_getElem?_getD, List.getElem?_eq_getElem (by omega)] at hpp
    rw [List.getElem?_eq_getElem (by omega)]
    exact congrArg some hpp
  have hpc : (p = -1) ∨ ∃ x, x < T.parts.length ∧ p = ((x : Nat) : Int) := by
    rcases piece_at (T := T) (m := node) (by omega) with ⟨h, _⟩ | ⟨x, i, hx, _, _, h⟩
    · exact .inl (by rw [hpp] at h; exact h)
    · exact .inr ⟨x, hx, by rw [hpp] at h; exact h⟩
  have hp9 : p ≤ 400 ∧ -1 ≤ p := by
    have := hD.few.np
    have := hD.t.hp
    rcases hpc with h | ⟨x, hx, h⟩ <;> omega
  have hSV : settleV T inp V node = if lastV (lowP T) p = (node : Int) then V.set p.toNat (partV T inp V p.toNat) else V := by unfold settleV; rw [hpp]
  have HCL := Lib.hid (fun W (h : Below wb.heap.size wb W) => lastL_any W p (by omega) (by omega) (hL.below h))
  obtain ⟨lx, hlx⟩ : ∃ lx, lx = lastV (lowP T) p := ⟨_, rfl⟩
  rw [← hlx] at HCL hSV
  have hpcs := (hL.below hB1.st.bel).pcs
  obtain ⟨bq, oq, x0, rfl, hbq, hxq, hcq, hcq2⟩ := hpcs.at_ (k := node) (by omega)
  obtain rfl : x0 = (p, p') := by rw [hpe] at hxq; exact (Option.some.inj hxq).symm
  simp only at hcq hcq2
  obtain ⟨sP, np, pc, sE, ne, ec, Fu, nf, fc, sR, nr, rc⟩ := s
  obtain ⟨w0, hw0⟩ : ∃ w0, w0 = ((w.alloc (.cells #[.int .i64 T.period, .int .i64 T.deadline, .slice sP np pc, .slice sE ne ec, .slice Fu nf fc, .slice sR nr rc] 27)).alloc (.cells #[.slice A1 nw c1, .slice F1 nE d1, .slice (some ⟨bq, oq, none⟩) nP e1] 60)).alloc (.cells #[.slice (some ⟨gD, 0, none⟩) n cD, .slice (some ⟨gV, 0, none⟩) m cV] 31) := ⟨_, rfl⟩
  simp only at hB0 hB1 hcq
  have hnP : node < nP := by have := hL.hk; omega
  rw [← hw0] at hB0 hB1 hcq
  have q0 := hB0.m0
  have q1 := hB0.st.rD.cell (boolsV_at (l := D) (j := node) (by omega))
  have q2 := hB0.st.rD.frozen node
  have q3 := hB1.l2
  have q4 := hB1.l0
  have q5 := hB1.l1
  have HB1 := Lib.hid hB1
  have HW := Lib.hid hw0
  rw [hw0] at q0 q1 q2 q3 q4 q5 hcq
  have HPC := Lib.hid hpc
  have HSV := Lib.hid hSV
  have HLX := Lib.hid hlx
  have HOK := Lib.hid hok
  have HTI := Lib.hid hT
  have HVL := Lib.hid (And.intro hVl hm)
  obtain ⟨y0, hy0⟩ : ∃ y, y = D.getD node false := ⟨_, rfl⟩
  rw [← hy0] at q1
  clear hlx hB0 hB1 hS hO hT hok hD hL hpp hpe hpc hSV hpcs hbq hxq hcq2 hw0 hDl hVl hm hn hy0
  by_cases hl : lx = (node : Int)
  · go_enter Tryz.func24, Tryz.ntmps24
    go_wp2_with fail
    rw [← HW.out]
    clear HW q0 q1 q2 q3 q4 q5 hcq
    refine (HCL.out _ HB1.out.st.bel).mono ?_
    rintro e w1 ⟨rfl, b1⟩
    have HB2 := Lib.hid (HB1.out.next b1)
    clear b1 HB1
    obtain ⟨x, hx, rfl⟩ : ∃ x, x < T.parts.length ∧ p = ((x : Nat) : Int) := by
      rcases HPC.out with h | h
      · exfalso
        have h2 := HLX.out
        rw [h] at h2
        unfold lastV at h2
        rw [if_pos (by decide)] at h2
        omega
      · exact h
    obtain ⟨zs, hzs⟩ : ∃ zs, zs = feedsV T (x : Int) := ⟨_, rfl⟩
    have hzs2 : zs = feedsL T.edges T.futures (x : Int) := by rw [hzs]; unfold feedsV; rw [if_pos HOK.out.1]
    have HZ : Hid (∀ y ∈ zs, ∃ q : Nat, y = q ∧ q < T.parts.length) := Lib.hid fun y hy => by
      rw [hzs2] at hy
      obtain ⟨q, h1, h2, _⟩ := feeds_way HOK.out.1 hx hy
      exact ⟨q, h1, h2⟩
    obtain ⟨fv, hfv⟩ : ∃ fv, fv = feedV T V x := ⟨_, rfl⟩
    have HFV : Hid (fv = zs.map fun y => V.getD y.toNat 0) := Lib.hid (by rw [hfv, hzs2]; rfl)
    have HID2 := HID.out _ HB2.out.st.bel
    have hzl : zs.length ≤ 400 := by
      have h1 := feedsL_len8 T.edges T.futures (x : Int)
      have h6 := HOK.out.1.few
      unfold ManyT at h6
      rw [hzs2]
      omega
    have CF := Lib.hid (feeds_any5 _ T (x : Int) w1 HID2)
    rw [← hzs] at CF
    obtain ⟨nz, hnz⟩ : ∃ nz, zs.length = nz := ⟨_, rfl⟩
    unfold GotInts at CF
    rw [hnz] at CF hzl
    have HNZ := Lib.hid hnz
    have HF2 := Lib.hid hfv
    obtain ⟨t0, t1, t2, t3, t4, t5⟩ := HB2.out.cd
    simp only at t2 t3 t4 t5
    have hlx : lx = (node : Int) := hl
    clear hzs hzs2 hfv HID2 hnz HPC
    go_wp2_with fail
    refine CF.out.mono ?_
    rintro e w2 ⟨Af, cf, rfl, hIf, b2⟩
    have HB3 := Lib.hid (HB2.out.next b2)
    have HIF := Lib.hid hIf
    clear t0 t1 t2 t3 t4 t5 b2 hIf CF HB2
    go_wp2
    go_loopw [11, 33] (fun v i wr => ∃ (j : Nat) (A' : Option Addr) (c' : Nat), j ≤ nz ∧ i = .int .i64 j ∧ v = .slice A' j c' ∧ Hid (OwnI wr w2.heap.size (.slice A' j c') (fv.take j)) ∧ Hid (Below w2.heap.size w2 wr)) (fun _ i _ => nz - (intOf i).toNat)
    case atStart => exact ⟨0, none, 0, Nat.zero_le _, rfl, rfl, Lib.hid (ownI_nil _ _), Lib.hid (Below.refl _ _)⟩
    case round =>
      obtain ⟨j, A', c', hj, rfl, rfl, HO, HB⟩ := hrel
      have HBR := Lib.hid (HB3.out.next HB.out)
      have hfl : fv.length = nz := by rw [HFV.out, List.length_map, HNZ.out]
      by_cases hlt : j < nz
      · obtain ⟨bk, o, z0, rfl, hbg, hzj, hc1⟩ := HIF.out.at_ (k := j) (by rw [HNZ.out]; exact hlt)
        have q1 := (HB.out.cell (p := ⟨bk, o + j, none⟩) hbg).trans hc1
        obtain ⟨y, rfl, hy⟩ := HZ.out z0 (List.mem_of_getElem? hzj)
        have hym : y < m := by rw [HVL.out.2]; exact hy
        obtain ⟨v, hv⟩ : ∃ v, v = V.getD y 0 := ⟨_, rfl⟩
        have q2 := HBR.out.st.rV.cell (intsV_at (l := V) (j := y) (by rw [HVL.out.1]; exact hym))
        rw [← hv] at q2
        have q3 := HBR.out.m1
        have HST : Hid (fv.take (j + 1) = fv.take j ++ [v]) := Lib.hid (by
          have : fv[j]? = some v := by rw [HFV.out, List.getElem?_map, hzj, hv]; rfl
          rw [List.take_add_one, this]
          rfl)
        have htl : (fv.take j).length = j := by rw [List.length_take]; omega
        have HTL := Lib.hid htl
        have hws := HB.out.size
        clear hbg hzj hc1 hv htl hfl
        go_wp2_with (at_builtin; refine wpList_push rfl _ _ rfl wr w2.heap.size _ (fv.take j) v j HTL.out (by omega) HO.out hws rfl rfl ?_; intro A4 c4' w4 HO4 HB4; (have HO4' := Lib.hid HO4); (have HB4' := Lib.hid HB4); clear HO4 HB4)
        go_roundw
        case rel => exact ⟨j + 1, A4, c4', by omega, by go_num, rfl, Lib.hid (by rw [HST.out]; exact HO4'.out), Lib.hid (HB.out.trans HB4'.out)⟩
        case measure => simp [intOf]; omega
      · obtain rfl : nz = j := by omega
        have hO := HO.out
        rw [List.take_of_length_le (by omega)] at hO
        have HOF := Lib.hid hO
        have hID := HID.out _ HBR.out.st.bel
        obtain ⟨bp, op, p1, p2, p3, hPe, hbl, hpx, e0, e1', e2⟩ := hID.t.parts.at_ (k := x) hx
        simp only at hPe
        subst hPe
        have hnp : x < np := by have := hID.t.hp; simp only at this; omega
        have hpo := HOK.out.1.parts _ (List.mem_of_getElem? hpx)
        have hpo1 : -9223372036854775808 ≤ p2 ∧ p2 ≤ 9223372036854775807 := by
          unfold partOk at hpo
          simp only at hpo
          omega
        obtain ⟨zv, hzv⟩ : ∃ z, z = partV T inp V x := ⟨_, rfl⟩
        have hzv2 : zv = comeV p1 p2 inp fv := by
          rw [hzv, HF2.out]
          unfold partV partAt
          rw [List.getD_eq_getElem?_getD, hpx]
          rfl
        have HZV := Lib.hid (And.intro hzv hzv2)
        have HX := Lib.hid (show x < m ∧ x < V.length by rw [HVL.out.1, HVL.out.2]; exact ⟨hx, hx⟩)
        have HFL := Lib.hid hfl
        clear hO hID hpx hpo hzv hzv2 hfl HO
        go_wp2_with fail
        refine wp_region_chain2 12 [46, 47, 48, 49, 50, 51, 52, 53, 54, 55, 56, 57] [10] (by kernel_rfl) (by kernel_rfl) (by intro d hd; simp at hd ⊢; omega) (by simp)
          (fun _ y => BxSt w wb ⟨some ⟨bp, op, none⟩, np, pc, sE, ne, ec, Fu, nf, fc, sR, nr, rc⟩ T A1 nw c1 F1 nE d1 (some ⟨bq, oq, none⟩) nP e1 b kk DM gD gV n m cD cV (D.set node true) V y ∧ Below wr.heap.size wr y) (fun y z => Below y.heap.size y z) (SetF w.heap.size gV m cV bp op np pc x p1 p2 p3 b A' nz c' zv)
          (fun _ _ h => h) (fun j y z h hb => ⟨h.1.next hb, h.2.trans (hb.mono h.2.size)⟩) (fun q v y z h _ => setF_keep q v y z h) ⟨HBR.out.next (Below.refl _ _).drew, (Below.refl _ _).drew⟩ ?hstep ?hcall (fun h => absurd h (by decide)) ?hlast
        case hstep =>
          intro q o hq hqc ho ρ j y hJ hA hd
          have t8 : ρ (.tmp 8) = .pointer (some ⟨w.heap.size + 1 + 1, 0, none⟩) := hA.tmp 8 (by decide)
          have t5 : ρ (.tmp 5) = .pointer (some ⟨w.heap.size, 0, none⟩) := hA.tmp 5 (by decide)
          match q, hq, hqc, ho with
          | 0, _, _, ho =>
            have hoo := Option.some.inj ho
            subst hoo
            exact ⟨.pointer (some ⟨w.heap.size + 1 + 1, 1, none⟩), y, by simp [execOp, t8, go_sem], rfl, Below.refl _ _⟩
          | 1, _, _, ho =>
            have hoo := Option.some.inj ho
            subst hoo
            have f : ρ (.tmp 46) = .pointer (some ⟨w.heap.size + 1 + 1, 1, none⟩) := hd ⟨0, .data⟩ (by simp) (by rfl)
            have c1 := hJ.1.m1
            exact ⟨.slice (some ⟨gV, 0, none⟩) m cV, y, by simp [execOp, f, c1, go_sem], rfl, Below.refl _ _⟩
          | 2, _, _, ho =>
            have hoo := Option.some.inj ho
            subst hoo
            exact ⟨.int .i64 (x : Int), y, by have h := hA.tmp 10 (by decide); simp [execOp, h, go_sem], rfl, Below.refl _ _⟩
          | 3, _, _, ho =>
            have hoo := Option.some.inj ho
            subst hoo
            exact ⟨.pointer (some ⟨w.heap.size, 2, none⟩), y, by simp [execOp, t5, go_sem], rfl, Below.refl _ _⟩
          | 4, _, _, ho =>
            have hoo := Option.some.inj ho
            subst hoo
            have f : ρ (.tmp 49) = .pointer (some ⟨w.heap.size, 2, none⟩) := hd ⟨3, .data⟩ (by simp) (by rfl)
            have c1 := hJ.1.cd.2.2.1
            simp only at c1
            exact ⟨.slice (some ⟨bp, op, none⟩) np pc, y, by simp [execOp, f, c1, go_sem], rfl, Below.refl _ _⟩
          | 5, _, _, ho =>
            have hoo := Option.some.inj ho
            subst hoo
            exact ⟨.int .i64 (x : Int), y, by have h := hA.tmp 10 (by decide); simp [execOp, h, go_sem], rfl, Below.refl _ _⟩
          | 6, _, _, ho =>
            have hoo := Option.some.inj ho
            subst hoo
            have f1 : ρ (.tmp 50) = .slice (some ⟨bp, op, none⟩) np pc := hd ⟨4, .data⟩ (by simp) (by rfl)
            have f2 : ρ (.tmp 51) = .int .i64 (x : Int) := hd ⟨5, .data⟩ (by simp) (by rfl)
            exact ⟨_, y, idx_eqP8 rfl f1 f2 hnp, rfl, Below.refl _ _⟩
          | 7, _, _, ho =>
            have hoo := Option.some.inj ho
            subst hoo
            have f : ρ (.tmp 52) = .pointer (some ⟨bp, op + x * 3, none⟩) := hd ⟨6, .data⟩ (by simp) (by rfl)
            have k0 := (hJ.2.cell (p := ⟨bp, op + x * 3, none⟩) hbl).trans e0
            have k1 := (hJ.2.cell (p := ⟨bp, op + x * 3 + 1, none⟩) hbl).trans e1'
            have k2 := (hJ.2.cell (p := ⟨bp, op + x * 3 + 2, none⟩) hbl).trans e2
            exact ⟨.agg #[.int .i64 p1, .int .i64 p2, .int .i64 p3], y, by simp [execOp, f, k0, k1, k2, go_sem], rfl, Below.refl _ _⟩
          | 8, _, _, ho =>
            have hoo := Option.some.inj ho
            subst hoo
            exact ⟨.map (some b), y, by have h := hA.tmp 2 (by decide); simp [execOp, h, go_sem], rfl, Below.refl _ _⟩
          | 9, _, _, ho =>
            have hoo := Option.some.inj ho
            subst hoo
            exact ⟨.slice A' nz c', y, by have h := hA.tmp 11 (by decide); simp [execOp, h, go_sem], rfl, Below.refl _ _⟩
          | 10, _, hqc, _ => exact absurd (by decide) hqc
          | 11, _, _, ho =>
            have hoo := Option.some.inj ho
            subst hoo
            have f1 : ρ (.tmp 47) = .slice (some ⟨gV, 0, none⟩) m cV := hd ⟨1, .data⟩ (by simp) (by rfl)
            have f2 : ρ (.tmp 48) = .int .i64 (x : Int) := hd ⟨2, .data⟩ (by simp) (by rfl)
            exact ⟨_, y, idx_eq rfl f1 f2 HX.out.1, rfl, Below.refl _ _⟩
          | q + 12, hk, _, _ => omega
        case hcall =>
          intro i o hi ho a y hJ hA hd K hK
          match i, hi, ho with
          | 0, _, ho =>
            have hoo := Option.some.inj ho
            subst hoo
            have f7 : a.eval (.tmp 53) = .agg #[.int .i64 p1, .int .i64 p2, .int .i64 p3] := hd ⟨7, .data⟩ (by simp) (by rfl)
            have f8 : a.eval (.tmp 54) = .map (some b) := hd ⟨8, .data⟩ (by simp) (by rfl)
            have f9 : a.eval (.tmp 55) = .slice A' nz c' := hd ⟨9, .data⟩ (by simp) (by rfl)
            refine fx_call (k := 10) (Φ := SetF w.heap.size gV m cV bp op np pc x p1 p2 p3 b A' nz c' zv) (fun v w' hv hb => hK v w' hv hb ⟨hJ.1.next hb, hJ.2.trans (hb.mono hJ.2.size)⟩ (fun e => by cases e)) rfl 37 _ _ #[.agg #[.int .i64 p1, .int .i64 p2, .int .i64 p3], .map (some b), .slice A' nz c'] rfl (by simp only [List.map_toArray, List.map_cons, List.map_nil, f7, f8, f9]) (eg_of Tryz.func37 (by kernel_rfl) rfl) ?_
            have hin := ((HOF.out.ints).below hJ.2).more hJ.2.size
            refine (come_any p1 p2 p3 inp b kk DM A' nz c' fv y hpo1.1 hpo1.2 hJ.1.ov HTI.out HFL.out (by omega) hin).mono ?_
            rintro z y2 ⟨rfl, hb⟩
            exact ⟨_, rfl, by show Value.int .i64 _ = .int .i64 zv; rw [HZV.out.2], hb⟩
        case hlast =>
          intro o ho vals y hJ hF
          have hoo := Option.some.inj ho
          subst hoo
          have q10 : vals 56 = .int .i64 zv := hF 10 (by decide)
          have q11 : vals 57 = .pointer (some ⟨gV, x, none⟩) := by
            have h : vals 57 = .pointer (some ⟨gV, 0 + x, none⟩) := hF 11 (by decide)
            rw [Nat.zero_add] at h
            exact h
          refine ox_store1 (g := gV) (j := x) (z := zv) rfl rfl q11 q10 (hJ.1.st.rV.cell (intsV_at (l := V) HX.out.2)) (hJ.1.st.rV.frozen x) ?_
          have HE := Lib.hid (And.intro (hJ.1.st.setV HX.out.2 zv) (hJ.1.on.setV x (.int .i64 zv)))
          clear hF hJ
          simp only [fillA, fillL, List.contains_cons, List.contains_nil, Nat.reduceBEq, Bool.or_false, Bool.or_true, cond_true, cond_false, Nat.zero_add, Nat.reduceAdd]
          go_wp2
          go_end0
          exact ⟨rfl, by rw [HSV.out, if_pos hlx, Int.toNat_natCast, ← HZV.out.1]; exact HE.out.1, HE.out.2⟩
  · have hb : (lx != (node : Int)) = true := bne_iff_ne.mpr hl
    go_enter Tryz.func24, Tryz.ntmps24
    go_wp2_with fail
    rw [← HW.out]
    clear HW q0 q1 q2 q3 q4 q5 hcq
    refine (HCL.out _ HB1.out.st.bel).mono ?_
    rintro e w1 ⟨rfl, b1⟩
    have HB2 := Lib.hid (HB1.out.next b1)
    have HL := Lib.hid hl
    clear b1 HB1 HCL hl
    go_wp2
    refine bodyPost_ret (v := .tuple #[]) (by kernel_rfl) rfl ?_
    exact ⟨rfl, by rw [HSV.out, if_neg HL.out]; exact HB2.out.st, HB2.out.on⟩
end
end Go.Proofs.YtkmajhbfmdoamaaGreatDoor
