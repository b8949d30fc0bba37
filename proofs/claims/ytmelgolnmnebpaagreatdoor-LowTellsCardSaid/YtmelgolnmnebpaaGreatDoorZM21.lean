/- Integers as values, and 'make([]int, n)', in the seat YtmelgolnmnebpaaGreatDoor.
   dag.Long in the seat YtmelgolnmnebpaaGreatDoor: plain mathematics, and the contract of its closure.
   dag.Long in the seat YtmelgolnmnebpaaGreatDoor: its contract.
   No statement is proved here. -/
import Derived.Test.YtmelgolnmnebpaaGreatDoorZM15
import Derived.Laws.MakeOwn
import Derived.Test.YtmelgolnmnebpaaGreatDoorZM20
import Derived.Deep.RegionWith
set_option linter.unusedSimpArgs false
set_option linter.unusedVariables false
namespace Go.Proofs.YtmelgolnmnebpaaGreatDoor
open Go.RowKit

def intsV (l : List Int) : List Value := l.map (Value.int .i64)
theorem intsV_at {l : List Int} {j : Nat} (h : j < l.length) : (intsV l)[j]? = some (.int .i64 (l.getD j 0)) := by
  unfold intsV
  rw [List.getElem?_map, List.getElem?_eq_getElem h, List.getD_eq_getElem?_getD, List.getElem?_eq_getElem h]
  rfl
theorem intsV_set (l : List Int) (j : Nat) (z : Int) : intsV (l.set j z) = (intsV l).set j (.int .i64 z) := by unfold intsV; rw [List.map_set]
theorem make_ints (n : Nat) (hn : n ≤ 1000) (W : World) : (Instr.makeSlice 30 (.int .i64 n) (.int .i64 n)).run Tryz.prog W = .ok (.slice (some ⟨W.heap.size, 0, none⟩) n n) (W.alloc (.cells (List.replicate n (Value.int .i64 0)).toArray 3)) := by
  obtain ⟨i0, hi, hz0, hz1, hz2⟩ := info_parts int_cell_info
  have h := run_make (P := Tryz.prog) W 30 3 i0 (.int .i64 0) Tryz.underlying30 hi hz0 .i64 .i64 n n (by omega) (by omega) (by rw [hz2]; omega) (by omega)
  rw [hz1] at h
  have e : madeCells (Value.int .i64 0).cells (((n : Int)).toNat * 1) = (List.replicate n (Value.int .i64 0)).toArray := by
    apply Array.toList_inj.mp
    rw [show (Value.int .i64 0).cells = #[Value.int .i64 0] from rfl, toList_madeCells_one]
    simp
  rw [e] at h
  exact h
end Go.Proofs.YtmelgolnmnebpaaGreatDoor
set_option linter.unusedVariables false
namespace Go.Proofs.YtmelgolnmnebpaaGreatDoor
open Go.RowKit

theorem most_spec (l : List Int) : 0 ≤ most l ∧ (∀ x ∈ l, x ≤ most l) ∧ (most l = 0 ∨ most l ∈ l) := foldl_max l 0
theorem most_sub {l l' : List Int} (h : ∀ x ∈ l, x ∈ l') : most l ≤ most l' := by
  rcases (most_spec l).2.2 with k | k
  · rw [k]; exact (most_spec l').1
  · exact (most_spec l').2.1 _ (h _ k)
theorem most_same {l l' : List Int} (h : ∀ x, x ∈ l ↔ x ∈ l') : most l = most l' := Int.le_antisymm (most_sub fun x hx => (h x).mp hx) (most_sub fun x hx => (h x).mpr hx)
/-- The most work of a way that ends with x. -/
def farAt (W : List Int) (E : List (Int × Int)) (x : Nat) : Int := (farK W E W.length).getD x 0
theorem far_step {W : List Int} {E : List (Int × Int)} (hF : Fits W.length E) (hA : Acyc E) {x : Nat} (hx : x < W.length) {l : List Nat} (hl : ∀ a, a ∈ l ↔ ed E a x) :
    farAt W E x = most (l.map (farAt W E)) + W.getD x 0 := by
  obtain ⟨m0, m1, m2⟩ := most_spec (l.map (farAt W E))
  have hS := farK_sound hF W.length
  apply Int.le_antisymm
  · obtain ⟨r, h1, h2, h3⟩ := hS.2 x hx
    have e : farAt W E x = wsum W (x :: r) := h3.symm
    rw [e]
    cases r with
    | nil =>
      simp only [wsum, List.map_cons, List.map_nil, List.sum_cons, List.sum_nil]
      omega
    | cons a r =>
      have hn := length_below W.length (x :: a :: r) (h1.nodup hA) h2
      simp only [List.length_cons] at hn
      have h4 : wsum W (a :: r) ≤ farAt W E a := farK_takes hF W.length a r h1.2 (by omega)
      have h5 := m1 (farAt W E a) (List.mem_map.mpr ⟨a, (hl a).mpr h1.1, rfl⟩)
      simp only [wsum, List.map_cons, List.sum_cons] at h4 ⊢
      omega
  · rcases m2 with k | k
    · have h4 := farK_takes (W := W) hF W.length x [] trivial (by simp)
      simp only [wsum, List.map_cons, List.map_nil, List.sum_cons, List.sum_nil] at h4
      show _ ≤ (farK W E W.length).getD x 0
      omega
    · obtain ⟨a, ha, he⟩ := List.mem_map.mp k
      have hed := (hl a).mp ha
      obtain ⟨r, h1, h2, h3⟩ := hS.2 a (ed_lt hF hed).1
      have hup : Up E (x :: a :: r) := ⟨hed, h1⟩
      have hin : In W.length (x :: a :: r) := fun y hy => by
        rcases List.mem_cons.mp hy with rfl | hy
        · exact hx
        · exact h2 y hy
      have hn := length_below W.length (x :: a :: r) (hup.nodup hA) hin
      simp only [List.length_cons] at hn
      have h4 := farK_takes (W := W) hF W.length x (a :: r) hup (by simp; omega)
      rw [← he]
      show (farK W E W.length).getD a 0 + _ ≤ (farK W E W.length).getD x 0
      rw [← h3]
      simp only [wsum, List.map_cons, List.sum_cons] at h4 ⊢
      omega
theorem far_bound {W : List Int} {E : List (Int × Int)} (hF : Fits W.length E) (hA : Acyc E) (hW : WorkOk W) {x : Nat} (hx : x < W.length) : 0 ≤ farAt W E x ∧ farAt W E x ≤ 1000 * W.length := by
  have := far_in hF hA hW W.length 0 x hx
  exact this
theorem long_order {W : List Int} {E : List (Int × Int)} {out : List Nat} (h : ∀ x, x ∈ out ↔ x < W.length) : most (out.map (farAt W E)) = most (farK W E W.length) := by
  apply most_same
  intro z
  constructor
  · intro hz
    obtain ⟨x, hx, rfl⟩ := List.mem_map.mp hz
    have hl : x < (farK W E W.length).length := by rw [farK_length]; exact (h x).mp hx
    unfold farAt
    rw [List.getD_eq_getElem?_getD, List.getElem?_eq_getElem hl]
    exact List.getElem_mem hl
  · intro hz
    obtain ⟨x, hx, rfl⟩ := List.getElem_of_mem hz
    refine List.mem_map.mpr ⟨x, (h x).mpr (by rw [farK_length] at hx; exact hx), ?_⟩
    unfold farAt
    rw [List.getD_eq_getElem?_getD, List.getElem?_eq_getElem hx]
    rfl

/-- In the middle of Long: the graph, what was read of it, and upTo, each in its box. -/
structure StL (b0 gb vb ub g n c : Nat) (A : Option Addr) (A' : Option Addr) (W : List Int) (ol : List Int) (ps : List Nat) (us : List Int) (w' : World) : Prop where
  d0 : w'.cell? ⟨b0, 0, none⟩ = some (.slice A n c)
  g0 : w'.cell? ⟨gb, 0, none⟩ = some (.slice (some ⟨g, 0, none⟩) n n)
  v0 : w'.cell? ⟨vb, 0, none⟩ = some (.slice (some ⟨ub, 0, none⟩) n n)
  row : RowN g ps w'
  up : RowV ub 3 (intsV us) w'
  ints : Ints w' ub A W
  out : Ints w' ub A' ol
  tab : Tab64 w'
  lb : b0 < ub
  lg : gb < ub
  lr : g < ub
  lt : 1 < ub
  lv : ub < vb
section
variable {b0 gb vb ub g n c : Nat} {A A' : Option Addr} {W : List Int} {E : List (Int × Int)} {ol : List Int} {ps : List Nat} {us : List Int}
theorem StL.next {w1 w2 : World} (h : StL b0 gb vb ub g n c A A' W ol ps us w1) (hb : Below w1.heap.size w1 w2) : StL b0 gb vb ub g n c A A' W ol ps us w2 :=
  ⟨(hb.cell (World.block_lt_of_cell? _ _ h.d0)).trans h.d0, (hb.cell (World.block_lt_of_cell? _ _ h.g0)).trans h.g0, (hb.cell (World.block_lt_of_cell? _ _ h.v0)).trans h.v0, h.row.below hb h.row.lt, h.up.below hb h.up.lt,
    h.ints.below (hb.mono (Nat.le_of_lt h.up.lt)), h.out.below (hb.mono (Nat.le_of_lt h.up.lt)), h.tab.via hb, h.lb, h.lg, h.lr, h.lt, h.lv⟩
theorem StL.store {w1 : World} (h : StL b0 gb vb ub g n c A A' W ol ps us w1) (j : Nat) (z : Int) : StL b0 gb vb ub g n c A A' W ol ps (us.set j z) (w1.setCell ⟨ub, j, none⟩ (.int .i64 z)) := by
  have hb : Below ub w1 (w1.setCell ⟨ub, j, none⟩ (.int .i64 z)) := (Below.refl ub w1).setCell (Nat.le_refl _) _
  refine ⟨(hb.cell h.lb).trans h.d0, (hb.cell h.lg).trans h.g0, (World.cell?_setCell_other _ _ _ _ ?_).trans h.v0, h.row.below hb h.lr, by rw [intsV_set]; exact h.up.set j _, h.ints.below hb, h.out.below hb, h.tab.below hb h.lt, h.lb, h.lg, h.lr, h.lt, h.lv⟩
  intro e
  have h1 : ub = vb := congrArg Addr.block e
  have := h.lv
  omega
theorem StL.cells {w' : World} (h : StL b0 gb vb ub g n c A A' W ol ps us w') : w'.cell? ⟨b0, 0, none⟩ = some (.slice A n c) ∧ w'.cell? ⟨gb, 0, none⟩ = some (.slice (some ⟨g, 0, none⟩) n n) ∧ w'.cell? ⟨vb, 0, none⟩ = some (.slice (some ⟨ub, 0, none⟩) n n) := ⟨h.d0, h.g0, h.v0⟩
end
end Go.Proofs.YtmelgolnmnebpaaGreatDoor
set_option linter.unusedVariables false
namespace Go.Proofs.YtmelgolnmnebpaaGreatDoor
open Go.RowKit

section
variable {A : Option Addr} {n c : Nat} {F : Option Addr} {m d : Nat} {W : List Int} {E : List (Int × Int)}
theorem preds_far {ps : List Nat} {us : List Int} {out : List Nat} (hO : Ordered n E out) (hP : PredsOf n E ps) (hn : n ≤ 64) (hF : Fits n E) {j x : Nat} (hx : out[j]? = some x) (hu : ∀ y ∈ out.take j, us.getD y 0 = farAt W E y) :
    ((bitsL (ps.getD x 0)).map fun p => us.getD p 0) = (bitsL (ps.getD x 0)).map (farAt W E) := by
  apply List.map_congr_left
  intro p hp
  have hxn : x < n := hO.lt x (List.mem_of_getElem? hx)
  have he : ed E p x := of_decide_eq_true ((hP.bit x hxn p).symm.trans (mem_bitsL.mp hp).2)
  obtain ⟨hj, e⟩ := List.getElem?_eq_some_iff.mp hx
  exact hu p (hO.behind j hj p (by rw [e]; exact he))
theorem mem_preds {ps : List Nat} (hP : PredsOf n E ps) (hn : n ≤ 64) (hF : Fits n E) {x : Nat} (hx : x < n) (a : Nat) : a ∈ bitsL (ps.getD x 0) ↔ ed E a x := by
  rw [mem_bitsL, hP.bit x hx a, decide_eq_true_iff]
  constructor
  · exact And.right
  · intro h
    have := ed_lt hF h
    exact ⟨by omega, h⟩
theorem StL.start {b0 g n c : Nat} {A A' : Option Addr} {c' : Nat} {W ol : List Int} {ps : List Nat} {w1 : World} (hb : b0 < w1.heap.size) (h0 : w1.cell? ⟨b0, 0, none⟩ = some (.slice A n c)) (hr : RowN g ps w1) (hi : Ints w1 w1.heap.size A W) (ho : Ints w1 w1.heap.size A' ol) (hT : Tab64 w1) :
    StL b0 w1.heap.size (w1.heap.size + 1 + 1) (w1.heap.size + 1) g n c A A' W ol ps (List.replicate n 0) (((w1.alloc (.cells #[.slice (some ⟨g, 0, none⟩) n n, .slice A' n c'] 94)).alloc (.cells (Array.replicate n (Value.int .i64 0)) 3)).alloc (.cells #[.slice (some ⟨w1.heap.size + 1, 0, none⟩) n n] 30)) := by
  obtain ⟨w2, h2⟩ : ∃ w2, w2 = w1.alloc (.cells #[.slice (some ⟨g, 0, none⟩) n n, .slice A' n c'] 94) := ⟨_, rfl⟩
  obtain ⟨w3, h3⟩ : ∃ w3, w3 = w2.alloc (.cells (Array.replicate n (Value.int .i64 0)) 3) := ⟨_, rfl⟩
  obtain ⟨w4, h4⟩ : ∃ w4, w4 = w3.alloc (.cells #[.slice (some ⟨w1.heap.size + 1, 0, none⟩) n n] 30) := ⟨_, rfl⟩
  rw [← h2, ← h3, ← h4]
  have s2 : w2.heap.size = w1.heap.size + 1 := by rw [h2]; simp
  have s3 : w3.heap.size = w1.heap.size + 1 + 1 := by rw [h3]; simp [s2]
  have s4 : w4.heap.size = w1.heap.size + 1 + 1 + 1 := by rw [h4]; simp [s3]
  have b3 : Below w3.heap.size w3 w4 := by rw [h4]; exact below_alloc _
  have b2 : Below w2.heap.size w2 w4 := (by rw [h3]; exact below_alloc _ : Below w2.heap.size w2 w3).trans (b3.mono (by omega))
  have b1 : Below w1.heap.size w1 w4 := (by rw [h2]; exact below_alloc _ : Below w1.heap.size w1 w2).trans (b2.mono (by omega))
  have hu : RowV (w1.heap.size + 1) 3 (intsV (List.replicate n 0)) w3 := by
    have e : (intsV (List.replicate n 0)).toArray = Array.replicate n (Value.int .i64 0) := by simp [intsV]
    unfold RowV
    rw [e, h3, ← s2]
    exact heap_alloc_new w2 _
  have := hT.lt
  have := hr.lt
  refine ⟨(b1.cell hb).trans h0, ?_, ?_, hr.below b1 hr.lt, hu.below b3 (by omega), (hi.below b1).more (by omega), (ho.below b1).more (by omega), hT.via b1, by omega, by omega, by omega, by omega, by omega⟩
  · refine (b2.cell (by show w1.heap.size < _; omega)).trans ?_
    rw [h2, World.cell?_alloc_at _ _ _ _ rfl]; rfl
  · rw [h4, World.cell?_alloc_at _ _ _ _ s3.symm]; rfl
end
end Go.Proofs.YtmelgolnmnebpaaGreatDoor
