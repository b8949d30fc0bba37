/- eval.nothing, New and Check in the seat YtkmajhbfmdoamaaGreatDoor: their contracts. No statement is proved here. -/
import Derived.Test.YtkmajhbfmdoamaaGreatDoorZEvalRead
import Derived.Test.YtkmajhbfmdoamaaGreatDoorZM4
set_option linter.unusedSimpArgs false
set_option linter.unusedVariables false
namespace Go.Proofs.YtkmajhbfmdoamaaGreatDoor
open Go.RowKit

/-- A store of a struct of two cells. -/
theorem ox_store2 {o : Oper} {a : Act} {x : World} {K : Act → World → Prop} {Q : Exit → Act → World → Prop} {s y : Operand} {g : Nat} {u v u0 v0 : Value} (hop : o.op = .store 31 s y) (hdst : o.dst = none)
    (hs : a.eval s = .pointer (some ⟨g, 0, none⟩)) (hy : a.eval y = .agg #[u, v]) (h1 : ∃ A n c F m d, u = .slice A n c ∧ v = .slice F m d) (hg : x.heap[g]? = some (.cells #[u0, v0] 31 (0, 0)))
    (hK : K a ((x.setCell ⟨g, 0, none⟩ u).setCell ⟨g, 1, none⟩ v)) : o.wp Tryz.prog a x K Q := by
  obtain ⟨A, n, c, F, m, d, rfl, rfl⟩ := h1
  have d0 := cell_of_row x g 0 _ _ _ hg
  have z0 := frozen_of_row x g 0 _ _ hg
  have d1 := cell_of_row x g 1 _ _ _ hg
  have z1 := frozen_of_row x g 1 _ _ hg
  have hg1 := heap_setCell_same x g 0 _ _ (.slice A n c) hg
  have d1' := cell_of_row _ g 1 _ _ _ hg1
  have z1' := frozen_of_row _ g 1 _ _ hg1
  simp at d0 d1 d1'
  have hr : (execOp a.eval o).run Tryz.prog x = .ok .skip ((x.setCell ⟨g, 0, none⟩ (.slice A n c)).setCell ⟨g, 1, none⟩ (.slice F m d)) := by
    simp only [execOp, hop]
    rw [hs, hy]
    simp [go_sem, d0, z0, d1', z1']
  unfold Oper.wp
  rw [hr, Oper.upon_skip, hdst]
  exact hK
/-- What the operations of nothing's region have yielded. -/
def NothF (hb n m : Nat) (P : Option Addr) (pc : Nat) (R : Option Addr) (e : Nat) : Nat → Value → World → Prop
  | 0, v, _ => v = .pointer (some ⟨hb + 1, 2, none⟩)
  | 1, v, _ => v = .slice R n e
  | 2, v, _ => v = .int .i64 (n : Int)
  | 3, v, w => ∃ A, v = .slice (some ⟨A, 0, none⟩) n n ∧ hb ≤ A ∧ RowV A 4 (boolsV (List.replicate n false)) w
  | 4, v, _ => v = .pointer (some ⟨hb, 2, none⟩)
  | 5, v, _ => v = .slice P m pc
  | 6, v, _ => v = .int .i64 (m : Int)
  | 7, v, w => ∃ F, v = .slice (some ⟨F, 0, none⟩) m m ∧ hb ≤ F ∧ RowV F 3 (intsV (List.replicate m 0)) w
  | 8, v, w => ∃ A F, v = .agg #[.slice (some ⟨A, 0, none⟩) n n, .slice (some ⟨F, 0, none⟩) m m] ∧ hb ≤ A ∧ hb ≤ F ∧ RowV A 4 (boolsV (List.replicate n false)) w ∧ RowV F 3 (intsV (List.replicate m 0)) w
  | _, _, _ => True
theorem nothF_below {hb n m : Nat} {P : Option Addr} {pc : Nat} {R : Option Addr} {e : Nat} : ∀ k v w w', NothF hb n m P pc R e k v w → Below w.heap.size w w' → NothF hb n m P pc R e k v w'
  | 0, _, _, _, h, _ | 1, _, _, _, h, _ | 2, _, _, _, h, _ | 4, _, _, _, h, _ | 5, _, _, _, h, _ | 6, _, _, _, h, _ => h
  | 3, _, _, _, ⟨A, h1, h2, h3⟩, hb => ⟨A, h1, h2, h3.below hb h3.lt⟩
  | 7, _, _, _, ⟨A, h1, h2, h3⟩, hb => ⟨A, h1, h2, h3.below hb h3.lt⟩
  | 8, _, _, _, ⟨A, F, h1, h2, h3, h4, h5⟩, hb => ⟨A, F, h1, h2, h3, h4.below hb h4.lt, h5.below hb h5.lt⟩
  | _ + 9, _, _, _, _, _ => trivial
/-- The boxes of nothing. -/
structure BxN (hb : Nat) (P : Option Addr) (np pc : Nat) (R : Option Addr) (nP e : Nat) (w' : World) : Prop where
  p : w'.cell? ⟨hb, 2, none⟩ = some (.slice P np pc)
  q : w'.cell? ⟨hb + 1, 2, none⟩ = some (.slice R nP e)
  r : w'.heap[hb + 1 + 1]? = some (.cells #[.slice none 0 0, .slice none 0 0] 31 (0, 0))
theorem BxN.next {hb : Nat} {P : Option Addr} {np pc : Nat} {R : Option Addr} {nP e : Nat} {w1 w2 : World} (h : BxN hb P np pc R nP e w1) (b : Below w1.heap.size w1 w2) : BxN hb P np pc R nP e w2 :=
  ⟨(b.cell (World.block_lt_of_cell? _ _ h.p)).trans h.p, (b.cell (World.block_lt_of_cell? _ _ h.q)).trans h.q, by rw [b.block _ (Array.getElem?_eq_some_iff.1 h.r).1]; exact h.r⟩
/-- A new memory of which nothing is done: two rows of the call's own. -/
def GotNew (n m : Nat) (w : World) (e : Ending) (w' : World) : Prop := ∃ A F, e = .returned (.agg #[.slice (some ⟨A, 0, none⟩) n n, .slice (some ⟨F, 0, none⟩) m m]) ∧ w.heap.size ≤ A ∧ w.heap.size ≤ F ∧ RowV A 4 (boolsV (List.replicate n false)) w' ∧ RowV F 3 (intsV (List.replicate m 0)) w' ∧ Below w.heap.size w w'
section
variable {p q : Int} {P : Option Addr} {np pc : Nat} {E : Option Addr} {ne ec : Nat} {Fu : Option Addr} {nf fc : Nat} {R : Option Addr} {nr rc : Nat} {A1 : Option Addr} {nw c1 : Nat} {F1 : Option Addr} {nE d1 : Nat} {R1 : Option Addr} {nP e1 : Nat}
set_option maxRecDepth 100000 in
set_option maxHeartbeats 8000000 in
theorem nothing_any (w : World) (h1 : nP ≤ 400) (h2 : np ≤ 400) :
    Calls Tryz.prog 35 #[.agg #[.int .i64 p, .int .i64 q, .slice P np pc, .slice E ne ec, .slice Fu nf fc, .slice R nr rc], .agg #[.slice A1 nw c1, .slice F1 nE d1, .slice R1 nP e1]] w (GotNew nP np w) := by
  obtain ⟨w0, hw0⟩ : ∃ w0, w0 = ((w.alloc (.cells #[.int .i64 p, .int .i64 q, .slice P np pc, .slice E ne ec, .slice Fu nf fc, .slice R nr rc] 27)).alloc (.cells #[.slice A1 nw c1, .slice F1 nE d1, .slice R1 nP e1] 60)).alloc (.cells #[.slice none 0 0, .slice none 0 0] 31) := ⟨_, rfl⟩
  have hB0 : BxN w.heap.size P np pc R1 nP e1 w0 := by
    have x1 := heap_alloc_new w (.cells #[.int .i64 p, .int .i64 q, .slice P np pc, .slice E ne ec, .slice Fu nf fc, .slice R nr rc] 27)
    obtain ⟨v1, hv1⟩ : ∃ v1, v1 = w.alloc (.cells #[.int .i64 p, .int .i64 q, .slice P np pc, .slice E ne ec, .slice Fu nf fc, .slice R nr rc] 27) := ⟨_, rfl⟩
    have s1 : v1.heap.size = w.heap.size + 1 := by rw [hv1]; simp
    rw [← hv1] at x1 hw0
    have x2 := heap_alloc_new v1 (.cells #[.slice A1 nw c1, .slice F1 nE d1, .slice R1 nP e1] 60)
    obtain ⟨v2, hv2⟩ : ∃ v2, v2 = v1.alloc (.cells #[.slice A1 nw c1, .slice F1 nE d1, .slice R1 nP e1] 60) := ⟨_, rfl⟩
    have s2 : v2.heap.size = w.heap.size + 1 + 1 := by rw [hv2]; simp [s1]
    rw [← hv2] at x2 hw0
    rw [s1] at x2
    have x3 := heap_alloc_new v2 (.cells #[.slice none 0 0, .slice none 0 0] 31)
    rw [← hw0, s2] at x3
    have k2 : w0.heap[w.heap.size + 1]? = some (.cells #[.slice A1 nw c1, .slice F1 nE d1, .slice R1 nP e1] 60 (0, 0)) := by rw [hw0, Below.heap_alloc _ _ _ (by omega)]; exact x2
    have k1 : w0.heap[w.heap.size]? = some (.cells #[.int .i64 p, .int .i64 q, .slice P np pc, .slice E ne ec, .slice Fu nf fc, .slice R nr rc] 27 (0, 0)) := by rw [hw0, Below.heap_alloc _ _ _ (by omega), hv2, Below.heap_alloc _ _ _ (by omega)]; exact x1
    exact ⟨by rw [cell_of_row _ _ _ _ _ _ k1]; rfl, by rw [cell_of_row _ _ _ _ _ _ k2]; rfl, x3⟩
  have hbel : Below w.heap.size w w0 := by rw [hw0]; exact ((below_alloc2 _ _).alloc (by simp; omega) _)
  have hsz : w.heap.size + 1 + 1 < w0.heap.size := (Array.getElem?_eq_some_iff.1 hB0.r).1
  have HB0 := Lib.hid hB0
  have HBEL := Lib.hid hbel
  have HW := Lib.hid hw0
  clear hB0 hbel hw0
  go_enter Tryz.func35, Tryz.ntmps35
  go_wp2_with fail
  rw [← HW.out]
  clear HW
  refine wp_region_gather2' 9 9 [5, 6, 7, 8, 9, 10, 11, 12, 13] (by kernel_rfl) (by kernel_rfl) (by intro d hd; simp at hd ⊢; omega) (fun y => BxN w.heap.size P np pc R1 nP e1 y ∧ Below w0.heap.size w0 y) (fun _ => True) (fun y z => Below y.heap.size y z) (NothF w.heap.size nP np P pc R1 e1)
    (fun _ _ h => h) (fun y z h hr => ⟨h.1.next hr, h.2.trans (hr.mono h.2.size)⟩) (fun _ _ h _ => trivial) (fun k v y z _ h hr => nothF_below k v y z h hr) (fun v y z h _ => trivial) ⟨HB0.out.next (Below.refl _ _).drew, (Below.refl _ _).drew⟩ trivial ?hstep ?hlast
  case hstep =>
    intro j o hj ho ρ y hI hA hd hJ
    have t2 : ρ (.tmp 2) = .pointer (some ⟨w.heap.size, 0, none⟩) := hA.tmp 2 (by decide)
    have t3 : ρ (.tmp 3) = .pointer (some ⟨w.heap.size + 1, 0, none⟩) := hA.tmp 3 (by decide)
    have hp := hI.1.p
    have hq := hI.1.q
    have hys := hI.2.size
    match j, hj with
    | 0, _ =>
      have hoo := Option.some.inj ho
      subst hoo
      exact ⟨.pointer (some ⟨w.heap.size + 1, 2, none⟩), y, by simp [execOp, t3, go_sem], rfl, Below.refl _ _⟩
    | 1, _ =>
      have hoo := Option.some.inj ho
      subst hoo
      have f : ρ (.tmp 5) = .pointer (some ⟨w.heap.size + 1, 2, none⟩) := hd ⟨0, .data⟩ (by simp) (by rfl)
      exact ⟨.slice R1 nP e1, y, by simp [execOp, f, hq, go_sem], rfl, Below.refl _ _⟩
    | 2, _ =>
      have hoo := Option.some.inj ho
      subst hoo
      have f : ρ (.tmp 6) = .slice R1 nP e1 := hd ⟨1, .data⟩ (by simp) (by rfl)
      exact ⟨.int .i64 (nP : Int), y, by simp [execOp, resolve, invoke, builtin, f, go_sem, Result.andThen], rfl, Below.refl _ _⟩
    | 3, _ =>
      have hoo := Option.some.inj ho
      subst hoo
      have f : ρ (.tmp 7) = .int .i64 (nP : Int) := hd ⟨2, .data⟩ (by simp) (by rfl)
      refine ⟨.slice (some ⟨y.heap.size, 0, none⟩) nP nP, y.alloc (.cells (List.replicate nP (Value.bool false)).toArray 4), by simp [execOp, f, make_bools nP (by omega) y, Result.andThen], ⟨_, rfl, by omega, ?_⟩, below_alloc _⟩
      rw [boolsV_repl]
      exact RowV.new y _ _
    | 4, _ =>
      have hoo := Option.some.inj ho
      subst hoo
      exact ⟨.pointer (some ⟨w.heap.size, 2, none⟩), y, by simp [execOp, t2, go_sem], rfl, Below.refl _ _⟩
    | 5, _ =>
      have hoo := Option.some.inj ho
      subst hoo
      have f : ρ (.tmp 9) = .pointer (some ⟨w.heap.size, 2, none⟩) := hd ⟨4, .data⟩ (by simp) (by rfl)
      exact ⟨.slice P np pc, y, by simp [execOp, f, hp, go_sem], rfl, Below.refl _ _⟩
    | 6, _ =>
      have hoo := Option.some.inj ho
      subst hoo
      have f : ρ (.tmp 10) = .slice P np pc := hd ⟨5, .data⟩ (by simp) (by rfl)
      exact ⟨.int .i64 (np : Int), y, by simp [execOp, resolve, invoke, builtin, f, go_sem, Result.andThen], rfl, Below.refl _ _⟩
    | 7, _ =>
      have hoo := Option.some.inj ho
      subst hoo
      have f : ρ (.tmp 11) = .int .i64 (np : Int) := hd ⟨6, .data⟩ (by simp) (by rfl)
      refine ⟨.slice (some ⟨y.heap.size, 0, none⟩) np np, y.alloc (.cells (List.replicate np (Value.int .i64 0)).toArray 3), by simp [execOp, f, make_ints np (by omega) y, Result.andThen], ⟨_, rfl, by omega, ?_⟩, below_alloc _⟩
      rw [intsV_repl]
      exact RowV.new y _ _
    | 8, _ =>
      have hoo := Option.some.inj ho
      subst hoo
      have x3 : NothF w.heap.size nP np P pc R1 e1 3 (ρ (.tmp 8)) y := hd ⟨3, .data⟩ (by simp) (by rfl)
      obtain ⟨A, fa, hA1, hA2⟩ := x3
      have x7 : NothF w.heap.size nP np P pc R1 e1 7 (ρ (.tmp 12)) y := hd ⟨7, .data⟩ (by simp) (by rfl)
      obtain ⟨F, ff, hF1, hF2⟩ := x7
      exact ⟨.agg #[.slice (some ⟨A, 0, none⟩) nP nP, .slice (some ⟨F, 0, none⟩) np np], y, by simp [execOp, fa, ff, go_sem], ⟨A, F, rfl, hA1, hF1, hA2, hF2⟩, Below.refl _ _⟩
    | j + 9, hk => omega
  case hlast =>
    intro o ho vals y hI hF
    have hoo := Option.some.inj ho
    subst hoo
    have x8 : NothF w.heap.size nP np P pc R1 e1 8 (vals 13) y := hF 8 (by decide)
    obtain ⟨A, F, q8, hA1, hF1, hA2, hF2⟩ := x8
    have hys := hI.2.size
    have nA : A ≠ w.heap.size + 1 + 1 := fun e => by
      have := hI.1.r
      rw [← e, hA2] at this
      injection this with this
      injection this with _ t _
      exact absurd t (by decide)
    have nF : F ≠ w.heap.size + 1 + 1 := fun e => by
      have := hI.1.r
      rw [← e, hF2] at this
      injection this with this
      injection this with _ t _
      exact absurd t (by decide)
    refine ox_store2 (g := w.heap.size + 1 + 1) (u := .slice (some ⟨A, 0, none⟩) nP nP) (v := .slice (some ⟨F, 0, none⟩) np np) rfl rfl rfl q8 ⟨_, _, _, _, _, _, rfl, rfl⟩ hI.1.r ?_
    have hend := row_set2 hI.1.r (.slice (some ⟨A, 0, none⟩) nP nP) (.slice (some ⟨F, 0, none⟩) np np)
    have hbe : Below w.heap.size w ((y.setCell ⟨w.heap.size + 1 + 1, 0, none⟩ (.slice (some ⟨A, 0, none⟩) nP nP)).setCell ⟨w.heap.size + 1 + 1, 1, none⟩ (.slice (some ⟨F, 0, none⟩) np np)) := (HBEL.out.trans (hI.2.mono HBEL.out.size)).trans (below_set2 (by omega) _ _)
    have e1 : RowV A 4 (boolsV (List.replicate nP false)) ((y.setCell ⟨w.heap.size + 1 + 1, 0, none⟩ (.slice (some ⟨A, 0, none⟩) nP nP)).setCell ⟨w.heap.size + 1 + 1, 1, none⟩ (.slice (some ⟨F, 0, none⟩) np np)) := by
      unfold RowV
      rw [heap_setCell_other _ _ _ _ nA, heap_setCell_other _ _ _ _ nA]
      exact hA2
    have e2 : RowV F 3 (intsV (List.replicate np 0)) ((y.setCell ⟨w.heap.size + 1 + 1, 0, none⟩ (.slice (some ⟨A, 0, none⟩) nP nP)).setCell ⟨w.heap.size + 1 + 1, 1, none⟩ (.slice (some ⟨F, 0, none⟩) np np)) := by
      unfold RowV
      rw [heap_setCell_other _ _ _ _ nF, heap_setCell_other _ _ _ _ nF]
      exact hF2
    have HE := Lib.hid (And.intro hend (And.intro hbe (And.intro e1 e2)))
    clear hend hbe e1 e2 hF hI
    simp only [fillA, fillL, List.contains_cons, List.contains_nil, Nat.reduceBEq, Bool.or_false, Bool.or_true, cond_true, cond_false, Nat.zero_add, Nat.reduceAdd]
    go_wp2
    refine bodyPost_ret (v := .agg #[.slice (some ⟨A, 0, none⟩) nP nP, .slice (some ⟨F, 0, none⟩) np np]) ?_ rfl ⟨A, F, rfl, hA1, hF1, HE.out.2.2.1, HE.out.2.2.2, HE.out.2.1⟩
    exact results_cell_row rfl _ _ (w.heap.size + 1 + 1) _ _ _ _ rfl HE.out.1 Tryz.underlying31 rfl (by kernel_rfl)
end
theorem GotNew.isM {n m : Nat} {w w' : World} {e : Ending} (h : GotNew n m w e w') (hn : n ≤ 400) (hm : m ≤ 400) : ∃ A F, e = .returned (.agg #[.slice (some ⟨A, 0, none⟩) n n, .slice (some ⟨F, 0, none⟩) m m]) ∧ IsM w' (some ⟨A, 0, none⟩) n n (some ⟨F, 0, none⟩) m m (List.replicate n false) (List.replicate m 0) ∧ Below w.heap.size w w' := by
  obtain ⟨A, F, he, _, _, h1, h2, hb⟩ := h
  exact ⟨A, F, he, ⟨by simp, by simp, hn, hm, row_bools h1, row_ints' h2, fun e => (by cases e), fun e => (by cases e)⟩, hb⟩
/-- What New hands back. -/
def GotMem (T : Task) (w : World) (e : Ending) (w' : World) : Prop := Below w.heap.size w w' ∧
  ((LowOk T ∧ ∃ A F, e = .returned (.tuple #[.agg #[.slice (some ⟨A, 0, none⟩) (lowP T).length (lowP T).length, .slice (some ⟨F, 0, none⟩) T.parts.length T.parts.length], .int .i64 0]) ∧ IsM w' (some ⟨A, 0, none⟩) (lowP T).length (lowP T).length (some ⟨F, 0, none⟩) T.parts.length T.parts.length (List.replicate (lowP T).length false) (List.replicate T.parts.length 0)) ∨
   (¬ LowOk T ∧ e = .returned (.tuple #[.agg #[.slice none 0 0, .slice none 0 0], .int .i64 (lowX T)])))
section
variable {s : Sh} {T : Task} {A : Option Addr} {n c : Nat} {F : Option Addr} {m d : Nat} {D : List Bool} {V : List Int}
set_option maxRecDepth 100000 in
set_option maxHeartbeats 8000000 in
theorem echeck_any (w : World) (hD : IsD w s T) (hM : IsM w A n c F m d D V) :
    Calls Tryz.prog 15 #[s.arg T.period T.deadline, .agg #[.slice A n c, .slice F m d]] w fun e w' => e = .returned (.int .i64 (chkM T D V)) ∧ Below w.heap.size w w' := by
  have HS := Lib.hid (BxM.start hD hM)
  have HCZ := Lib.hid (fun h : MemOk T D V => chkM_zero.mpr h)
  obtain ⟨P, np, pc, E, ne, ec, Fu, nf, fc, R, nr, rc⟩ := s
  have CR := Lib.hid (fun W (h1 : IsD W ⟨P, np, pc, E, ne, ec, Fu, nf, fc, R, nr, rc⟩ T) (h2 : IsM W A n c F m d D V) => eread_any W h1 h2)
  obtain ⟨w0, hw0⟩ : ∃ w0, w0 = (w.alloc (.cells #[.int .i64 T.period, .int .i64 T.deadline, .slice P np pc, .slice E ne ec, .slice Fu nf fc, .slice R nr rc] 27)).alloc (.cells #[.slice A n c, .slice F m d] 31) := ⟨_, rfl⟩
  simp only at HS
  rw [← hw0] at HS
  have HW := Lib.hid hw0
  obtain ⟨r, hr⟩ : ∃ r, r = chkM T D V := ⟨_, rfl⟩
  unfold GotRead at CR
  rw [← hr] at CR HCZ ⊢
  clear hD hM hw0 hr
  go_enter Tryz.func15, Tryz.ntmps15
  go_wp2_with fail
  rw [← HW.out]
  clear HW
  refine (CR.out _ HS.out.isd HS.out.mem).mono ?_
  rintro e w1 ⟨b1, ⟨hok, A1, c1, F1, d1, R1, e1, g, rfl, _⟩ | ⟨hno, rfl⟩⟩
  · have HZ := Lib.hid (HCZ.out hok)
    have HB := Lib.hid (HS.out.bel.trans (b1.mono HS.out.bel.size))
    clear b1 hok HCZ CR HS
    go_wp2
    go_ret
    exact ⟨by rw [HZ.out]; rfl, HB.out.alloc HB.out.size _⟩
  · have HB := Lib.hid (HS.out.bel.trans (b1.mono HS.out.bel.size))
    clear b1 hno HCZ CR HS
    go_wp2
    go_ret
    exact ⟨rfl, HB.out.alloc HB.out.size _⟩
set_option maxRecDepth 100000 in
set_option maxHeartbeats 8000000 in
theorem enew_any (w : World) (hD : IsD w s T) : Calls Tryz.prog 18 #[s.arg T.period T.deadline] w (GotMem T w) := by
  have HS := Lib.hid (Bx1T.start hD.t)
  have HD := Lib.hid hD
  by_cases hL : LowOk T
  · have CL := Lib.hid (fun W s (h : IsD W s T) => lower_ok hL h)
    have HLEN := Lib.hid (low_few hL.1)
    have HLOW := Lib.hid hL
    have HPL := Lib.hid hD.t.hp
    have hnp4 : s.np ≤ 400 := by have h1 := hD.few.np; have h2 := hD.t.hp; omega
    obtain ⟨P, np, pc, E, ne, ec, Fu, nf, fc, R, nr, rc⟩ := s
    simp only at HS HPL hnp4
    obtain ⟨w0, hw0⟩ : ∃ w0, w0 = w.alloc (.cells #[.int .i64 T.period, .int .i64 T.deadline, .slice P np pc, .slice E ne ec, .slice Fu nf fc, .slice R nr rc] 27) := ⟨_, rfl⟩
    rw [← hw0] at HS
    have hb0 : Below w.heap.size w w0 := by rw [hw0]; exact below_alloc _
    have hs0 : w0.heap.size = w.heap.size + 1 := by rw [hw0]; simp
    have hr0 := heap_alloc_new w0 (.cells #[.slice none 0 0, .slice none 0 0] 31)
    obtain ⟨w1, hw1⟩ : ∃ w1, w1 = w0.alloc (.cells #[.slice none 0 0, .slice none 0 0] 31) := ⟨_, rfl⟩
    rw [← hw1, hs0] at hr0
    have hb1 : Below w0.heap.size w0 w1 := by rw [hw1]; exact below_alloc _
    have HW := Lib.hid (And.intro hw0 hw1)
    have HS1 := Lib.hid (HS.out.next hb1)
    have HD1 := Lib.hid ((HD.out.below hb0).below hb1)
    have HR := Lib.hid hr0
    obtain ⟨nw, hnw⟩ : ∃ n, (lowW T).length = n := ⟨_, rfl⟩
    obtain ⟨nE, hnE⟩ : ∃ n, (lowE T).length = n := ⟨_, rfl⟩
    obtain ⟨nP, hnP⟩ : ∃ n, (lowP T).length = n := ⟨_, rfl⟩
    unfold GotMem
    rw [hnw, hnE, hnP] at CL HLEN
    rw [hnP, HPL.out]
    have hnp3 : nP ≤ 400 := by have := HLEN.out.2.2; omega
    clear hD hL hw0 hw1 hb0 hb1 hs0 hr0 HS HD hnw hnE hnP
    go_enter Tryz.func18, Tryz.ntmps18
    go_wp2_with fail
    rw [← HW.out.1, ← HW.out.2]
    clear HW
    refine (CL.out _ _ HD1.out).mono ?_
    rintro e w2 ⟨A1, c1, F1, d1, R1, e1, rfl, hl, b2⟩
    have hs2 := HS1.out.next b2
    obtain ⟨k0, k1, k2, k3, k4, k5⟩ := hs2.c
    simp only at k0 k1 k2 k3 k4 k5
    have HS2 := Lib.hid hs2
    have hr2 := (b2.block _ (Array.getElem?_eq_some_iff.1 HR.out).1).trans HR.out
    have hlt := (Array.getElem?_eq_some_iff.1 hr2).1
    have hl0 : w.heap.size < w2.heap.size := by omega
    have HR2 := Lib.hid hr2
    clear b2 hl hs2 hr2 HS1 HD1 HR CL
    go_wp2_with fail
    refine (nothing_any _ hnp3 hnp4).mono ?_
    intro e w4 hG
    have hGM := hG
    obtain ⟨A, F, rfl, hA, hF, hrA, hrF, b4⟩ := hG
    have hsz3 : w2.heap.size < w4.heap.size := by have := b4.size; simp at this; omega
    have hr4 := (b4.block (w.heap.size + 1) (by simp; omega)).trans ((Below.heap_alloc w2 _ _ hlt).trans HR2.out)
    have HR4 := Lib.hid hr4
    have HB4 := Lib.hid ((HS2.out.bel.alloc HS2.out.bel.size _).trans (b4.mono (by have := HS2.out.bel.size; simp; omega)))
    have HRA := Lib.hid hrA
    have HRF := Lib.hid hrF
    have nA : A ≠ w.heap.size + 1 := by simp at hA; omega
    have nF : F ≠ w.heap.size + 1 := by simp at hF; omega
    have y0 := cell_of_row w4 (w.heap.size + 1) 0 _ _ _ hr4
    have y1 := cell_of_row w4 (w.heap.size + 1) 1 _ _ _ hr4
    simp at y0 y1
    have z0 := frozen_of_row w4 (w.heap.size + 1) 0 _ _ hr4
    have z1 := frozen_of_row w4 (w.heap.size + 1) 1 _ _ hr4
    clear hGM hrA hrF b4 hr4 k0 k1 k2 k3 k4 k5 hA hF HS2 HR2
    go_wp2
    have hend := load_mem (row_set2 HR4.out (.slice (some ⟨A, 0, none⟩) nP nP) (.slice (some ⟨F, 0, none⟩) np np))
    have e1 := HRA.out
    have e2 := HRF.out
    unfold RowV at e1 e2
    rw [← heap_setCell_other w4 ⟨w.heap.size + 1, 0, none⟩ _ (.slice (some ⟨A, 0, none⟩) nP nP) nA, ← heap_setCell_other _ ⟨w.heap.size + 1, 1, none⟩ _ (.slice (some ⟨F, 0, none⟩) np np) nA] at e1
    rw [← heap_setCell_other w4 ⟨w.heap.size + 1, 0, none⟩ _ (.slice (some ⟨A, 0, none⟩) nP nP) nF, ← heap_setCell_other _ ⟨w.heap.size + 1, 1, none⟩ _ (.slice (some ⟨F, 0, none⟩) np np) nF] at e2
    refine bodyPost_ret (v := .tuple #[.agg #[.slice (some ⟨A, 0, none⟩) nP nP, .slice (some ⟨F, 0, none⟩) np np], .int .i64 0]) ?_ rfl ⟨HB4.out.trans (below_set2 (by omega) _ _), .inl ⟨HLOW.out, A, F, rfl, ⟨by simp, by simp, hnp3, hnp4, row_bools e1, row_ints' e2, fun e => (by cases e), fun e => (by cases e)⟩⟩⟩
    rw [results_row_tmp1 (p := 2) (u := 3) rfl _ _ (w.heap.size + 1) _ rfl hend]
    rfl
  · have hX : lowX T ≠ 0 := fun k => hL (lowX_zero.mp k)
    have HNO := Lib.hid hL
    obtain ⟨P, np, pc, E, ne, ec, Fu, nf, fc, R, nr, rc⟩ := s
    obtain ⟨nw, hnw⟩ : ∃ n, (lowWv T).length = n := ⟨_, rfl⟩
    obtain ⟨nE, hnE⟩ : ∃ n, (lowEv T).length = n := ⟨_, rfl⟩
    obtain ⟨nP, hnP⟩ : ∃ n, (lowPv T).length = n := ⟨_, rfl⟩
    have CL := Lib.hid (fun W s (h : IsD W s T) => lower_sz hnw hnE hnP h)
    obtain ⟨r, hr⟩ : ∃ r, r = lowX T := ⟨_, rfl⟩
    unfold GotMem
    rw [← hr] at CL hX ⊢
    have hb : (r != 0) = true := bne_iff_ne.mpr hX
    simp only at HS
    obtain ⟨w0, hw0⟩ : ∃ w0, w0 = w.alloc (.cells #[.int .i64 T.period, .int .i64 T.deadline, .slice P np pc, .slice E ne ec, .slice Fu nf fc, .slice R nr rc] 27) := ⟨_, rfl⟩
    rw [← hw0] at HS
    have hb0 : Below w.heap.size w w0 := by rw [hw0]; exact below_alloc _
    have hs0 : w0.heap.size = w.heap.size + 1 := by rw [hw0]; simp
    have hr0 := heap_alloc_new w0 (.cells #[.slice none 0 0, .slice none 0 0] 31)
    obtain ⟨w1, hw1⟩ : ∃ w1, w1 = w0.alloc (.cells #[.slice none 0 0, .slice none 0 0] 31) := ⟨_, rfl⟩
    rw [← hw1, hs0] at hr0
    have hb1 : Below w0.heap.size w0 w1 := by rw [hw1]; exact below_alloc _
    have HW := Lib.hid (And.intro hw0 hw1)
    have HS1 := Lib.hid (HS.out.next hb1)
    have HD1 := Lib.hid ((HD.out.below hb0).below hb1)
    have HR := Lib.hid hr0
    clear hD hL hX hr hw0 hw1 hb0 hb1 hs0 hr0 HS HD hnw hnE hnP
    go_enter Tryz.func18, Tryz.ntmps18
    go_wp2_with fail
    rw [← HW.out.1, ← HW.out.2]
    clear HW
    refine (CL.out _ _ HD1.out).mono ?_
    rintro e w2 ⟨A1, c1, F1, d1, R1, e1, rfl, _, b2⟩
    have HS2 := Lib.hid (HS1.out.next b2)
    have hr2 := (b2.block _ (Array.getElem?_eq_some_iff.1 HR.out).1).trans HR.out
    have hlt := (Array.getElem?_eq_some_iff.1 hr2).1
    have HR2 := Lib.hid hr2
    have y0 := cell_of_row w2 (w.heap.size + 1) 0 _ _ _ hr2
    have y1 := cell_of_row w2 (w.heap.size + 1) 1 _ _ _ hr2
    simp at y0 y1
    have z0 := frozen_of_row w2 (w.heap.size + 1) 0 _ _ hr2
    have z1 := frozen_of_row w2 (w.heap.size + 1) 1 _ _ hr2
    clear b2 hr2 HS1 HD1 HR CL
    go_wp2
    have hend := load_mem (row_end2 HR2.out (.slice none 0 0) (.slice none 0 0) (.cells #[.slice A1 nw c1, .slice F1 nE d1, .slice R1 nP e1] 60))
    refine bodyPost_ret (v := .tuple #[.agg #[.slice none 0 0, .slice none 0 0], .int .i64 r]) ?_ rfl
      ⟨(HS2.out.bel.trans (below_set2 (by omega) _ _)).alloc (by rw [size_set2]; omega) _, .inr ⟨HNO.out, rfl⟩⟩
    rw [results_row_tmp1 (p := 2) (u := 3) rfl _ _ (w.heap.size + 1) _ rfl hend]
    rfl
end
end Go.Proofs.YtkmajhbfmdoamaaGreatDoor
