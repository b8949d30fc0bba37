/- Tasks in boxes of the call's own, filled by Own, in the seat YtpckmhmabmmllaaDoor. No statement is proved here. -/
import Derived.Test.YtpckmhmabmmllaaDoorZDescWalk0
import Derived.Test.YtpckmhmabmmllaaDoorZM5
set_option linter.unusedVariables false
namespace Go.Proofs.YtpckmhmabmmllaaDoor
open Go Go.RowKit

/-- A task in a box g of the call's own, with rows of its own (from base on). -/
structure BoxD (base : Nat) (p q : Int) (T : Task) (g : Nat) (u1 u2 u3 u4 : Value) (w : World) : Prop where
  row : w.heap[g]? = some (.cells #[.int .i64 p, .int .i64 q, u1, u2, u3, u4] 27 (0, 0))
  le : base ≤ g
  parts : OwnT 42 w base u1 T.parts
  edges : OwnE w base u2 T.edges
  futures : OwnT 39 w base u3 T.futures
  bars : OwnB w base u4 T.bars
/-- What Own hands out. -/
def OwnV (base : Nat) (p q : Int) (T : Task) (v : Value) (w : World) : Prop :=
  ∃ u1 u2 u3 u4, v = .agg #[.int .i64 p, .int .i64 q, u1, u2, u3, u4] ∧ OwnT 42 w base u1 T.parts ∧ OwnE w base u2 T.edges ∧ OwnT 39 w base u3 T.futures ∧ OwnB w base u4 T.bars
theorem own_rx {w w' : World} {b0 base : Nat} {e D : TypeId} {s n : Nat} {v : Value} {xs : List Value} (h : w.ownsRow b0 e s v n xs) (hne : e ≠ D) (hr : RX base D w w') : w'.ownsRow b0 e s v n xs := by
  refine ⟨h.1, ?_⟩
  rcases h.2 with hn | ⟨g, cap, cur, rfl, hg, hgg, rest⟩
  · exact .inl hn
  · refine .inr ⟨g, cap, cur, rfl, hg, ?_, rest⟩
    rcases hr.block g _ hgg with h1 | ⟨_, cs, h1⟩
    · exact h1
    · injection h1 with _ h2 _
      exact absurd h2 hne
theorem OwnV.rx {base : Nat} {p q : Int} {T : Task} {v : Value} {w w' : World} (h : OwnV base p q T v w) (hr : RX base 27 w w') : OwnV base p q T v w' := by
  obtain ⟨u1, u2, u3, u4, e, h1, h2, h3, cs, h4, h5, h6⟩ := h
  exact ⟨u1, u2, u3, u4, e, own_rx h1 (by decide) hr, own_rx h2 (by decide) hr, own_rx h3 (by decide) hr, cs, h4, own_rx h5 (by decide) hr, fun k c b hc hb => ⟨own_rx (h6 k c b hc hb).1 (by decide) hr, own_rx (h6 k c b hc hb).2 (by decide) hr⟩⟩
def aggOf (v : Value) : Array Value := match v with | .agg cs => cs | _ => #[]
theorem own_v {s : Sh} {T : Task} {w : World} {base : Nat} (hb : base ≤ w.heap.size) (h : IsD w s T) :
    Calls Tryd.prog 12 #[s.arg T.period T.deadline] w fun e w' => ∃ v, e = .returned v ∧ OwnV base T.period T.deadline T v w' ∧ Below w.heap.size w w' :=
  (down_any s T w h.few h.t).mono fun e w' ⟨u1, u2, u3, u4, he, h1, h2, h3, h4, b⟩ => ⟨_, he, ⟨u1, u2, u3, u4, rfl, own_less h1 hb, own_less h2 hb, own_less h3 hb, h4.less hb⟩, b⟩
set_option maxHeartbeats 1000000 in
theorem store_desc {o : Oper} {ρ : Operand → Value} {w : World} {x y : Operand} {g : Nat} {cs : Array Value} {base : Nat} {p q : Int} {T : Task} (hop : o.op = .store 27 x y) (hx : ρ x = .pointer (some ⟨g, 0, none⟩)) (hg : w.heap[g]? = some (.cells cs 27 (0, 0)))
    (hc : cs.size = 6) (hv : OwnV base p q T (ρ y) w) : ∃ w', (execOp ρ o).run Tryd.prog w = .ok .skip w' ∧ Filled 27 g (aggOf (ρ y)) w w' := by
  obtain ⟨u1, u2, u3, u4, e, h1, h2, h3, h4⟩ := hv
  obtain ⟨l⟩ := cs
  match l, hc with
  | [v0, v1, v2, v3, v4, v5], _ =>
    have hu : ∀ (u : Value) (bs : List Value) {t : TypeId} {k n : Nat}, w.ownsRow base t k u n bs → ∃ A c, u = .slice A n c := fun u bs t k n h => by
      rcases h.2 with ⟨r1, r2⟩ | ⟨g', cap, cur, r1, _⟩
      · exact ⟨none, 0, by rw [r1, r2]⟩
      · exact ⟨_, _, r1⟩
    obtain ⟨A1, c1, rfl⟩ := hu _ _ h1
    obtain ⟨A2, c2, rfl⟩ := hu _ _ h2
    obtain ⟨A3, c3, rfl⟩ := hu _ _ h3
    obtain ⟨_, _, h5, _⟩ := h4
    obtain ⟨A4, c4, rfl⟩ := hu _ _ h5
    have d0 := cell_of_row w g 0 _ _ _ hg
    have d1 := cell_of_row w g 1 _ _ _ hg
    have d2 := cell_of_row w g 2 _ _ _ hg
    have d3 := cell_of_row w g 3 _ _ _ hg
    have d4 := cell_of_row w g 4 _ _ _ hg
    have d5 := cell_of_row w g 5 _ _ _ hg
    have z0 := frozen_of_row w g 0 _ _ hg
    have z1 := frozen_of_row w g 1 _ _ hg
    have z2 := frozen_of_row w g 2 _ _ hg
    have z3 := frozen_of_row w g 3 _ _ hg
    have z4 := frozen_of_row w g 4 _ _ hg
    have z5 := frozen_of_row w g 5 _ _ hg
    simp at d0 d1 d2 d3 d4 d5
    refine ⟨_, by simp only [execOp, hop]; rw [e, hx]; simp [go_sem, d0, d1, d2, d3, d4, d5, z0, z1, z2, z3, z4, z5]; rfl, ?_⟩
    rw [e]
    refine ⟨by simp only [World.setCell], by simp only [World.setCell], by simp only [World.setCell], by simp only [World.setCell, Array.size_modify], ?_, fun k hk => ?_⟩
    · have k0 := heap_setCell_same w g 0 _ _ (.int .i64 p) hg
      have k1 := heap_setCell_same _ g 1 _ _ (.int .i64 q) k0
      have k2 := heap_setCell_same _ g 2 _ _ (.slice A1 T.parts.length c1) k1
      have k3 := heap_setCell_same _ g 3 _ _ (.slice A2 T.edges.length c2) k2
      have k4 := heap_setCell_same _ g 4 _ _ (.slice A3 T.futures.length c3) k3
      have k5 := heap_setCell_same _ g 5 _ _ (.slice A4 T.bars.length c4) k4
      refine k5.trans ?_
      simp [aggOf]
    · rw [heap_setCell_other _ _ _ _ hk, heap_setCell_other _ _ _ _ hk, heap_setCell_other _ _ _ _ hk, heap_setCell_other _ _ _ _ hk, heap_setCell_other _ _ _ _ hk, heap_setCell_other _ _ _ _ hk]
section
variable {base : Nat} {p q : Int} {T : Task} {g : Nat} {u1 u2 u3 u4 : Value} {w w' : World}
theorem OwnV.box {v : Value} (h : OwnV base p q T v w) (hg : w.heap[g]? = some (.cells (aggOf v) 27 (0, 0))) (hb : base ≤ g) : ∃ u1 u2 u3 u4, BoxD base p q T g u1 u2 u3 u4 w := by
  obtain ⟨u1, u2, u3, u4, e, h1, h2, h3, h4⟩ := h
  rw [e] at hg
  exact ⟨u1, u2, u3, u4, hg, hb, h1, h2, h3, h4⟩
theorem BoxD.below (h : BoxD base p q T g u1 u2 u3 u4 w) (hb : Below w.heap.size w w') : BoxD base p q T g u1 u2 u3 u4 w' :=
  ⟨by rw [hb.block g (Array.getElem?_eq_some_iff.1 h.row).1]; exact h.row, h.le, h.parts.below hb, own_below h.edges hb, h.futures.below hb, h.bars.below hb⟩
/-- It lies as a task. -/
theorem BoxD.lies (h : BoxD base p q T g u1 u2 u3 u4 w) (hF : FewT T) (hW : DTab w) : ∃ s : Sh, u1 = .slice s.P s.np s.pc ∧ u2 = .slice s.E s.ne s.ec ∧ u3 = .slice s.F s.nf s.fc ∧ u4 = .slice s.R s.nr s.rc ∧ CellsD w s p q g ∧ ∀ p' q', IsD w s ⟨p', q', T.parts, T.edges, T.futures, T.bars⟩ := by
  have q2 := h.edges
  have q3 := h.futures
  obtain ⟨P, pc, rfl, t1, n1⟩ := h.parts.slice
  obtain ⟨E, ec, rfl, t2, n2⟩ := h.edges.slice'
  obtain ⟨F, fc, rfl, t3, n3⟩ := h.futures.slice
  obtain ⟨R, rc, rfl, t4, n4⟩ := h.bars.slice
  have d0 := cell_of_row w g 0 _ _ _ h.row
  have d1 := cell_of_row w g 1 _ _ _ h.row
  have d2 := cell_of_row w g 2 _ _ _ h.row
  have d3 := cell_of_row w g 3 _ _ _ h.row
  have d4 := cell_of_row w g 4 _ _ _ h.row
  have d5 := cell_of_row w g 5 _ _ _ h.row
  exact ⟨⟨P, _, pc, E, _, ec, F, _, fc, R, _, rc⟩, rfl, rfl, rfl, rfl, ⟨d0, d1, d2, d3, d4, d5⟩, fun _ _ => ⟨⟨rfl, rfl, rfl, rfl, t1, t2, t3, t4, n1, n2, n3, n4⟩, ⟨hF.np, hF.ne, hF.nf, hF.nr, hF.bars⟩, hW, own_cap q2, own_cap q3⟩⟩
/-- A store into another box. -/
theorem BoxD.other {g' : Nat} {cs : Array Value} (h : BoxD base p q T g u1 u2 u3 u4 w) (hg : w.heap[g']? = some (.cells cs 27 (0, 0))) (hne : g ≠ g') (hk : ∀ k, k ≠ g' → w'.heap[k]? = w.heap[k]?) : BoxD base p q T g u1 u2 u3 u4 w' :=
  ⟨by rw [hk g hne]; exact h.row, h.le, other_own h.parts hg (by decide) hk, other_own h.edges hg (by decide) hk, other_own h.futures hg (by decide) hk, by
    obtain ⟨cs', h4, h5, h6⟩ := h.bars
    exact ⟨cs', h4, other_own h5 hg (by decide) hk, fun k c b hc hb => ⟨other_own (h6 k c b hc hb).1 hg (by decide) hk, other_own (h6 k c b hc hb).2 hg (by decide) hk⟩⟩⟩
/-- Another period. -/
theorem BoxD.setP (h : BoxD base p q T g u1 u2 u3 u4 w) (n : Int) : BoxD base n q T g u1 u2 u3 u4 (w.setCell ⟨g, 0, none⟩ (.int .i64 n)) := by
  have hk : ∀ k, k ≠ g → (w.setCell ⟨g, 0, none⟩ (.int .i64 n)).heap[k]? = w.heap[k]? := fun k hk => heap_setCell_other _ _ _ _ hk
  refine ⟨heap_setCell_same _ g 0 _ _ _ h.row, h.le, other_own h.parts h.row (by decide) hk, other_own h.edges h.row (by decide) hk, other_own h.futures h.row (by decide) hk, ?_⟩
  obtain ⟨cs', h4, h5, h6⟩ := h.bars
  exact ⟨cs', h4, other_own h5 h.row (by decide) hk, fun k c b hc hb => ⟨other_own (h6 k c b hc hb).1 h.row (by decide) hk, other_own (h6 k c b hc hb).2 h.row (by decide) hk⟩⟩
/-- Another deadline. -/
theorem BoxD.setQ (h : BoxD base p q T g u1 u2 u3 u4 w) (n : Int) : BoxD base p n T g u1 u2 u3 u4 (w.setCell ⟨g, 1, none⟩ (.int .i64 n)) := by
  have hk : ∀ k, k ≠ g → (w.setCell ⟨g, 1, none⟩ (.int .i64 n)).heap[k]? = w.heap[k]? := fun k hk => heap_setCell_other _ _ _ _ hk
  refine ⟨heap_setCell_same _ g 1 _ _ _ h.row, h.le, other_own h.parts h.row (by decide) hk, other_own h.edges h.row (by decide) hk, other_own h.futures h.row (by decide) hk, ?_⟩
  obtain ⟨cs', h4, h5, h6⟩ := h.bars
  exact ⟨cs', h4, other_own h5 h.row (by decide) hk, fun k c b hc hb => ⟨other_own (h6 k c b hc hb).1 h.row (by decide) hk, other_own (h6 k c b hc hb).2 h.row (by decide) hk⟩⟩
end
/-- 'x, y .. := Own(d), Own(d) ..': n boxes. -/
theorem wp_boxes_d {ops : Array Oper} {Q : Exit → Act → World → Prop} (n : Nat) (ld ow al : List Nat) {id : Nat} {a0 : Act} {w wB : World} {s : Sh} {T : Task} (hB : boxesB ops n ld ow al 27 = true) (hsz : ∀ d ∈ ld ++ ow ++ al, d < a0.tmps.size) (hX : Bx1D w s T wB)
    (hload : ∀ j o, j < n → ops[2 * j]? = some o → ∃ t, o.op = .load 27 (.tmp t) ∧ t ∉ ld ++ ow ++ al ∧ a0.eval (.tmp t) = .pointer (some ⟨w.heap.size, 0, none⟩))
    (hcall : ∀ j o, j < n → ops[2 * j + 1]? = some o → ∃ tys, o.op = .call { callee := .value (.func 12), args := #[.tmp (ld.getD j 0)], argTypes := tys })
    (hend : ∀ (vals : Nat → Value) (w' : World), Bx1D w s T w' → Below wB.heap.size wB w' → (∀ j, j < n → ∃ g u1 u2 u3 u4, vals (al.getD j 0) = .pointer (some ⟨g, 0, none⟩) ∧ BoxD wB.heap.size T.period T.deadline T g u1 u2 u3 u4 w') →
      (∀ j k, j < n → k < n → j ≠ k → vals (al.getD j 0) ≠ vals (al.getD k 0)) → Q .normal ⟨(fillA a0 (ld ++ ow ++ al) vals).toArray, a0.defers⟩ w') :
    (Code.region id ops true).wp Tryd.prog Q a0 wB := by
  refine wp_region_boxes n ld ow al 27 6 #[.int .i64 0, .int .i64 0, .slice none 0 0, .slice none 0 0, .slice none 0 0, .slice none 0 0] (by kernel_rfl) hB hsz wB.heap.size rfl (s.arg T.period T.deadline) (fun x => Below wB.heap.size wB x) (OwnV wB.heap.size T.period T.deadline T) aggOf
    (fun x y h hb hr => h.trans (hr.below hb)) (fun v x y h hr => h.rx hr) (Below.refl _ _).drew rfl (fun v x h => by obtain ⟨u1, u2, u3, u4, e, _⟩ := h; rw [e]; rfl)
    (fun j o hj ho ρ x hI hA => ?_) (fun j o hj ho a x hI hv K hK => ?_) (fun o ρ x hop => by simp only [execOp, hop]; simp [go_sem]) (fun o ρ x y z g cs hop hx hg hc hv => store_desc hop hx hg hc hv)
    (fun vals x hI hb hG hA hne => hend vals x (hX.next hI) hI (fun j hj => ?_) hne)
  · obtain ⟨t, h1, h2, h3⟩ := hload j o hj ho
    exact ld_desc h1 ((hA.tmp t h2).trans h3) (hX.next hI).c
  · obtain ⟨tys, h1⟩ := hcall j o hj ho
    exact fx_call (k := 0) (Φ := fun _ v w => OwnV wB.heap.size T.period T.deadline T v w) hK rfl _ _ _ _ h1 (by rw [Array.map_singleton, hv]) (eg_of Tryd.func12 (by kernel_rfl) rfl) (own_v hI.size (hX.next hI).d)
  · obtain ⟨g, h1, h2, h3⟩ := hA j hj
    obtain ⟨u1, u2, u3, u4, h4⟩ := (hG j hj).box h3 h2
    exact ⟨g, u1, u2, u3, u4, h1, h4⟩
end Go.Proofs.YtpckmhmabmmllaaDoor
