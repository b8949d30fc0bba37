/- Own of trefoillaw07 in the seat YtecjpclkiiaidaaDoor: its contract. No statement is proved here. -/
import Derived.Test.YtecjpclkiiaidaaDoorZM25
import Derived.Test.YtecjpclkiiaidaaDoorZOwnDag
import Derived.Test.YtecjpclkiiaidaaDoorZM4
import Derived.Laws.ResultCell
set_option linter.unusedVariables false
namespace Go.Proofs.YtecjpclkiiaidaaDoor
open Go.RowKit

/-- A store of a struct of three cells. -/
theorem ox_store3 {o : Oper} {a : Act} {x : World} {K : Act → World → Prop} {Q : Exit → Act → World → Prop} {s y : Operand} {g : Nat} {u v z u0 v0 z0 : Value} (hop : o.op = .store 28 s y) (hdst : o.dst = none)
    (hs : a.eval s = .pointer (some ⟨g, 0, none⟩)) (hy : a.eval y = .agg #[u, v, z]) (h1 : ∃ A n c F m d R k e, u = .slice A n c ∧ v = .slice F m d ∧ z = .slice R k e) (hg : x.heap[g]? = some (.cells #[u0, v0, z0] 28 (0, 0)))
    (hK : K a (((x.setCell ⟨g, 0, none⟩ u).setCell ⟨g, 1, none⟩ v).setCell ⟨g, 2, none⟩ z)) : o.wp Tryd.prog a x K Q := by
  obtain ⟨A, n, c, F, m, d, R, k, e, rfl, rfl, rfl⟩ := h1
  have d0 := cell_of_row x g 0 _ _ _ hg
  have f0 := frozen_of_row x g 0 _ _ hg
  have d1 := cell_of_row x g 1 _ _ _ hg
  have f1 := frozen_of_row x g 1 _ _ hg
  have d2 := cell_of_row x g 2 _ _ _ hg
  have f2 := frozen_of_row x g 2 _ _ hg
  simp at d0 d1 d2
  have hr : (execOp a.eval o).run Tryd.prog x = .ok .skip (((x.setCell ⟨g, 0, none⟩ (.slice A n c)).setCell ⟨g, 1, none⟩ (.slice F m d)).setCell ⟨g, 2, none⟩ (.slice R k e)) := by
    simp only [execOp, hop]
    rw [hs, hy]
    simp [go_sem, d0, d1, d2, f0, f1, f2]
  unfold Oper.wp
  rw [hr, Oper.upon_skip, hdst]
  exact hK
theorem OwnP.pairs' {w : World} {base : Nat} {v : Value} {ps : List (Int × Int)} (h : OwnP w base v ps) : ∃ A c, v = .slice A ps.length c ∧ Pairs w w.heap.size A ps := h.pairs
theorem own_here {w : World} {base : Nat} {e t : TypeId} {s n g : Nat} {v a b c : Value} {xs : List Value} {cs : Array Value} (h : w.ownsRow base e s v n xs) (hg : w.heap[g]? = some (.cells cs t (0, 0))) (ht : e ≠ t) : (((w.setCell ⟨g, 0, none⟩ a).setCell ⟨g, 1, none⟩ b).setCell ⟨g, 2, none⟩ c).ownsRow base e s v n xs :=
  other_own h hg ht fun k hk => by rw [heap_setCell_other _ _ _ _ hk, heap_setCell_other _ _ _ _ hk, heap_setCell_other _ _ _ _ hk]
/-- The boxes of Own. -/
structure BxW (w : World) (A : Option Addr) (n c : Nat) (F : Option Addr) (m d : Nat) (R : Option Addr) (k e : Nat) (W : List Int) (E P : List (Int × Int)) (w' : World) : Prop where
  bel : Below w.heap.size w w'
  a : w'.heap[w.heap.size]? = some (.cells #[.slice A n c, .slice F m d, .slice R k e] 28 (0, 0))
  r : w'.heap[w.heap.size + 1]? = some (.cells #[.slice none 0 0, .slice none 0 0, .slice none 0 0] 28 (0, 0))
  l : InL w' A n c F m d R k e W E P
section
variable {A : Option Addr} {n c : Nat} {F : Option Addr} {m d : Nat} {R : Option Addr} {k e : Nat} {W : List Int} {E P : List (Int × Int)}
theorem BxW.next {w w1 w2 : World} (h : BxW w A n c F m d R k e W E P w1) (b : Below w1.heap.size w1 w2) : BxW w A n c F m d R k e W E P w2 :=
  ⟨h.bel.trans (b.mono h.bel.size), (b.block _ (Array.getElem?_eq_some_iff.1 h.a).1).trans h.a, (b.block _ (Array.getElem?_eq_some_iff.1 h.r).1).trans h.r, h.l.below b⟩
/-- What the operations of Own's region have yielded. -/
def OwLF (hb : Nat) (A : Option Addr) (n c : Nat) (F : Option Addr) (m d : Nat) (R : Option Addr) (k e : Nat) (W : List Int) (E P : List (Int × Int)) : Nat → Value → World → Prop
  | 0, v, _ => v = .pointer (some ⟨hb, 0, none⟩)
  | 1, v, _ => v = .agg #[.slice A n c, .slice F m d]
  | 2, v, w => ∃ u v', v = .agg #[u, v'] ∧ OwnI w (hb + 2) u W ∧ OwnE w (hb + 2) v' E
  | 3, v, w => NewRow 30 w (hb + 2) v
  | 4, v, _ => v = .pointer (some ⟨hb, 2, none⟩)
  | 5, v, _ => v = .slice R k e
  | 6, v, w => OwnP w (hb + 2) v P
  | 7, v, w => ∃ u v' x, v = .agg #[u, v', x] ∧ OwnI w (hb + 2) u W ∧ OwnE w (hb + 2) v' E ∧ OwnP w (hb + 2) x P
  | _, _, _ => True
theorem owLF_below {hb : Nat} : ∀ q v w w', OwLF hb A n c F m d R k e W E P q v w → Below w.heap.size w w' → OwLF hb A n c F m d R k e W E P q v w'
  | 0, _, _, _, h, _ | 1, _, _, _, h, _ | 4, _, _, _, h, _ | 5, _, _, _, h, _ => h
  | 2, _, _, _, ⟨u, v', h1, h2, h3⟩, hb => ⟨u, v', h1, own_below h2 hb, own_below h3 hb⟩
  | 3, _, _, _, h, hb => NewRow.below h hb
  | 6, _, _, _, h, hb => own_below h hb
  | 7, _, _, _, ⟨u, v', x, h1, h2, h3, h4⟩, hb => ⟨u, v', x, h1, own_below h2 hb, own_below h3 hb, own_below h4 hb⟩
  | _ + 8, _, _, _, _, _ => trivial
set_option maxRecDepth 100000 in
set_option maxHeartbeats 8000000 in
theorem ownL_any (w : World) (h : InL w A n c F m d R k e W E P) (ht : Tab64 w) (l1 : n ≤ 400) (l2 : m ≤ 400) (l3 : k ≤ 400) :
    Calls Tryd.prog 9 #[.agg #[.slice A n c, .slice F m d, .slice R k e]] w fun z w' => (∃ A1 c1 F1 d1 R1 e1, z = .returned (.agg #[.slice A1 n c1, .slice F1 m d1, .slice R1 k e1]) ∧ IsL w' A1 n c1 F1 m d1 R1 k e1 W E P) ∧ Below w.heap.size w w' := by
  obtain ⟨i0, hi0, hz0, hz1, hz2⟩ := info_parts5 piece_info
  obtain rfl := h.hn
  obtain rfl := h.hm
  obtain rfl := h.hk
  obtain ⟨w0, hw0⟩ : ∃ w0, w0 = (w.alloc (.cells #[.slice A W.length c, .slice F E.length d, .slice R P.length e] 28)).alloc (.cells #[.slice none 0 0, .slice none 0 0, .slice none 0 0] 28) := ⟨_, rfl⟩
  have hB0 : BxW w A W.length c F E.length d R P.length e W E P w0 := by
    have x1 := heap_alloc_new w (.cells #[.slice A W.length c, .slice F E.length d, .slice R P.length e] 28)
    obtain ⟨v1, hv1⟩ : ∃ v1, v1 = w.alloc (.cells #[.slice A W.length c, .slice F E.length d, .slice R P.length e] 28) := ⟨_, rfl⟩
    have s1 : v1.heap.size = w.heap.size + 1 := by rw [hv1]; simp
    have hb : Below w.heap.size w w0 := by rw [hw0]; exact below_alloc2 _ _
    rw [← hv1] at x1 hw0
    have x2 := heap_alloc_new v1 (.cells #[.slice none 0 0, .slice none 0 0, .slice none 0 0] 28)
    rw [← hw0, s1] at x2
    exact ⟨hb, by rw [hw0, Below.heap_alloc _ _ _ (by omega)]; exact x1, x2, h.below hb⟩
  have HB0 := Lib.hid hB0
  have HW := Lib.hid hw0
  have HT := Lib.hid ht
  clear hB0 hw0 h ht
  go_enter Tryd.func9, Tryd.ntmps9
  go_wp2_with fail
  rw [← HW.out]
  clear HW
  refine wp_region_chain2 8 [3, 4, 5, 6, 7, 8, 9, 10] [2] (by kernel_rfl) (by kernel_rfl) (by intro d hd; simp at hd ⊢; omega) (by simp) (fun _ y => BxW w A W.length c F E.length d R P.length e W E P y ∧ Below w0.heap.size w0 y) (fun y z => Below y.heap.size y z) (OwLF w.heap.size A W.length c F E.length d R P.length e W E P)
    (fun _ _ h => h) (fun j x y h hb => ⟨h.1.next hb, h.2.trans (hb.mono h.2.size)⟩) owLF_below ⟨HB0.out.next (Below.refl _ _).drew, (Below.refl _ _).drew⟩ ?hstep ?hcall (fun h => absurd h (by decide)) ?hlast
  case hstep =>
    intro q o hq hqc ho ρ j y hJ hA hd
    have t1 : ρ (.tmp 1) = .pointer (some ⟨w.heap.size, 0, none⟩) := hA.tmp 1 (by decide)
    have c0 := cell_of_row y _ 0 _ _ _ hJ.1.a
    have c1 := cell_of_row y _ 1 _ _ _ hJ.1.a
    have c2 := cell_of_row y _ 2 _ _ _ hJ.1.a
    simp at c0 c1 c2
    have hlt := (Array.getElem?_eq_some_iff.1 hJ.1.r).1
    match q, hq, hqc, ho with
    | 0, _, _, ho =>
      have hoo := Option.some.inj ho
      subst hoo
      exact ⟨.pointer (some ⟨w.heap.size, 0, none⟩), y, by simp [execOp, t1, go_sem], rfl, Below.refl _ _⟩
    | 1, _, _, ho =>
      have hoo := Option.some.inj ho
      subst hoo
      have f : ρ (.tmp 3) = .pointer (some ⟨w.heap.size, 0, none⟩) := hd ⟨0, .data⟩ (by simp) (by rfl)
      exact ⟨.agg #[.slice A W.length c, .slice F E.length d], y, by simp [execOp, f, c0, c1, go_sem], rfl, Below.refl _ _⟩
    | 2, _, hqc, _ => exact absurd (by decide) hqc
    | 3, _, _, ho =>
      have hoo := Option.some.inj ho
      subst hoo
      exact ⟨.slice (some ⟨y.heap.size, 0, none⟩) 0 0, y.alloc (.cells #[] 30), by simp [execOp, go_sem], newRow_here _ y _ (by omega), below_alloc _⟩
    | 4, _, _, ho =>
      have hoo := Option.some.inj ho
      subst hoo
      exact ⟨.pointer (some ⟨w.heap.size, 2, none⟩), y, by simp [execOp, t1, go_sem], rfl, Below.refl _ _⟩
    | 5, _, _, ho =>
      have hoo := Option.some.inj ho
      subst hoo
      have f : ρ (.tmp 7) = .pointer (some ⟨w.heap.size, 2, none⟩) := hd ⟨4, .data⟩ (by simp) (by rfl)
      exact ⟨.slice R P.length e, y, by simp [execOp, f, c2, go_sem], rfl, Below.refl _ _⟩
    | 6, _, _, ho =>
      have hoo := Option.some.inj ho
      subst hoo
      obtain ⟨g, h2, hg, hgl⟩ := hd ⟨3, .data⟩ (by simp) (by rfl)
      have h2' : ρ (.tmp 6) = _ := h2
      have h3 : ρ (.tmp 8) = .slice R P.length e := hd ⟨5, .data⟩ (by simp) (by rfl)
      obtain ⟨v', w2, hr, how, hb⟩ := fresh_append (P := Tryd.prog) y 26 26 30 i0 (.agg #[.int .i64 0, .int .i64 0]) 2 16 Tryd.underlying26 hi0 hz0 hz1 hz2 rfl (by omega) (w.heap.size + 2) g hg hgl (by omega) R P.length e (flatE P) (flatE_length P) hJ.1.l.hR (fun ad e => by have q := hJ.1.l.pcs; rw [e] at q; exact q.news) (flatE_one P) (by unfold maxLen; omega) (by omega)
      exact ⟨v', w2, by simp [execOp, resolve, invoke, builtin, h2', h3, hr, Result.andThen], how, hb⟩
    | 7, _, _, ho =>
      have hoo := Option.some.inj ho
      subst hoo
      obtain ⟨u, v', f2, h2, h3⟩ := hd ⟨2, .data⟩ (by simp) (by rfl)
      have f2' : ρ (.tmp 5) = _ := f2
      have h6 : OwnP y (w.heap.size + 2) (ρ (.tmp 9)) P := hd ⟨6, .data⟩ (by simp) (by rfl)
      obtain ⟨A1, a1, rfl, _⟩ := OwnI.slice h2
      obtain ⟨A2, a2, rfl, _⟩ := h3.slice
      obtain ⟨A3, a3, f6, _⟩ := h6.pairs
      rw [f6] at h6
      exact ⟨.agg #[.slice A1 W.length a1, .slice A2 E.length a2, .slice A3 P.length a3], y, by simp [execOp, f2', f6, go_sem], ⟨_, _, _, rfl, h2, h3, h6⟩, Below.refl _ _⟩
    | q + 8, hk, _, _ => omega
  case hcall =>
    intro i o hi ho a y hJ hA hd K hK
    match i, hi, ho with
    | 0, _, ho =>
      have hoo := Option.some.inj ho
      subst hoo
      have f1 : a.eval (.tmp 4) = .agg #[.slice A W.length c, .slice F E.length d] := hd ⟨1, .data⟩ (by simp) (by rfl)
      have hlt := (Array.getElem?_eq_some_iff.1 hJ.1.r).1
      refine fx_call (k := 2) (Φ := OwLF w.heap.size A W.length c F E.length d R P.length e W E P) (fun v w' hv hb => hK v w' hv hb ⟨hJ.1.next hb, hJ.2.trans (hb.mono hJ.2.size)⟩ (fun e => by cases e)) rfl 21 _ _ #[.agg #[.slice A W.length c, .slice F E.length d]] rfl (by simp only [List.map_toArray, List.map_cons, List.map_nil, f1]) (eg_of Tryd.func21 (by kernel_rfl) rfl) ?_
      refine (own_any A F W.length c E.length d W E y rfl (by omega) rfl (by omega) hJ.1.l.ints hJ.1.l.pairs hJ.1.l.hA hJ.1.l.hF).mono ?_
      rintro z y2 ⟨u, v', rfl, h2, h3, hb⟩
      exact ⟨_, rfl, ⟨u, v', rfl, own_less h2 (by omega), own_less h3 (by omega)⟩, hb⟩
  case hlast =>
    intro o ho vals y hJ hF
    have hoo := Option.some.inj ho
    subst hoo
    obtain ⟨u, v', x, q7, h2, h3, h4⟩ : OwLF w.heap.size A W.length c F E.length d R P.length e W E P 7 (vals 10) y := hF 7 (by decide)
    obtain ⟨hJ1, hJ2⟩ := hJ
    obtain ⟨A1, c1, rfl, _⟩ := OwnI.slice h2
    obtain ⟨F1, d1, rfl, _⟩ := h3.slice
    obtain ⟨R1, e1, rfl, _⟩ := h4.pairs
    refine ox_store3 (g := w.heap.size + 1) (u := .slice A1 W.length c1) (v := .slice F1 E.length d1) (z := .slice R1 P.length e1) rfl rfl rfl q7 ⟨_, _, _, _, _, _, _, _, _, rfl, rfl, rfl⟩ hJ1.r ?_
    have hg := hJ1.r
    have s1 := heap_setCell_same y (w.heap.size + 1) 0 _ _ (.slice A1 W.length c1) hg
    have s2 := heap_setCell_same _ (w.heap.size + 1) 1 _ _ (.slice F1 E.length d1) s1
    have s3 := heap_setCell_same _ (w.heap.size + 1) 2 _ _ (.slice R1 P.length e1) s2
    have hbe : Below w.heap.size w (((y.setCell ⟨w.heap.size + 1, 0, none⟩ (.slice A1 W.length c1)).setCell ⟨w.heap.size + 1, 1, none⟩ (.slice F1 E.length d1)).setCell ⟨w.heap.size + 1, 2, none⟩ (.slice R1 P.length e1)) :=
      ((hJ1.bel.setCell (Nat.le_succ _) _).setCell (Nat.le_succ _) _).setCell (Nat.le_succ _) _
    obtain ⟨A2, a2, F2, b2, R2, c2, e1', e2', e3', hL⟩ := own_isL (HT.out.via hbe) (own_here h2 hg (by decide)) (own_here h3 hg (by decide)) (own_here h4 hg (by decide)) l1 l2 l3
    injection e1' with e1' _ e4'
    injection e2' with e2' _ e5'
    injection e3' with e3' _ e6'
    subst e1' e2' e3' e4' e5' e6'
    simp at s3
    have HE := Lib.hid (And.intro s3 (And.intro hbe hL))
    clear hF hJ1 hJ2 h2 h3 h4 hg s1 s2 s3 hbe hL
    simp only [fillA, fillL, List.contains_cons, List.contains_nil, Nat.reduceBEq, Bool.or_false, Bool.or_true, cond_true, cond_false, Nat.zero_add, Nat.reduceAdd]
    go_wp2
    refine bodyPost_ret (v := .agg #[.slice A1 W.length c1, .slice F1 E.length d1, .slice R1 P.length e1]) ?_ rfl ⟨⟨A1, c1, F1, d1, R1, e1, rfl, HE.out.2.2⟩, HE.out.2.1⟩
    exact results_cell_row rfl _ _ (w.heap.size + 1) _ _ _ _ rfl HE.out.1 Tryd.underlying28 rfl (by kernel_rfl)
end
end Go.Proofs.YtecjpclkiiaidaaDoor
