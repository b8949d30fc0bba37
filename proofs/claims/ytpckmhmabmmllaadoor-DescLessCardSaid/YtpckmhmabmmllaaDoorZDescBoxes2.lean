/- Tasks in boxes of the call's own, filled by Own, whose rows lie apart, in the seat YtpckmhmabmmllaaDoor. No statement is proved here. -/
import Derived.Test.YtpckmhmabmmllaaDoorZDescBoxes
import Derived.Test.YtpckmhmabmmllaaDoorZBoxes2
import Derived.Deep.SlicePairs
set_option linter.unusedVariables false
namespace Go.Proofs.YtpckmhmabmmllaaDoor
open Go Go.RowKit

/-- Two values lie in different blocks of the call's own. -/
def Apart (u v : Value) : Prop := ∀ b, u.ownBlock = some b → v.ownBlock ≠ some b
theorem Apart.symm {u v : Value} (h : Apart u v) : Apart v u := fun b hv hu => h b hu hv
def ApartT (u v : Value) : Prop := match u, v with
  | .agg #[_, _, _, u2, u3, u4], .agg #[_, _, _, v2, v3, v4] => Apart u2 v2 ∧ Apart u3 v3 ∧ Apart u4 v4
  | _, _ => True
theorem own_block {w : World} {base : Nat} {e : TypeId} {s n : Nat} {v : Value} {xs : List Value} (h : w.ownsRow base e s v n xs) : ∀ b, v.ownBlock = some b → base ≤ b ∧ b < w.heap.size := by
  intro b hb
  rcases h.2 with ⟨rfl, _⟩ | ⟨g, cap, cur, rfl, hg, hgg, _⟩
  · simp [Value.ownBlock] at hb
  · have : g = b := by simpa [Value.ownBlock] using hb
    subst this
    exact ⟨hg, (Array.getElem?_eq_some_iff.1 hgg).1⟩
theorem apart_new {w w' : World} {b1 : Nat} {e e' : TypeId} {s s' n n' : Nat} {u v : Value} {xs ys : List Value} (h : w.ownsRow b1 e s u n xs) (h' : w'.ownsRow w.heap.size e' s' v n' ys) : Apart u v := fun b hu hv => by
  have := (own_block h b hu).2
  have := (own_block h' b hv).1
  omega
theorem apart_v {base : Nat} {p q p' q' : Int} {T T' : Task} {u v : Value} {w w' : World} (h : OwnV base p q T u w) (h' : OwnV w.heap.size p' q' T' v w') : ApartT u v ∧ ApartT v u := by
  obtain ⟨u1, u2, u3, u4, rfl, h1, h2, h3, cs, _, h4, _⟩ := h
  obtain ⟨v1, v2, v3, v4, rfl, k1, k2, k3, ds, _, k4, _⟩ := h'
  exact ⟨⟨apart_new h2 k2, apart_new h3 k3, apart_new h4 k4⟩, (apart_new h2 k2).symm, (apart_new h3 k3).symm, (apart_new h4 k4).symm⟩
theorem own_v2 {s : Sh} {T : Task} {w : World} {base : Nat} (hb : base ≤ w.heap.size) (h : IsD w s T) :
    Calls Tryd.prog 12 #[s.arg T.period T.deadline] w fun e w' => ∃ v, e = .returned v ∧ (OwnV base T.period T.deadline T v w' ∧ OwnV w.heap.size T.period T.deadline T v w') ∧ Below w.heap.size w w' :=
  (down_any s T w h.few h.t).mono fun e w' ⟨u1, u2, u3, u4, he, h1, h2, h3, h4, b⟩ => ⟨_, he, ⟨⟨u1, u2, u3, u4, rfl, own_less h1 hb, own_less h2 hb, own_less h3 hb, h4.less hb⟩, u1, u2, u3, u4, rfl, h1, h2, h3, h4⟩, b⟩
/-- One of the boxes. -/
structure BoxOne where
  g : Nat
  u1 : Value
  u2 : Value
  u3 : Value
  u4 : Value
instance : Inhabited BoxOne := ⟨⟨0, undef, undef, undef, undef⟩⟩
/-- 'x, y .. := Own(d), Own(d) ..': n boxes, rows apart. -/
theorem wp_boxes_d2 {ops : Array Oper} {Q : Exit → Act → World → Prop} (n : Nat) (ld ow al : List Nat) {id : Nat} {a0 : Act} {w wB : World} {s : Sh} {T : Task} (hB : boxesB ops n ld ow al 27 = true) (hsz : ∀ d ∈ ld ++ ow ++ al, d < a0.tmps.size) (hX : Bx1D w s T wB)
    (hload : ∀ j o, j < n → ops[2 * j]? = some o → ∃ t, o.op = .load 27 (.tmp t) ∧ t ∉ ld ++ ow ++ al ∧ a0.eval (.tmp t) = .pointer (some ⟨w.heap.size, 0, none⟩))
    (hcall : ∀ j o, j < n → ops[2 * j + 1]? = some o → ∃ tys, o.op = .call { callee := .value (.func 12), args := #[.tmp (ld.getD j 0)], argTypes := tys })
    (hend : ∀ (vals : Nat → Value) (w' : World) (x : Nat → BoxOne), Bx1D w s T w' → Below wB.heap.size wB w' → (∀ j, j < n → vals (al.getD j 0) = .pointer (some ⟨(x j).g, 0, none⟩) ∧ BoxD wB.heap.size T.period T.deadline T (x j).g (x j).u1 (x j).u2 (x j).u3 (x j).u4 w') →
      (∀ j k, j < n → k < n → j ≠ k → (x j).g ≠ (x k).g ∧ Apart (x j).u2 (x k).u2 ∧ Apart (x j).u3 (x k).u3 ∧ Apart (x j).u4 (x k).u4) → Q .normal ⟨(fillA a0 (ld ++ ow ++ al) vals).toArray, a0.defers⟩ w') :
    (Code.region id ops true).wp Tryd.prog Q a0 wB := by
  refine wp_region_boxes2 ApartT (fun v x => ∃ x', OwnV x.heap.size T.period T.deadline T v x') n ld ow al 27 6 #[.int .i64 0, .int .i64 0, .slice none 0 0, .slice none 0 0, .slice none 0 0, .slice none 0 0] (by kernel_rfl) hB hsz wB.heap.size rfl (s.arg T.period T.deadline) (fun x => Below wB.heap.size wB x) (OwnV wB.heap.size T.period T.deadline T) aggOf
    (fun x y h hb hr => h.trans (hr.below hb)) (fun v x y h hr => h.rx hr) (Below.refl _ _).drew rfl (fun v x h => by obtain ⟨u1, u2, u3, u4, e, _⟩ := h; rw [e]; rfl)
    (fun j o hj ho ρ x hI hA => ?_) (fun j o hj ho a x hI hv K hK => ?_) (fun u v x hu ⟨x', hv⟩ => apart_v hu hv) (fun o ρ x hop => by simp only [execOp, hop]; simp [go_sem]) (fun o ρ x y z g cs hop hx hg hc hv => store_desc hop hx hg hc hv)
    (fun vals x hI hb hG hA hne hAp => ?_)
  · obtain ⟨t, h1, h2, h3⟩ := hload j o hj ho
    exact ld_desc h1 ((hA.tmp t h2).trans h3) (hX.next hI).c
  · obtain ⟨tys, h1⟩ := hcall j o hj ho
    exact fx_call (k := 0) (Φ := fun _ v y => OwnV wB.heap.size T.period T.deadline T v y ∧ OwnV x.heap.size T.period T.deadline T v y) (fun v y hv hb => hK v y hv.1 ⟨y, hv.2⟩ hb) rfl _ _ _ _ h1 (by rw [Array.map_singleton, hv]) (eg_of Tryd.func12 (by kernel_rfl) rfl) (own_v2 hI.size (hX.next hI).d)
  · have each : ∀ j, j < n → ∃ b : BoxOne, vals (al.getD j 0) = .pointer (some ⟨b.g, 0, none⟩) ∧ BoxD wB.heap.size T.period T.deadline T b.g b.u1 b.u2 b.u3 b.u4 x ∧ vals (ow.getD j 0) = .agg #[.int .i64 T.period, .int .i64 T.deadline, b.u1, b.u2, b.u3, b.u4] := fun j hj => by
      obtain ⟨g, h1, h2, h3⟩ := hA j hj
      obtain ⟨u1, u2, u3, u4, e, k1, k2, k3, k4⟩ := hG j hj
      rw [e] at h3
      exact ⟨⟨g, u1, u2, u3, u4⟩, h1, ⟨h3, h2, k1, k2, k3, k4⟩, e⟩
    obtain ⟨q, hq⟩ := Go.Deep.choose_lt each
    refine hend vals x q (hX.next hI) hI (fun j hj => ⟨(hq j hj).1, (hq j hj).2.1⟩) fun j k hj hk hjk => ⟨fun e => hne j k hj hk hjk (by rw [(hq j hj).1, (hq k hk).1, e]), ?_⟩
    have := hAp j k hj hk hjk
    rw [(hq j hj).2.2, (hq k hk).2.2] at this
    exact this
end Go.Proofs.YtpckmhmabmmllaaDoor
