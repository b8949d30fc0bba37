/- A region that draws its order and whose last operations stand one behind the other, each behind all that isn't loose (a move that only the very last ones wait for), in the seat YtcjmljpfhabmnaaDoor.
   That a call of a Go function enters it, in the seat YtcjmljpfhabmnaaDoor.
   trefoilref12.owner in the seat YtcjmljpfhabmnaaDoor: its contract.
   trefoilref12.Step in the seat YtcjmljpfhabmnaaDoor: its contract.
   What run's two loops share, in the seat YtcjmljpfhabmnaaDoor: what holds at each of their labels.
   No statement is proved here. -/
import Derived.Test.YtcjmljpfhabmnaaDoorZM7
import Derived.WalkKit
import Derived.Shelf.Abstract
import Derived.Test.YtcjmljpfhabmnaaDoorChecked
import Derived.Test.YtcjmljpfhabmnaaDoorZM5
import Derived.Deep.Cut
import Derived.Test.YtcjmljpfhabmnaaDoorZM6
set_option linter.unusedSimpArgs false
set_option linter.unusedVariables false
namespace Go.Proofs.YtcjmljpfhabmnaaDoor
open Go Go.RowKit

section
variable {P : Program} {ops : Array Oper} {Q : Exit → Act → World → Prop}
/-- What the region's text must be (all by the kernel): m operations ahead of the tail; F the loose ones among them; ds the slots (1000 or more: none). -/
def tailB (ops : Array Oper) (m : Nat) (ds F : List Nat) : Bool :=
  ops.size == ds.length && decide (m ≤ ds.length) && (ops.toList.all fun o : Oper => o.guard.isNone) && backB' ops && decide ds.Nodup && (F.all fun f => decide (f < m)) &&
  ((List.range ds.length).all fun k => (match ops[k]? with | some o => if ds.getD k 0 < 1000 then o.dst == some (ds.getD k 0) else o.dst == none && decide (m ≤ k) | none => false)) &&
  ((List.range ds.length).all fun t => decide (t < m) || (List.range t).all fun k => F.contains k || waitsB ops 12 t k)
structure Tail (ops : Array Oper) (m : Nat) (ds F : List Nat) : Prop where
  size : ops.size = ds.length
  le : m ≤ ds.length
  guard : ∀ (k : Nat) (o : Oper), ops[k]? = some o → o.guard = none
  back : ∀ (i : Nat) (o : Oper), ops[i]? = some o → ∀ e ∈ o.after, Region.binds .any e = true → e.on < i
  nodup : ds.Nodup
  loose : ∀ f ∈ F, f < m
  dst : ∀ (k : Nat) (o : Oper), ops[k]? = some o → (ds.getD k 0 < 1000 ∧ o.dst = some (ds.getD k 0)) ∨ (1000 ≤ ds.getD k 0 ∧ o.dst = none ∧ m ≤ k)
  last : ∀ t k, t < ds.length → m ≤ t → k < t → k ∉ F → waitsB ops 12 t k = true
theorem tail_of {m : Nat} {ds F : List Nat} (h : tailB ops m ds F = true) : Tail ops m ds F := by
  unfold tailB at h
  simp only [Bool.and_eq_true, beq_iff_eq, decide_eq_true_iff] at h
  obtain ⟨⟨⟨⟨⟨⟨⟨h1, h2⟩, h3⟩, h4⟩, h5⟩, h6⟩, h7⟩, h8⟩ := h
  have hk : ∀ (k : Nat) (o : Oper), ops[k]? = some o → k < ds.length := fun k o ho => h1 ▸ (Array.getElem?_eq_some_iff.1 ho).1
  refine ⟨h1, h2, fun k o ho => ?_, back_of' h4, h5, fun f hf => by simpa using List.all_eq_true.1 h6 f hf, fun k o ho => ?_, fun t k ht hmt hkt hkF => ?_⟩
  · have := List.all_eq_true.1 h3 o (by rw [Array.mem_toList_iff]; exact Array.mem_of_getElem? ho)
    simpa using this
  · have := List.all_eq_true.1 h7 k (List.mem_range.2 (hk k o ho))
    rw [ho] at this
    by_cases hd : ds.getD k 0 < 1000
    · simp only [if_pos hd, beq_iff_eq] at this
      exact .inl ⟨hd, this⟩
    · simp only [if_neg hd, Bool.and_eq_true, beq_iff_eq, decide_eq_true_iff] at this
      exact .inr ⟨by omega, this.1, this.2⟩
  · have := List.all_eq_true.1 h8 t (List.mem_range.2 ht)
    rw [decide_eq_false (show ¬ t < m by omega), Bool.false_or] at this
    have h9 := List.all_eq_true.1 this k (List.mem_range.2 hkt)
    rw [Bool.or_eq_true] at h9
    rcases h9 with h9 | h9
    · exact absurd (by simpa using h9) hkF
    · exact h9
set_option maxHeartbeats 4000000 in
theorem wp_region_tail (m : Nat) (ds F : List Nat) {id : Nat} {a0 : Act} {w0 : World} (hm : P.follows .mixedOrders = true) (hG : tailB ops m ds F = true) (hsz : ∀ d ∈ ds, d < a0.tmps.size ∨ 1000 ≤ d)
    (I : World → Prop) (Φ : Nat → Value → World → Prop) (Ψ : Nat → Value → Prop) (Θ : Nat → (Nat → Value) → World → Prop)
    (hI : ∀ w w', I w → Below w.heap.size w w' → I w') (hΦ : ∀ k v w w', Φ k v w → Below w.heap.size w w' → Φ k v w')
    (h0 : I { w0 with drawn := w0.drawn + 1 })
    (hstep : ∀ (k : Nat) (o : Oper), k < m → k ∉ F → ops[k]? = some o → ∀ (a : Act) (w : World), I w → AtDoor a0 (ds.take m) a.eval → (∀ e ∈ o.after, Region.binds .any e = true → e.on ∉ F → Φ e.on (a.eval (.tmp (ds.getD e.on 0))) w) →
      ∀ K : Act → World → Prop, (∀ v w', Φ k v w' → Below w.heap.size w w' → K (a.put o.dst v) w') → o.wp P a w K Q)
    (hloose : ∀ (k : Nat) (o : Oper), k ∈ F → ops[k]? = some o → ∀ (ρ : Operand → Value) (w : World), AtDoor a0 ds ρ → (∀ e ∈ o.after, Region.binds .any e = true → e.on ∉ F → ∃ w1, Φ e.on (ρ (.tmp (ds.getD e.on 0))) w1) → ∃ v, (execOp ρ o).run P w = .ok (.value v) w ∧ Ψ k v)
    (hmid : ∀ (vals : Nat → Value) (w : World), I w → (∀ k, k < m → k ∉ F → Φ k (vals (ds.getD k 0)) w) → Θ m vals w)
    (htail : ∀ (t : Nat) (o : Oper), m ≤ t → ops[t]? = some o → ∀ (a : Act) (w : World), AtDoor a0 ds a.eval → Θ t (fun x => a.eval (.tmp x)) w → (∀ e ∈ o.after, Region.binds .any e = true → e.on ∈ F → Ψ e.on (a.eval (.tmp (ds.getD e.on 0)))) →
      ∀ K : Act → World → Prop, (∀ v w', Θ (t + 1) (fun x => if o.dst = some x then v else a.eval (.tmp x)) w' → K (a.put o.dst v) w') → o.wp P a w K Q)
    (hΘ : ∀ (t : Nat) (f g : Nat → Value) (w : World), (∀ k, k < t → k ∉ F → f (ds.getD k 0) = g (ds.getD k 0)) → Θ t f w → Θ t g w)
    (hend : ∀ (vals : Nat → Value) (w : World), Θ ds.length vals w → Q .normal ⟨(fillA a0 ds vals).toArray, a0.defers⟩ w) :
    (Code.region id ops true).wp P Q a0 w0 := by
  have G := tail_of hG
  refine wp_region_inv (fun l a w => l.size = ds.length ∧ AtDoor a0 ds a.eval ∧ a.tmps.size = a0.tmps.size ∧ a.defers = a0.defers ∧
    (∀ (i : Nat) (o : Oper), l.getD i false = true → ops[i]? = some o → ∀ e ∈ o.after, Region.binds .any e = true → l.getD e.on false = true) ∧
    (∀ k, k ∈ F → l.getD k false = true → Ψ k (a.eval (.tmp (ds.getD k 0)))) ∧
    (∀ k, k < m → k ∉ F → l.getD k false = true → ∃ w1, Φ k (a.eval (.tmp (ds.getD k 0))) w1) ∧
    (((∀ t, m ≤ t → l.getD t false = false) ∧ AtDoor a0 (ds.take m) a.eval ∧ I w ∧ ∀ k, k < m → k ∉ F → l.getD k false = true → Φ k (a.eval (.tmp (ds.getD k 0))) w) ∨
     (∃ t, m < t ∧ t ≤ ds.length ∧ (∀ j, t ≤ j → l.getD j false = false) ∧ (∀ j, m ≤ j → j < t → l.getD j false = true) ∧ Θ t (fun x => a.eval (.tmp x)) w))) hm ?_ ?_ ?_
  · have hno : ∀ k, (Array.replicate ops.size false).getD k false = false := fun k => by
      by_cases h2 : k < ops.size <;> simp [h2]
    exact ⟨by rw [Array.size_replicate]; exact G.size, atDoor_start a0 ds, rfl, rfl, fun k o h => absurd h (by rw [hno]; decide), fun k _ h => absurd h (by rw [hno]; decide), fun k _ _ h => absurd h (by rw [hno]; decide), .inl ⟨fun t _ => hno t, atDoor_start a0 _, h0, fun k _ _ h => absurd h (by rw [hno]; decide)⟩⟩
  · rintro l a w i ⟨hls, hAD, hasz, hadf, hcl, hFl, hPl, hV⟩ hi
    obtain ⟨hun, o, ho, hpre⟩ := mem_ready.1 hi
    have hilt : i < ops.size := (Array.getElem?_eq_some_iff.1 ho).1
    have hin : i < ds.length := by rw [← G.size]; exact hilt
    have hil : i < l.size := by omega
    have hun2 : l.getD i false = false := by
      cases h : l.getD i false with
      | false => rfl
      | true => simp [hil] at h hun; rw [h] at hun; cases hun
    have hcl2 : ∀ (k : Nat) (o' : Oper), (l.setIfInBounds i true).getD k false = true → ops[k]? = some o' → ∀ e ∈ o'.after, Region.binds .any e = true → (l.setIfInBounds i true).getD e.on false = true := fun k o' hk ho' e he hb => by
      refine (getD_set_iff hil).mpr (.inr ?_)
      rcases listed_set hk with h | h
      · subst h
        rw [ho] at ho'
        obtain rfl := Option.some.inj ho'
        exact hpre e he hb
      · exact hcl k o' h ho' e he hb
    have hls2 : (l.setIfInBounds i true).size = ds.length := by rw [Array.size_setIfInBounds]; exact hls
    have hsame : ∀ v, (ds.getD i 0 < 1000 ∧ o.dst = some (ds.getD i 0)) → (a.put o.dst v).eval (.tmp (ds.getD i 0)) = v := fun v hd => by
      rw [hd.2, eval_put_same _ _ _ (by rw [hasz]; exact (hsz _ (fds_mem hin)).resolve_right (by omega))]
    have hother : ∀ v k, k < ds.length → k ≠ i → (a.put o.dst v).eval (.tmp (ds.getD k 0)) = a.eval (.tmp (ds.getD k 0)) := fun v k hk hki => by
      rcases G.dst i o ho with hd | hd
      · rw [hd.2, eval_put_other _ _ _ _ (fun e => hki (fds_inj G.nodup hk hin e))]
      · rw [hd.2.1]; rfl
    have hADp : ∀ v, AtDoor a0 ds (a.put o.dst v).eval := fun v => by
      rcases G.dst i o ho with hd | hd
      · rw [hd.2]; exact hAD.put (fds_mem hin) v
      · rw [hd.2.1]; exact hAD
    have hszp : ∀ v, (a.put o.dst v).tmps.size = a0.tmps.size := fun v => by
      rcases G.dst i o ho with hd | hd
      · rw [hd.2]
        show (a.tmps.setIfInBounds _ _).size = _
        rw [Array.size_setIfInBounds]; exact hasz
      · rw [hd.2.1]; exact hasz
    have hdfp : ∀ v, (a.put o.dst v).defers = a0.defers := fun v => by
      rcases G.dst i o ho with hd | hd
      · rw [hd.2]; exact hadf
      · rw [hd.2.1]; exact hadf
    refine wpOp_at ho (G.guard i o ho) ?_
    have hset : ∀ k, k ≠ i → (l.setIfInBounds i true).getD k false = l.getD k false := fun k hk => by
      cases h : l.getD k false with
      | true => exact (getD_set_iff hil).mpr (.inr h)
      | false =>
        cases h2 : (l.setIfInBounds i true).getD k false with
        | false => rfl
        | true => rw [(listed_set h2).resolve_left hk] at h; cases h
    have hseti : (l.setIfInBounds i true).getD i false = true := (getD_set_iff hil).mpr (.inl rfl)
    have hmt : i < m → ds.getD i 0 ∈ ds.take m := fun h => by
      rw [List.getD_eq_getElem?_getD, List.getElem?_eq_getElem hin]
      exact List.mem_take_iff_getElem.mpr ⟨i, by omega, rfl⟩
    -- a loose one, wherever it comes
    by_cases hiF : i ∈ F
    · have him := G.loose i hiF
      obtain ⟨v, hr, hv⟩ := hloose i o hiF ho a.eval w hAD (fun e he hb heF => hPl e.on (Nat.lt_trans (G.back i o ho e he hb) him) heF (hpre e he hb))
      have hdi := (G.dst i o ho).resolve_right (by omega)
      have hgo : ∀ (X : Prop), ((l.setIfInBounds i true).size = ds.length ∧ AtDoor a0 ds (a.put o.dst v).eval ∧ (a.put o.dst v).tmps.size = a0.tmps.size ∧ (a.put o.dst v).defers = a0.defers ∧
        (∀ (i_1 : Nat) (o : Oper), (l.setIfInBounds i true).getD i_1 false = true → ops[i_1]? = some o → ∀ e ∈ o.after, Region.binds .any e = true → (l.setIfInBounds i true).getD e.on false = true) ∧
        (∀ k, k ∈ F → (l.setIfInBounds i true).getD k false = true → Ψ k ((a.put o.dst v).eval (.tmp (ds.getD k 0)))) ∧ (∀ k, k < m → k ∉ F → (l.setIfInBounds i true).getD k false = true → ∃ w1, Φ k ((a.put o.dst v).eval (.tmp (ds.getD k 0))) w1) ∧ X) ↔ X := fun X => by
        refine ⟨fun h => h.2.2.2.2.2.2.2, fun h => ⟨hls2, hADp v, hszp v, hdfp v, hcl2, fun k hk hkl => ?_, fun k hk hkF hkl => ?_, h⟩⟩
        rotate_left
        · have hki : k ≠ i := fun e => hkF (e ▸ hiF)
          rw [hother v k (by have := G.le; omega) hki]
          exact hPl k hk hkF ((listed_set hkl).resolve_left hki)
        by_cases hki : k = i
        · subst hki; rw [hsame v hdi]; exact hv
        · rw [hother v k (Nat.lt_of_lt_of_le (G.loose k hk) G.le) hki]
          exact hFl k hk ((listed_set hkl).resolve_left hki)
      unfold Oper.wp
      rw [hr, Oper.upon_value]
      refine (hgo _).mpr ?_
      rcases hV with ⟨hno, hAT, hIw, hF⟩ | ⟨t, ht1, ht2, hno, hyes, hT⟩
      · refine .inl ⟨fun t ht => by rw [hset t (by omega)]; exact hno t ht, by rw [hdi.2]; exact hAT.put (hmt him) v, hIw, fun k hk hkF hkl => ?_⟩
        have hki : k ≠ i := fun e => hkF (e ▸ hiF)
        rw [hother v k (by have := G.le; omega) hki]
        exact hF k hk hkF ((listed_set hkl).resolve_left hki)
      · refine .inr ⟨t, ht1, ht2, fun j hj => by rw [hset j (by omega)]; exact hno j hj, fun j h1 h2 => by rw [hset j (by omega)]; exact hyes j h1 h2, hΘ t _ _ w (fun k hk hkF => ?_) hT⟩
        exact (hother v k (by omega) (fun e => hkF (e ▸ hiF))).symm
    by_cases him : i < m
    · -- ahead of the tail
      rcases hV with ⟨hno, hAT, hIw, hF⟩ | ⟨t, ht1, ht2, hno, hyes, hT⟩
      · refine hstep i o him hiF ho a w hIw hAT (fun e he hb heF => hF e.on (Nat.lt_trans (G.back i o ho e he hb) him) heF (hpre e he hb)) _ fun v w' hphi hb => ?_
        have hdi := (G.dst i o ho).resolve_right (by omega)
        refine ⟨hls2, hADp v, hszp v, hdfp v, hcl2, fun k hk hkl => ?_, fun k hk hkF hkl => ?_, .inl ⟨fun t ht => by rw [hset t (by omega)]; exact hno t ht, by rw [hdi.2]; exact hAT.put (hmt him) v, hI _ _ hIw hb, fun k hk hkF hkl => ?_⟩⟩
        · have hki : k ≠ i := fun e => hiF (e ▸ hk)
          rw [hother v k (Nat.lt_of_lt_of_le (G.loose k hk) G.le) hki]
          exact hFl k hk ((listed_set hkl).resolve_left hki)
        · by_cases hki : k = i
          · subst hki; rw [hsame v hdi]; exact ⟨_, hphi⟩
          · rw [hother v k (by have := G.le; omega) hki]
            exact hPl k hk hkF ((listed_set hkl).resolve_left hki)
        · by_cases hki : k = i
          · subst hki; rw [hsame v hdi]; exact hphi
          · rw [hother v k (by have := G.le; omega) hki]
            exact hΦ k _ _ _ (hF k hk hkF ((listed_set hkl).resolve_left hki)) hb
      · exfalso
        have h1 := hyes m (Nat.le_refl _) ht1
        have h2 := waits_done hcl 12 m i (G.last m i (by omega) (Nat.le_refl _) him hiF) (fun o' ho' e he hb => hcl m o' h1 ho' e he hb)
        rw [hun2] at h2; cases h2
    · -- in the tail
      have hall : ∀ k, k < i → k ∉ F → l.getD k false = true := fun k hk hkF => waits_done hcl 12 i k (G.last i k hin (by omega) hk hkF) (fun o' ho' e he hb => by
        rw [ho] at ho'
        obtain rfl := Option.some.inj ho'
        exact hpre e he hb)
      have hTi : Θ i (fun x => a.eval (.tmp x)) w ∧ (∀ j, i ≤ j → l.getD j false = false) ∧ (∀ j, m ≤ j → j < i → l.getD j false = true) := by
        rcases hV with ⟨hno, hAT, hIw, hF⟩ | ⟨t, ht1, ht2, hno, hyes, hT⟩
        · obtain rfl : i = m := by
            rcases Nat.lt_or_ge m i with h | h
            · have h3 := hall m h (fun q => by have := G.loose m q; omega)
              rw [hno m (Nat.le_refl _)] at h3; cases h3
            · omega
          exact ⟨hmid _ w hIw fun k hk hkF => hF k hk hkF (hall k hk hkF), fun j hj => hno j hj, fun j h1 h2 => by omega⟩
        · obtain rfl : i = t := by
            rcases Nat.lt_trichotomy i t with h | h | h
            · have := hyes i (by omega) h
              rw [hun2] at this; cases this
            · exact h
            · have h3 := hall t h (fun q => by have := G.loose t q; omega)
              rw [hno t (Nat.le_refl _)] at h3; cases h3
          exact ⟨hT, hno, hyes⟩
      obtain ⟨hT, hno, hyes⟩ := hTi
      refine htail i o (by omega) ho a w hAD hT (fun e he hb heF => hFl e.on heF (hpre e he hb)) _ fun v w' hT' => ?_
      refine ⟨hls2, hADp v, hszp v, hdfp v, hcl2, fun k hk hkl => ?_, fun k hk hkF hkl => ?_, .inr ⟨i + 1, by omega, by omega, fun j hj => by rw [hset j (by omega)]; exact hno j (by omega), fun j h1 h2 => ?_, hΘ _ _ _ w' (fun k hk hkF => ?_) hT'⟩⟩
      · have hki : k ≠ i := fun e => hiF (e ▸ hk)
        rw [hother v k (Nat.lt_of_lt_of_le (G.loose k hk) G.le) hki]
        exact hFl k hk ((listed_set hkl).resolve_left hki)
      · have hki : k ≠ i := by omega
        rw [hother v k (by have := G.le; omega) hki]
        exact hPl k hk hkF ((listed_set hkl).resolve_left hki)
      · by_cases hji : j = i
        · subst hji; exact hseti
        · rw [hset j hji]; exact hyes j h1 (by omega)
      · by_cases hki : k = i
        · subst hki
          rcases G.dst k o ho with hd | hd
          · rw [hd.2] at hsame ⊢
            simp only [if_true]
            exact (hsame v ⟨hd.1, rfl⟩).symm
          · rw [hd.2.1]; rfl
        · rw [hother v k (by omega) hki]
          rcases G.dst i o ho with hd | hd
          · rw [hd.2]
            simp only [Option.some.injEq]
            rw [if_neg (fun e => hki (fds_inj G.nodup (by omega) hin e.symm))]
          · rw [hd.2.1]; rfl
  · rintro l a w ⟨hls, hAD, hasz, hadf, hcl, hFl, hPl, hV⟩ hr
    have hall := all_listed' (by rw [hls, G.size]) G.back hr
    rw [act_fill hAD hasz hadf]
    rcases hV with ⟨hno, hAT, hIw, hF⟩ | ⟨t, ht1, ht2, hno, hyes, hT⟩
    · have hml : m = ds.length := by
        rcases Nat.lt_or_ge m ds.length with h | h
        · have h3 := hall m (by rw [G.size]; exact h)
          rw [hno m (Nat.le_refl _)] at h3; cases h3
        · have := G.le; omega
      have h4 := hmid (fun t => a.eval (.tmp t)) w hIw fun k hk hkF => hF k hk hkF (hall k (by rw [G.size]; omega))
      rw [hml] at h4
      exact hend _ w h4
    · obtain rfl : t = ds.length := by
        rcases Nat.lt_or_ge t ds.length with h | h
        · have h3 := hall t (by rw [G.size]; exact h)
          rw [hno t (Nat.le_refl _)] at h3; cases h3
        · omega
      exact hend _ w hT
end
end Go.Proofs.YtcjmljpfhabmnaaDoor
namespace Go.Proofs.YtcjmljpfhabmnaaDoor
open Go Go.RowKit

theorem eg_of {f : Nat} {fn : Func} {c : Code} (hf : Tryd.prog.funcs[f]? = some fn) (hname : (fn.name == "runtime.NumGoroutine") = false) (hb : fn.body = some c) : ∀ args w, (callFunc f args).run Tryd.prog w = .ok (.enter f args) w := enters_of hf hname hb
end Go.Proofs.YtcjmljpfhabmnaaDoor
set_option linter.unusedVariables false
namespace Go.Proofs.YtcjmljpfhabmnaaDoor
open Go Go.RowKit

section
variable {A : Option Addr} {n c : Nat} {R : List Int}
end
end Go.Proofs.YtcjmljpfhabmnaaDoor
set_option linter.unusedVariables false
set_option linter.unusedSimpArgs false
namespace Go.Proofs.YtcjmljpfhabmnaaDoor
open Go Go.RowKit

section
variable {A : Option Addr} {n c : Nat} {R : List Int}
/-- What a step hands out: with no error the ring that it was given. -/
def GotStep (A : Option Addr) (n c : Nat) (s : Int × Int × Int × Tkr) (w : World) (e : Ending) (w' : World) : Prop :=
  e = .returned (.tuple #[.agg #[if s.1 = 0 then .slice A n c else .slice none 0 0, .int .i64 s.2.1, .int .i64 s.2.2.1], vT s.2.2.2, .int .i64 s.1]) ∧ Below w.heap.size w w'
def rowsS (A : Option Addr) (n c : Nat) (T B : Int) (t : Tkr) (v x y : Value) (u : Tkr) : List (TypeId × List Value) :=
  [(27, [.slice A n c, .int .i64 T, .int .i64 B]), (42, cT t), (27, [v, x, y]), (42, cT u)]
/-- What over means, as the reference asks it. -/
theorem over_iff_d {st : Bool} {a tp bt gt en : Int} : OverT ⟨st, a, tp, bt, gt, en⟩ ↔ (en ≠ 0 ∨ a < 0 ∨ 4 < a ∨ (st = true ∧ 3 < a) ∨ (0 < a ∧ WildT ⟨st, a, tp, bt, gt, en⟩)) := by
  unfold OverT
  simp only
  cases st
  · simp only [Bool.false_eq_true, if_false, false_and, false_or]
    constructor
    · rintro (h | h | h | ⟨h1, h2⟩)
      · exact .inl h
      · exact .inr (.inl h)
      · exact .inr (.inr (.inl h))
      · rcases Int.lt_trichotomy a 0 with q | q | q
        · exact .inr (.inl q)
        · exact absurd q h1
        · exact .inr (.inr (.inr ⟨q, h2⟩))
    · rintro (h | h | h | ⟨h1, h2⟩)
      · exact .inl h
      · exact .inr (.inl h)
      · exact .inr (.inr (.inl h))
      · exact .inr (.inr (.inr ⟨by omega, h2⟩))
  · simp only [if_true, true_and]
    constructor
    · rintro (h | h | h | ⟨h1, h2⟩)
      · exact .inl h
      · exact .inr (.inl h)
      · exact .inr (.inr (.inr (.inl h)))
      · rcases Int.lt_trichotomy a 0 with q | q | q
        · exact .inr (.inl q)
        · exact absurd q h1
        · exact .inr (.inr (.inr (.inr ⟨q, h2⟩)))
    · rintro (h | h | h | h | ⟨h1, h2⟩)
      · exact .inl h
      · exact .inr (.inl h)
      · exact .inr (.inr (.inl (by omega)))
      · exact .inr (.inr (.inl h))
      · exact .inr (.inr (.inr ⟨by omega, h2⟩))
/-- In the middle: the numbers that a step goes on with. -/
theorem not_over_d {t : Tkr} (h : ¬ OverT t) : t.at_ ≠ 0 → (-1 ≤ t.top ∧ t.top ≤ 1099511627775) ∧ -1 ≤ t.bot ∧ t.bot ≤ 1099511627775 := fun h0 => by
  unfold OverT WildT at h
  simp only [not_or, not_and] at h
  have := h.2.2.2 h0
  omega
end
end Go.Proofs.YtcjmljpfhabmnaaDoor
set_option linter.unusedVariables false
namespace Go.Proofs.YtcjmljpfhabmnaaDoor
open Go Go.RowKit

theorem frame_all {xs : Array Value} {n : Nat} (h : xs.size = n) : xs = ((List.range n).map fun k => xs.getD k undef).toArray := by
  apply Array.ext
  · simp [h]
  · intro i h1 h2
    simp [Array.getD_eq_getD_getElem?, h1]
/-- Where a step goes on. -/
def lblD (a : Int) : Nat := if a = 0 then 1 else if a = 1 then 2 else if a = 2 then 3 else 4
section
variable (wf : World) (A : Option Addr) (n c : Nat) (R : List Int) (one st : Bool) (S : Int × Int × Int × Tkr)
def AtNext (m : Nat) (w : World) : Prop := ∃ (T B : Int) (t : Tkr) (b : Bool) (z : Int) (f : Nat), m = 2 * f ∧ Hid (Rws wf (rowsR A n c T B t one z b) w) ∧ t.steal = st ∧ Hid (goD R one f b T B t = S) ∧ Enough one b t f
def AtStep (m l : Nat) (w : World) : Prop := ∃ (T B : Int) (t : Tkr) (f : Nat), m = 2 * f + 1 ∧ Hid (Rws wf (rowsR A n c T B t one 0 true) w) ∧ t.steal = st ∧ ChkQ n T B ∧ ¬ OverT t ∧ lblD t.at_ = l ∧
  Hid (goD R one f true (moveD R T B t).1 (moveD R T B t).2.1 (moveD R T B t).2.2 = S) ∧ Enough one true (moveD R T B t).2.2 f
def AtLabel (Fr : Act → Prop) (m l : Nat) (a : Act) (w : World) : Prop := Fr a ∧ (l = 0 → AtNext wf A n c R one st S m w) ∧ (l ≠ 0 → AtStep wf A n c R one st S m l w)
/-- The end. -/
def FinGo (w : World) : Prop := ∃ (T B : Int) (t : Tkr) (z : Int) (b : Bool), Rws wf (rowsR A n c T B t one z b) w ∧ S = if z = 0 then (0, T, B, t) else (z, 0, 0, newTk false)
def GoneGo (e : Ending) (w : World) : Prop := e = .returned (.tuple #[]) ∧ FinGo wf A n c one S w
end
section
variable {wf : World} {A : Option Addr} {n c : Nat} {R : List Int} {one st : Bool} {S : Int × Int × Int × Tkr}
theorem FinGo.of {T B : Int} {t : Tkr} {b : Bool} {f : Nat} {w : World} {b' : Bool} (hn : R.length = n) (h : goD R one f b T B t = S) (he : Enough one b t f) (hg : mayG n T B t one b = false) (hr : Rws wf (rowsR A n c T B t one (mayE n T B t one b) b') w) : FinGo wf A n c one S w := by
  refine ⟨T, B, t, _, _, hr, ?_⟩
  obtain ⟨f, rfl⟩ : ∃ f', f = f' + 1 := ⟨f - 1, by have := he.1; omega⟩
  rw [← h]
  unfold goD mayE
  rw [hn]
  by_cases h1 : ChkQ n T B
  · have e1 : ¬ ¬ ChkQ n T B := fun q => q h1
    rw [if_neg e1, if_neg e1]
    by_cases h2 : StopT one b t
    · rw [if_pos h2, if_pos h2]; rfl
    · rw [if_neg h2, if_neg h2]
      by_cases h3 : OverT t
      · rw [if_pos h3, if_pos h3]; rfl
      · unfold mayG at hg
        exact absurd ⟨h1, h2, h3⟩ (of_decide_eq_false hg)
  · rw [if_pos h1, if_pos h1]; rfl
/-- It may go on. -/
theorem AtStep.of {T B : Int} {t : Tkr} {b : Bool} {f : Nat} {w : World} (hn : R.length = n) (h : goD R one f b T B t = S) (he : Enough one b t f) (hg : mayG n T B t one b = true) (hs : t.steal = st) (hr : Rws wf (rowsR A n c T B t one (mayE n T B t one b) (b || true)) w) : ∃ m, m < 2 * f ∧ AtStep wf A n c R one st S m (lblD t.at_) w := by
  obtain ⟨f, rfl⟩ : ∃ f', f = f' + 1 := ⟨f - 1, by have := he.1; omega⟩
  have hq := of_decide_eq_true hg
  refine ⟨2 * f + 1, by omega, T, B, t, f, rfl, Lib.hid ?_, hs, hq.1, hq.2.2, rfl, Lib.hid ?_, he.next hq.2.1 hq.2.2⟩
  · have e : mayE n T B t one b = 0 := by
      unfold mayE
      rw [if_neg (show ¬ ¬ ChkQ n T B from fun q => q hq.1), if_neg hq.2.1, if_neg hq.2.2]
    rw [e, Bool.or_true] at hr
    exact hr
  · rw [← h]
    conv => rhs; unfold goD
    rw [hn, if_neg (show ¬ ¬ ChkQ n T B from fun q => q hq.1), if_neg hq.2.1, if_neg hq.2.2]
end
end Go.Proofs.YtcjmljpfhabmnaaDoor
