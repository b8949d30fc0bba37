/- A region that draws its order and whose last operations stand one behind the other, each behind all that isn't loose (a move that only the very last ones wait for), in the seat YtfahabphncmbfaaGreatDoor.
   Words for memory in the seat YtfahabphncmbfaaGreatDoor: slices of three integers each, slices of two lists each; a task that came in.
   The contract of trefoilref01.Two in the seat YtfahabphncmbfaaGreatDoor.
   The contracts of trefoilref05.time and parts in the seat YtfahabphncmbfaaGreatDoor.
   A region that draws its order, whose operations read nothing of the memory and whose callees leave what lies below a block as it was (they may make memory): one walk, in the order of the text.
   The contract of trefoilref05.row in the seat YtfahabphncmbfaaGreatDoor.
   No statement is proved here. -/
import Derived.Test.YtfahabphncmbfaaGreatDoorZM4
import Derived.Test.YtfahabphncmbfaaGreatDoorZM2
import Derived.Test.YtfahabphncmbfaaGreatDoorChecked
import Derived.Test.YtfahabphncmbfaaGreatDoorZM1
import Derived.KernelRfl
import Derived.WalkKit
import Derived.WalkSmall
import Derived.Handy
import Derived.Lib.Hide
import Derived.Below
import Derived.BigQuiet
import Derived.Deep.QuietTactic
set_option linter.unusedSimpArgs false
set_option linter.unusedVariables false
namespace Go.Proofs.YtfahabphncmbfaaGreatDoor
open Go Go.RowKit

section
variable {P : Program} {ops : Array Oper} {Q : Exit → Act → World → Prop}
/-- What the region's text must be (all by the kernel): m operations ahead of the tail; F the loose ones among them; ds the slots (1000 or more: none). -/
def tailB (ops : Array Oper) (m : Nat) (ds F : List Nat) : Bool :=
  ops.size == ds.length && decide (m ≤ ds.length) && (ops.toList.all fun o : Oper => o.guard.isNone) && backB' ops && decide ds.Nodup && (F.all fun f => decide (f < m)) &&
  ((List.range ds.length).all fun k => (match ops[k]? with | some o => if ds.getD k 0 < 1000 then o.dst == some (ds.getD k 0) else o.dst == none && decide (m ≤ k) | none => false)) &&
  ((List.range ds.length).all fun t => decide (t < m) || (List.range t).all fun k => F.contains k || waitsB ops 12 t k)
structure Tail (ops : Array Oper) (m : Nat) (ds F : List Nat) : Prop where
  size : ops.size = ds.length
  le : m ≤ ds.length
  guard : ∀ (k : Nat) (o : Oper), ops[k]? = some o → o.guard = none
  back : ∀ (i : Nat) (o : Oper), ops[i]? = some o → ∀ e ∈ o.after, Region.binds .any e = true → e.on < i
  nodup : ds.Nodup
  loose : ∀ f ∈ F, f < m
  dst : ∀ (k : Nat) (o : Oper), ops[k]? = some o → (ds.getD k 0 < 1000 ∧ o.dst = some (ds.getD k 0)) ∨ (1000 ≤ ds.getD k 0 ∧ o.dst = none ∧ m ≤ k)
  last : ∀ t k, t < ds.length → m ≤ t → k < t → k ∉ F → waitsB ops 12 t k = true
theorem tail_of {m : Nat} {ds F : List Nat} (h : tailB ops m ds F = true) : Tail ops m ds F := by
  unfold tailB at h
  simp only [Bool.and_eq_true, beq_iff_eq, decide_eq_true_iff] at h
  obtain ⟨⟨⟨⟨⟨⟨⟨h1, h2⟩, h3⟩, h4⟩, h5⟩, h6⟩, h7⟩, h8⟩ := h
  have hk : ∀ (k : Nat) (o : Oper), ops[k]? = some o → k < ds.length := fun k o ho => h1 ▸ (Array.getElem?_eq_some_iff.1 ho).1
  refine ⟨h1, h2, fun k o ho => ?_, back_of' h4, h5, fun f hf => by simpa using List.all_eq_true.1 h6 f hf, fun k o ho => ?_, fun t k ht hmt hkt hkF => ?_⟩
  · have := List.all_eq_true.1 h3 o (by rw [Array.mem_toList_iff]; exact Array.mem_of_getElem? ho)
    simpa using this
  · have := List.all_eq_true.1 h7 k (List.mem_range.2 (hk k o ho))
    rw [ho] at this
    by_cases hd : ds.getD k 0 < 1000
    · simp only [if_pos hd, beq_iff_eq] at this
      exact .inl ⟨hd, this⟩
    · simp only [if_neg hd, Bool.and_eq_true, beq_iff_eq, decide_eq_true_iff] at this
      exact .inr ⟨by omega, this.1, this.2⟩
  · have := List.all_eq_true.1 h8 t (List.mem_range.2 ht)
    rw [decide_eq_false (show ¬ t < m by omega), Bool.false_or] at this
    have h9 := List.all_eq_true.1 this k (List.mem_range.2 hkt)
    rw [Bool.or_eq_true] at h9
    rcases h9 with h9 | h9
    · exact absurd (by simpa using h9) hkF
    · exact h9
set_option maxHeartbeats 4000000 in
theorem wp_region_tail (m : Nat) (ds F : List Nat) {id : Nat} {a0 : Act} {w0 : World} (hm : P.follows .mixedOrders = true) (hG : tailB ops m ds F = true) (hsz : ∀ d ∈ ds, d < a0.tmps.size ∨ 1000 ≤ d)
    (I : World → Prop) (Φ : Nat → Value → World → Prop) (Ψ : Nat → Value → Prop) (Θ : Nat → (Nat → Value) → World → Prop)
    (hI : ∀ w w', I w → Below w.heap.size w w' → I w') (hΦ : ∀ k v w w', Φ k v w → Below w.heap.size w w' → Φ k v w')
    (h0 : I { w0 with drawn := w0.drawn + 1 })
    (hstep : ∀ (k : Nat) (o : Oper), k < m → k ∉ F → ops[k]? = some o → ∀ (a : Act) (w : World), I w → AtDoor a0 (ds.take m) a.eval → (∀ e ∈ o.after, Region.binds .any e = true → e.on ∉ F → Φ e.on (a.eval (.tmp (ds.getD e.on 0))) w) →
      ∀ K : Act → World → Prop, (∀ v w', Φ k v w' → Below w.heap.size w w' → K (a.put o.dst v) w') → o.wp P a w K Q)
    (hloose : ∀ (k : Nat) (o : Oper), k ∈ F → ops[k]? = some o → ∀ (ρ : Operand → Value) (w : World), AtDoor a0 ds ρ → (∀ e ∈ o.after, Region.binds .any e = true → e.on ∉ F → ∃ w1, Φ e.on (ρ (.tmp (ds.getD e.on 0))) w1) → ∃ v, (execOp ρ o).run P w = .ok (.value v) w ∧ Ψ k v)
    (hmid : ∀ (vals : Nat → Value) (w : World), I w → (∀ k, k < m → k ∉ F → Φ k (vals (ds.getD k 0)) w) → Θ m vals w)
    (htail : ∀ (t : Nat) (o : Oper), m ≤ t → ops[t]? = some o → ∀ (a : Act) (w : World), AtDoor a0 ds a.eval → Θ t (fun x => a.eval (.tmp x)) w → (∀ e ∈ o.after, Region.binds .any e = true → e.on ∈ F → Ψ e.on (a.eval (.tmp (ds.getD e.on 0)))) →
      ∀ K : Act → World → Prop, (∀ v w', Θ (t + 1) (fun x => if o.dst = some x then v else a.eval (.tmp x)) w' → K (a.put o.dst v) w') → o.wp P a w K Q)
    (hΘ : ∀ (t : Nat) (f g : Nat → Value) (w : World), (∀ k, k < t → k ∉ F → f (ds.getD k 0) = g (ds.getD k 0)) → Θ t f w → Θ t g w)
    (hend : ∀ (vals : Nat → Value) (w : World), Θ ds.length vals w → Q .normal ⟨(fillA a0 ds vals).toArray, a0.defers⟩ w) :
    (Code.region id ops true).wp P Q a0 w0 := by
  have G := tail_of hG
  refine wp_region_inv (fun l a w => l.size = ds.length ∧ AtDoor a0 ds a.eval ∧ a.tmps.size = a0.tmps.size ∧ a.defers = a0.defers ∧
    (∀ (i : Nat) (o : Oper), l.getD i false = true → ops[i]? = some o → ∀ e ∈ o.after, Region.binds .any e = true → l.getD e.on false = true) ∧
    (∀ k, k ∈ F → l.getD k false = true → Ψ k (a.eval (.tmp (ds.getD k 0)))) ∧
    (∀ k, k < m → k ∉ F → l.getD k false = true → ∃ w1, Φ k (a.eval (.tmp (ds.getD k 0))) w1) ∧
    (((∀ t, m ≤ t → l.getD t false = false) ∧ AtDoor a0 (ds.take m) a.eval ∧ I w ∧ ∀ k, k < m → k ∉ F → l.getD k false = true → Φ k (a.eval (.tmp (ds.getD k 0))) w) ∨
     (∃ t, m < t ∧ t ≤ ds.length ∧ (∀ j, t ≤ j → l.getD j false = false) ∧ (∀ j, m ≤ j → j < t → l.getD j false = true) ∧ Θ t (fun x => a.eval (.tmp x)) w))) hm ?_ ?_ ?_
  · have hno : ∀ k, (Array.replicate ops.size false).getD k false = false := fun k => by
      by_cases h2 : k < ops.size <;> simp [h2]
    exact ⟨by rw [Array.size_replicate]; exact G.size, atDoor_start a0 ds, rfl, rfl, fun k o h => absurd h (by rw [hno]; decide), fun k _ h => absurd h (by rw [hno]; decide), fun k _ _ h => absurd h (by rw [hno]; decide), .inl ⟨fun t _ => hno t, atDoor_start a0 _, h0, fun k _ _ h => absurd h (by rw [hno]; decide)⟩⟩
  · rintro l a w i ⟨hls, hAD, hasz, hadf, hcl, hFl, hPl, hV⟩ hi
    obtain ⟨hun, o, ho, hpre⟩ := mem_ready.1 hi
    have hilt : i < ops.size := (Array.getElem?_eq_some_iff.1 ho).1
    have hin : i < ds.length := by rw [← G.size]; exact hilt
    have hil : i < l.size := by omega
    have hun2 : l.getD i false = false := by
      cases h : l.getD i false with
      | false => rfl
      | true => simp [hil] at h hun; rw [h] at hun; cases hun
    have hcl2 : ∀ (k : Nat) (o' : Oper), (l.setIfInBounds i true).getD k false = true → ops[k]? = some o' → ∀ e ∈ o'.after, Region.binds .any e = true → (l.setIfInBounds i true).getD e.on false = true := fun k o' hk ho' e he hb => by
      refine (getD_set_iff hil).mpr (.inr ?_)
      rcases listed_set hk with h | h
      · subst h
        rw [ho] at ho'
        obtain rfl := Option.some.inj ho'
        exact hpre e he hb
      · exact hcl k o' h ho' e he hb
    have hls2 : (l.setIfInBounds i true).size = ds.length := by rw [Array.size_setIfInBounds]; exact hls
    have hsame : ∀ v, (ds.getD i 0 < 1000 ∧ o.dst = some (ds.getD i 0)) → (a.put o.dst v).eval (.tmp (ds.getD i 0)) = v := fun v hd => by
      rw [hd.2, eval_put_same _ _ _ (by rw [hasz]; exact (hsz _ (fds_mem hin)).resolve_right (by omega))]
    have hother : ∀ v k, k < ds.length → k ≠ i → (a.put o.dst v).eval (.tmp (ds.getD k 0)) = a.eval (.tmp (ds.getD k 0)) := fun v k hk hki => by
      rcases G.dst i o ho with hd | hd
      · rw [hd.2, eval_put_other _ _ _ _ (fun e => hki (fds_inj G.nodup hk hin e))]
      · rw [hd.2.1]; rfl
    have hADp : ∀ v, AtDoor a0 ds (a.put o.dst v).eval := fun v => by
      rcases G.dst i o ho with hd | hd
      · rw [hd.2]; exact hAD.put (fds_mem hin) v
      · rw [hd.2.1]; exact hAD
    have hszp : ∀ v, (a.put o.dst v).tmps.size = a0.tmps.size := fun v => by
      rcases G.dst i o ho with hd | hd
      · rw [hd.2]
        show (a.tmps.setIfInBounds _ _).size = _
        rw [Array.size_setIfInBounds]; exact hasz
      · rw [hd.2.1]; exact hasz
    have hdfp : ∀ v, (a.put o.dst v).defers = a0.defers := fun v => by
      rcases G.dst i o ho with hd | hd
      · rw [hd.2]; exact hadf
      · rw [hd.2.1]; exact hadf
    refine wpOp_at ho (G.guard i o ho) ?_
    have hset : ∀ k, k ≠ i → (l.setIfInBounds i true).getD k false = l.getD k false := fun k hk => by
      cases h : l.getD k false with
      | true => exact (getD_set_iff hil).mpr (.inr h)
      | false =>
        cases h2 : (l.setIfInBounds i true).getD k false with
        | false => rfl
        | true => rw [(listed_set h2).resolve_left hk] at h; cases h
    have hseti : (l.setIfInBounds i true).getD i false = true := (getD_set_iff hil).mpr (.inl rfl)
    have hmt : i < m → ds.getD i 0 ∈ ds.take m := fun h => by
      rw [List.getD_eq_getElem?_getD, List.getElem?_eq_getElem hin]
      exact List.mem_take_iff_getElem.mpr ⟨i, by omega, rfl⟩
    -- a loose one, wherever it comes
    by_cases hiF : i ∈ F
    · have him := G.loose i hiF
      obtain ⟨v, hr, hv⟩ := hloose i o hiF ho a.eval w hAD (fun e he hb heF => hPl e.on (Nat.lt_trans (G.back i o ho e he hb) him) heF (hpre e he hb))
      have hdi := (G.dst i o ho).resolve_right (by omega)
      have hgo : ∀ (X : Prop), ((l.setIfInBounds i true).size = ds.length ∧ AtDoor a0 ds (a.put o.dst v).eval ∧ (a.put o.dst v).tmps.size = a0.tmps.size ∧ (a.put o.dst v).defers = a0.defers ∧
        (∀ (i_1 : Nat) (o : Oper), (l.setIfInBounds i true).getD i_1 false = true → ops[i_1]? = some o → ∀ e ∈ o.after, Region.binds .any e = true → (l.setIfInBounds i true).getD e.on false = true) ∧
        (∀ k, k ∈ F → (l.setIfInBounds i true).getD k false = true → Ψ k ((a.put o.dst v).eval (.tmp (ds.getD k 0)))) ∧ (∀ k, k < m → k ∉ F → (l.setIfInBounds i true).getD k false = true → ∃ w1, Φ k ((a.put o.dst v).eval (.tmp (ds.getD k 0))) w1) ∧ X) ↔ X := fun X => by
        refine ⟨fun h => h.2.2.2.2.2.2.2, fun h => ⟨hls2, hADp v, hszp v, hdfp v, hcl2, fun k hk hkl => ?_, fun k hk hkF hkl => ?_, h⟩⟩
        rotate_left
        · have hki : k ≠ i := fun e => hkF (e ▸ hiF)
          rw [hother v k (by have := G.le; omega) hki]
          exact hPl k hk hkF ((listed_set hkl).resolve_left hki)
        by_cases hki : k = i
        · subst hki; rw [hsame v hdi]; exact hv
        · rw [hother v k (Nat.lt_of_lt_of_le (G.loose k hk) G.le) hki]
          exact hFl k hk ((listed_set hkl).resolve_left hki)
      unfold Oper.wp
      rw [hr, Oper.upon_value]
      refine (hgo _).mpr ?_
      rcases hV with ⟨hno, hAT, hIw, hF⟩ | ⟨t, ht1, ht2, hno, hyes, hT⟩
      · refine .inl ⟨fun t ht => by rw [hset t (by omega)]; exact hno t ht, by rw [hdi.2]; exact hAT.put (hmt him) v, hIw, fun k hk hkF hkl => ?_⟩
        have hki : k ≠ i := fun e => hkF (e ▸ hiF)
        rw [hother v k (by have := G.le; omega) hki]
        exact hF k hk hkF ((listed_set hkl).resolve_left hki)
      · refine .inr ⟨t, ht1, ht2, fun j hj => by rw [hset j (by omega)]; exact hno j hj, fun j h1 h2 => by rw [hset j (by omega)]; exact hyes j h1 h2, hΘ t _ _ w (fun k hk hkF => ?_) hT⟩
        exact (hother v k (by omega) (fun e => hkF (e ▸ hiF))).symm
    by_cases him : i < m
    · -- ahead of the tail
      rcases hV with ⟨hno, hAT, hIw, hF⟩ | ⟨t, ht1, ht2, hno, hyes, hT⟩
      · refine hstep i o him hiF ho a w hIw hAT (fun e he hb heF => hF e.on (Nat.lt_trans (G.back i o ho e he hb) him) heF (hpre e he hb)) _ fun v w' hphi hb => ?_
        have hdi := (G.dst i o ho).resolve_right (by omega)
        refine ⟨hls2, hADp v, hszp v, hdfp v, hcl2, fun k hk hkl => ?_, fun k hk hkF hkl => ?_, .inl ⟨fun t ht => by rw [hset t (by omega)]; exact hno t ht, by rw [hdi.2]; exact hAT.put (hmt him) v, hI _ _ hIw hb, fun k hk hkF hkl => ?_⟩⟩
        · have hki : k ≠ i := fun e => hiF (e ▸ hk)
          rw [hother v k (Nat.lt_of_lt_of_le (G.loose k hk) G.le) hki]
          exact hFl k hk ((listed_set hkl).resolve_left hki)
        · by_cases hki : k = i
          · subst hki; rw [hsame v hdi]; exact ⟨_, hphi⟩
          · rw [hother v k (by have := G.le; omega) hki]
            exact hPl k hk hkF ((listed_set hkl).resolve_left hki)
        · by_cases hki : k = i
          · subst hki; rw [hsame v hdi]; exact hphi
          · rw [hother v k (by have := G.le; omega) hki]
            exact hΦ k _ _ _ (hF k hk hkF ((listed_set hkl).resolve_left hki)) hb
      · exfalso
        have h1 := hyes m (Nat.le_refl _) ht1
        have h2 := waits_done hcl 12 m i (G.last m i (by omega) (Nat.le_refl _) him hiF) (fun o' ho' e he hb => hcl m o' h1 ho' e he hb)
        rw [hun2] at h2; cases h2
    · -- in the tail
      have hall : ∀ k, k < i → k ∉ F → l.getD k false = true := fun k hk hkF => waits_done hcl 12 i k (G.last i k hin (by omega) hk hkF) (fun o' ho' e he hb => by
        rw [ho] at ho'
        obtain rfl := Option.some.inj ho'
        exact hpre e he hb)
      have hTi : Θ i (fun x => a.eval (.tmp x)) w ∧ (∀ j, i ≤ j → l.getD j false = false) ∧ (∀ j, m ≤ j → j < i → l.getD j false = true) := by
        rcases hV with ⟨hno, hAT, hIw, hF⟩ | ⟨t, ht1, ht2, hno, hyes, hT⟩
        · obtain rfl : i = m := by
            rcases Nat.lt_or_ge m i with h | h
            · have h3 := hall m h (fun q => by have := G.loose m q; omega)
              rw [hno m (Nat.le_refl _)] at h3; cases h3
            · omega
          exact ⟨hmid _ w hIw fun k hk hkF => hF k hk hkF (hall k hk hkF), fun j hj => hno j hj, fun j h1 h2 => by omega⟩
        · obtain rfl : i = t := by
            rcases Nat.lt_trichotomy i t with h | h | h
            · have := hyes i (by omega) h
              rw [hun2] at this; cases this
            · exact h
            · have h3 := hall t h (fun q => by have := G.loose t q; omega)
              rw [hno t (Nat.le_refl _)] at h3; cases h3
          exact ⟨hT, hno, hyes⟩
      obtain ⟨hT, hno, hyes⟩ := hTi
      refine htail i o (by omega) ho a w hAD hT (fun e he hb heF => hFl e.on heF (hpre e he hb)) _ fun v w' hT' => ?_
      refine ⟨hls2, hADp v, hszp v, hdfp v, hcl2, fun k hk hkl => ?_, fun k hk hkF hkl => ?_, .inr ⟨i + 1, by omega, by omega, fun j hj => by rw [hset j (by omega)]; exact hno j (by omega), fun j h1 h2 => ?_, hΘ _ _ _ w' (fun k hk hkF => ?_) hT'⟩⟩
      · have hki : k ≠ i := fun e => hiF (e ▸ hk)
        rw [hother v k (Nat.lt_of_lt_of_le (G.loose k hk) G.le) hki]
        exact hFl k hk ((listed_set hkl).resolve_left hki)
      · have hki : k ≠ i := by omega
        rw [hother v k (by have := G.le; omega) hki]
        exact hPl k hk hkF ((listed_set hkl).resolve_left hki)
      · by_cases hji : j = i
        · subst hji; exact hseti
        · rw [hset j hji]; exact hyes j h1 (by omega)
      · by_cases hki : k = i
        · subst hki
          rcases G.dst k o ho with hd | hd
          · rw [hd.2] at hsame ⊢
            simp only [if_true]
            exact (hsame v ⟨hd.1, rfl⟩).symm
          · rw [hd.2.1]; rfl
        · rw [hother v k (by omega) hki]
          rcases G.dst i o ho with hd | hd
          · rw [hd.2]
            simp only [Option.some.injEq]
            rw [if_neg (fun e => hki (fds_inj G.nodup (by omega) hin e.symm))]
          · rw [hd.2.1]; rfl
  · rintro l a w ⟨hls, hAD, hasz, hadf, hcl, hFl, hPl, hV⟩ hr
    have hall := all_listed' (by rw [hls, G.size]) G.back hr
    rw [act_fill hAD hasz hadf]
    rcases hV with ⟨hno, hAT, hIw, hF⟩ | ⟨t, ht1, ht2, hno, hyes, hT⟩
    · have hml : m = ds.length := by
        rcases Nat.lt_or_ge m ds.length with h | h
        · have h3 := hall m (by rw [G.size]; exact h)
          rw [hno m (Nat.le_refl _)] at h3; cases h3
        · have := G.le; omega
      have h4 := hmid (fun t => a.eval (.tmp t)) w hIw fun k hk hkF => hF k hk hkF (hall k (by rw [G.size]; omega))
      rw [hml] at h4
      exact hend _ w h4
    · obtain rfl : t = ds.length := by
        rcases Nat.lt_or_ge t ds.length with h | h
        · have h3 := hall t (by rw [G.size]; exact h)
          rw [hno t (Nat.le_refl _)] at h3; cases h3
        · omega
      exact hend _ w hT
end
end Go.Proofs.YtfahabphncmbfaaGreatDoor
set_option linter.unusedVariables false
namespace Go.Proofs.YtfahabphncmbfaaGreatDoor
open Go.RowKit

/-- A slice of structs of three integers (its address A, its length that of es) reads as these, below block B. -/
def Trips (w : World) (B : Nat) (A : Option Addr) (es : List (Int × Int × Int)) : Prop :=
  0 < es.length → ∃ b off, A = some ⟨b, off, none⟩ ∧ b < B ∧ ∀ k e, es[k]? = some e → w.cell? ⟨b, off + k * 3, none⟩ = some (.int .i64 e.1) ∧ w.cell? ⟨b, off + k * 3 + 1, none⟩ = some (.int .i64 e.2.1) ∧ w.cell? ⟨b, off + k * 3 + 2, none⟩ = some (.int .i64 e.2.2)
theorem Trips.at_ {w : World} {B : Nat} {A : Option Addr} {es : List (Int × Int × Int)} {k : Nat} (h : Trips w B A es) (hk : k < es.length) :
    ∃ b off x y z, A = some ⟨b, off, none⟩ ∧ b < B ∧ es[k]? = some (x, y, z) ∧ w.cell? ⟨b, off + k * 3, none⟩ = some (.int .i64 x) ∧ w.cell? ⟨b, off + k * 3 + 1, none⟩ = some (.int .i64 y) ∧ w.cell? ⟨b, off + k * 3 + 2, none⟩ = some (.int .i64 z) := by
  obtain ⟨b, off, e, hb, hc⟩ := h (by omega)
  have he : es[k]? = some es[k] := List.getElem?_eq_getElem hk
  exact ⟨b, off, es[k].1, es[k].2.1, es[k].2.2, e, hb, he, hc k _ he⟩
theorem Trips.keep {w w' : World} {B : Nat} {A : Option Addr} {es : List (Int × Int × Int)} (h : Trips w B A es) (hk : ∀ p : Addr, p.block < B → w'.cell? p = w.cell? p) : Trips w' B A es := fun hn => by
  obtain ⟨b, off, e, hb, hc⟩ := h hn
  exact ⟨b, off, e, hb, fun k x hx => ⟨(hk _ hb).trans (hc k x hx).1, (hk _ hb).trans (hc k x hx).2.1, (hk _ hb).trans (hc k x hx).2.2⟩⟩
theorem Trips.more {w : World} {B B' : Nat} {A : Option Addr} {es : List (Int × Int × Int)} (h : Trips w B A es) (hB : B ≤ B') : Trips w B' A es := fun hn => by
  obtain ⟨b, off, e, hb, hc⟩ := h hn
  exact ⟨b, off, e, by omega, hc⟩
theorem Trips.below {w w' : World} {B : Nat} {A : Option Addr} {es : List (Int × Int × Int)} (h : Trips w B A es) (hb : Below B w w') : Trips w' B A es := h.keep fun _ hp => hb.cell hp
/-- A slice of structs of two lists of integers each. -/
def Bars (w : World) (B : Nat) (A : Option Addr) (bs : List (List Int × List Int)) : Prop :=
  0 < bs.length → ∃ b off, A = some ⟨b, off, none⟩ ∧ b < B ∧ ∀ k e, bs[k]? = some e → ∃ A1 c1 A2 c2, w.cell? ⟨b, off + k * 2, none⟩ = some (.slice A1 e.1.length c1) ∧ w.cell? ⟨b, off + k * 2 + 1, none⟩ = some (.slice A2 e.2.length c2) ∧
    Ints w B A1 e.1 ∧ Ints w B A2 e.2 ∧ (A1 = none → e.1.length = 0 ∧ c1 = 0) ∧ (A2 = none → e.2.length = 0 ∧ c2 = 0)
theorem Bars.at_ {w : World} {B : Nat} {A : Option Addr} {bs : List (List Int × List Int)} {k : Nat} (h : Bars w B A bs) (hk : k < bs.length) :
    ∃ b off xs ys A1 n1 c1 A2 n2 c2, A = some ⟨b, off, none⟩ ∧ b < B ∧ bs[k]? = some (xs, ys) ∧ xs.length = n1 ∧ ys.length = n2 ∧ w.cell? ⟨b, off + k * 2, none⟩ = some (.slice A1 n1 c1) ∧ w.cell? ⟨b, off + k * 2 + 1, none⟩ = some (.slice A2 n2 c2) ∧
      Ints w B A1 xs ∧ Ints w B A2 ys ∧ (A1 = none → n1 = 0 ∧ c1 = 0) ∧ (A2 = none → n2 = 0 ∧ c2 = 0) := by
  obtain ⟨b, off, e, hb, hc⟩ := h (by omega)
  have he : bs[k]? = some bs[k] := List.getElem?_eq_getElem hk
  obtain ⟨A1, c1, A2, c2, h1, h2, h3, h4, h5, h6⟩ := hc k _ he
  exact ⟨b, off, bs[k].1, bs[k].2, A1, _, c1, A2, _, c2, e, hb, he, rfl, rfl, h1, h2, h3, h4, h5, h6⟩
theorem Bars.keep {w w' : World} {B : Nat} {A : Option Addr} {bs : List (List Int × List Int)} (h : Bars w B A bs) (hk : ∀ p : Addr, p.block < B → w'.cell? p = w.cell? p) : Bars w' B A bs := fun hn => by
  obtain ⟨b, off, e, hb, hc⟩ := h hn
  refine ⟨b, off, e, hb, fun k x hx => ?_⟩
  obtain ⟨A1, c1, A2, c2, h1, h2, h3, h4, h5⟩ := hc k x hx
  exact ⟨A1, c1, A2, c2, (hk _ hb).trans h1, (hk _ hb).trans h2, h3.keep hk, h4.keep hk, h5⟩
theorem Bars.more {w : World} {B B' : Nat} {A : Option Addr} {bs : List (List Int × List Int)} (h : Bars w B A bs) (hB : B ≤ B') : Bars w B' A bs := fun hn => by
  obtain ⟨b, off, e, hb, hc⟩ := h hn
  refine ⟨b, off, e, by omega, fun k x hx => ?_⟩
  obtain ⟨A1, c1, A2, c2, h1, h2, h3, h4, h5⟩ := hc k x hx
  exact ⟨A1, c1, A2, c2, h1, h2, h3.more hB, h4.more hB, h5⟩
theorem Bars.below {w w' : World} {B : Nat} {A : Option Addr} {bs : List (List Int × List Int)} (h : Bars w B A bs) (hb : Below B w w') : Bars w' B A bs := h.keep fun _ hp => hb.cell hp

/-- A task, in plain words: its two numbers, parts (op, arg, work), edges, futures (maker, user, at), barriers (in, out). -/
structure Task where
  period : Int
  deadline : Int
  parts : List (Int × Int × Int)
  edges : List (Int × Int)
  futures : List (Int × Int × Int)
  bars : List (List Int × List Int)
deriving DecidableEq
/-- Its four slices as they are handed over. -/
structure Sh where
  P : Option Addr
  np : Nat
  pc : Nat
  E : Option Addr
  ne : Nat
  ec : Nat
  F : Option Addr
  nf : Nat
  fc : Nat
  R : Option Addr
  nr : Nat
  rc : Nat
/-- A task that lies below block B. -/
structure IsT (w : World) (B : Nat) (s : Sh) (T : Task) : Prop where
  hp : T.parts.length = s.np
  he : T.edges.length = s.ne
  hf : T.futures.length = s.nf
  hr : T.bars.length = s.nr
  parts : Trips w B s.P T.parts
  edges : Pairs w B s.E T.edges
  futures : Trips w B s.F T.futures
  bars : Bars w B s.R T.bars
  nP : s.P = none → s.np = 0 ∧ s.pc = 0
  nE : s.E = none → s.ne = 0 ∧ s.ec = 0
  nF : s.F = none → s.nf = 0 ∧ s.fc = 0
  nR : s.R = none → s.nr = 0 ∧ s.rc = 0
theorem IsT.below {w w' : World} {B : Nat} {s : Sh} {T : Task} (h : IsT w B s T) (hb : Below B w w') : IsT w' B s T :=
  ⟨h.hp, h.he, h.hf, h.hr, h.parts.below hb, h.edges.below hb, h.futures.below hb, h.bars.below hb, h.nP, h.nE, h.nF, h.nR⟩
theorem IsT.more {w : World} {B B' : Nat} {s : Sh} {T : Task} (h : IsT w B s T) (hB : B ≤ B') : IsT w B' s T :=
  ⟨h.hp, h.he, h.hf, h.hr, h.parts.more hB, h.edges.more hB, h.futures.more hB, h.bars.more hB, h.nP, h.nE, h.nF, h.nR⟩

section
variable {P : Option Addr} {np pc : Nat} {E : Option Addr} {ne ec : Nat} {F : Option Addr} {nf fc : Nat} {R : Option Addr} {nr rc : Nat} {p q : Int}
theorem dpart_any (x : Int) (w : World) :
    Calls Tryz.prog 212 #[.agg #[.int .i64 p, .int .i64 q, .slice P np pc, .slice E ne ec, .slice F nf fc, .slice R nr rc], .int .i64 x] w fun e w' => e = .returned (.bool (decide (0 ≤ x ∧ x < np))) ∧ Below w.heap.size w w' := by
  by_cases h : 0 ≤ x
  · by_cases k : x < np
    · rw [decide_eq_true (⟨h, k⟩ : 0 ≤ x ∧ x < np)]
      go_enter Tryz.func212, Tryz.ntmps212
      go_wp2
      go_ret
      exact ⟨rfl, below_alloc _⟩
    · rw [decide_eq_false (fun q : 0 ≤ x ∧ x < np => k q.2)]
      go_enter Tryz.func212, Tryz.ntmps212
      go_wp2
      go_ret
      exact ⟨rfl, below_alloc _⟩
  · rw [decide_eq_false (fun q : 0 ≤ x ∧ x < np => h q.1)]
    have h' : x < 0 := by omega
    clear h
    go_enter Tryz.func212, Tryz.ntmps212
    go_wp2
    go_ret
    exact ⟨rfl, below_alloc _⟩
end
end Go.Proofs.YtfahabphncmbfaaGreatDoor
set_option linter.unusedVariables false
namespace Go.Proofs.YtfahabphncmbfaaGreatDoor
open Go.RowKit

/-- The power of two, asked one by one. -/
theorem rtwo_yes (k : Nat) (hk : k < 40) (w : World) :
    Calls Tryz.prog 208 #[.int .i64 ((2 ^ k : Nat) : Int)] w fun e w' => e = .returned (.tuple #[.int .i64 k, .bool true]) ∧ w = w' := by
  obtain ⟨x, hx⟩ : ∃ x, x = 2 ^ k := ⟨_, rfl⟩
  rw [← hx]
  have HX := Lib.hid hx
  clear hx
  go_enter Tryz.func208, Tryz.ntmps208
  go_wp2
  go_loop [4, 5] (fun p i => ∃ j P : Nat, j ≤ k ∧ P ≤ 549755813888 ∧ Hid (P = 2 ^ j) ∧ i = .int .i64 j ∧ p = .int .i64 P) (fun _ i => k - (intOf i).toNat)
  case atStart => exact ⟨0, 1, by omega, by omega, Lib.hid rfl, rfl, rfl⟩
  case round =>
    obtain ⟨j, P, hj, hP, hpow, rfl, rfl⟩ := hrel
    by_cases hjk : j = k
    · have hb : ((P : Int) == (x : Int)) = true := by rw [beq_iff_eq, hpow.out, HX.out, hjk]
      subst hjk
      go_wp2
      go_ret2
      exact ⟨rfl, rfl⟩
    · have hlt : 2 ^ j < 2 ^ k := Nat.pow_lt_pow_right (by omega) (by omega)
      have hle : 2 ^ (j + 1) ≤ 2 ^ 39 := Nat.pow_le_pow_right (by omega) (by omega)
      rw [Nat.pow_succ] at hle
      rw [← hpow.out, ← HX.out] at hlt
      rw [← hpow.out] at hle
      have hb : ((P : Int) == (x : Int)) = false := by rw [beq_eq_false_iff_ne]; omega
      have hle' : P * 2 ≤ 549755813888 := hle
      clear hle hlt
      go_wp2
      go_round
      case rel => exact ⟨j + 1, 2 * P, by omega, by omega, Lib.hid (by rw [Nat.pow_succ, ← hpow.out, Nat.mul_comm]), by go_num, by go_num⟩
      case measure => simp [intOf]; omega
theorem rtwo_no (n : Int) (w : World) (h : ∀ k : Nat, k < 40 → n ≠ ((2 ^ k : Nat) : Int)) :
    Calls Tryz.prog 208 #[.int .i64 n] w fun e w' => e = .returned (.tuple #[.int .i64 0, .bool false]) ∧ w = w' := by
  have H := Lib.hid h
  clear h
  go_enter Tryz.func208, Tryz.ntmps208
  go_wp2
  go_loop [4, 5] (fun p i => ∃ j P : Nat, j ≤ 40 ∧ P ≤ 1099511627776 ∧ Hid (P = 2 ^ j) ∧ i = .int .i64 j ∧ p = .int .i64 P) (fun _ i => 40 - (intOf i).toNat)
  case atStart => exact ⟨0, 1, by omega, by omega, Lib.hid rfl, rfl, rfl⟩
  case round =>
    obtain ⟨j, P, hj, hP, hpow, rfl, rfl⟩ := hrel
    by_cases hjk : j < 40
    · have hne := H.out j hjk
      rw [← hpow.out] at hne
      have hle : 2 ^ (j + 1) ≤ 2 ^ 40 := Nat.pow_le_pow_right (by omega) (by omega)
      rw [Nat.pow_succ, ← hpow.out] at hle
      have hb : ((P : Int) == n) = false := by rw [beq_eq_false_iff_ne]; omega
      have hle' : P * 2 ≤ 1099511627776 := hle
      clear hle hne
      go_wp2
      go_round
      case rel => exact ⟨j + 1, 2 * P, by omega, by omega, Lib.hid (by rw [Nat.pow_succ, ← hpow.out, Nat.mul_comm]), by go_num, by go_num⟩
      case measure => simp [intOf]; omega
    · go_wp2
      go_ret2
      exact ⟨rfl, rfl⟩
end Go.Proofs.YtfahabphncmbfaaGreatDoor
set_option linter.unusedVariables false
namespace Go.Proofs.YtfahabphncmbfaaGreatDoor
open Go.RowKit

def isTwo (p : Int) : Bool := (List.range 40).any fun k => p == ((2 ^ k : Nat) : Int)
theorem isTwo_iff {p : Int} : isTwo p = true ↔ ∃ k : Nat, k < 40 ∧ p = ((2 ^ k : Nat) : Int) := by
  unfold isTwo
  rw [List.any_eq_true]
  constructor
  · rintro ⟨k, hk, h⟩
    exact ⟨k, List.mem_range.mp hk, by simpa using h⟩
  · rintro ⟨k, hk, h⟩
    exact ⟨k, List.mem_range.mpr hk, by simpa using h⟩
theorem rtwo_any (p : Int) : ∃ k : Int, ∀ w : World, Calls Tryz.prog 208 #[.int .i64 p] w fun e w' => e = .returned (.tuple #[.int .i64 k, .bool (isTwo p)]) ∧ w = w' := by
  by_cases h : isTwo p = true
  · rw [h]
    obtain ⟨k, hk, rfl⟩ := isTwo_iff.mp h
    exact ⟨k, rtwo_yes k hk⟩
  · rw [Bool.not_eq_true] at h
    rw [h]
    refine ⟨0, fun w => rtwo_no p w fun k hk e => ?_⟩
    rw [isTwo_iff.mpr ⟨k, hk, e⟩] at h
    cases h
def timeE (p q : Int) : Bool := isTwo p && decide (p ≤ 4096) && decide (1 ≤ q) && decide (q ≤ p)
section
variable {P : Option Addr} {np pc : Nat} {E : Option Addr} {ne ec : Nat} {F : Option Addr} {nf fc : Nat} {R : Option Addr} {nr rc : Nat} {p q : Int}
set_option maxRecDepth 100000 in
theorem dtime_any (w : World) :
    Calls Tryz.prog 171 #[.agg #[.int .i64 p, .int .i64 q, .slice P np pc, .slice E ne ec, .slice F nf fc, .slice R nr rc]] w fun e w' => e = .returned (.bool (timeE p q)) ∧ Below w.heap.size w w' := by
  obtain ⟨k, hC⟩ := rtwo_any p
  have C := Lib.hid hC
  clear hC
  unfold timeE
  cases ht : isTwo p with
  | false =>
    rw [ht] at C
    clear ht
    go_enter Tryz.func171, Tryz.ntmps171
    go_wp2_with fail
    refine (C.out _).mono ?_
    rintro e w' ⟨rfl, rfl⟩
    go_wp2
    go_ret
    exact ⟨rfl, below_alloc _⟩
  | true =>
    rw [ht] at C
    clear ht
    by_cases h1 : p ≤ 4096
    · rw [decide_eq_true h1]
      by_cases h2 : 1 ≤ q
      · rw [decide_eq_true h2]
        by_cases h3 : q ≤ p
        · rw [decide_eq_true h3]
          go_enter Tryz.func171, Tryz.ntmps171
          go_wp2_with fail
          refine (C.out _).mono ?_
          rintro e w' ⟨rfl, rfl⟩
          go_wp2
          go_ret
          exact ⟨rfl, below_alloc _⟩
        · have hd : decide (q ≤ p) = false := decide_eq_false h3
          rw [hd]
          go_enter Tryz.func171, Tryz.ntmps171
          go_wp2_with fail
          refine (C.out _).mono ?_
          rintro e w' ⟨rfl, rfl⟩
          go_wp2
          go_ret
          exact ⟨rfl, below_alloc _⟩
      · rw [decide_eq_false h2]
        go_enter Tryz.func171, Tryz.ntmps171
        go_wp2_with fail
        refine (C.out _).mono ?_
        rintro e w' ⟨rfl, rfl⟩
        go_wp2
        go_ret
        exact ⟨rfl, below_alloc _⟩
    · rw [decide_eq_false h1]
      go_enter Tryz.func171, Tryz.ntmps171
      go_wp2_with fail
      refine (C.out _).mono ?_
      rintro e w' ⟨rfl, rfl⟩
      go_wp2
      go_ret
      exact ⟨rfl, below_alloc _⟩
end
/-- A part that may be (op, arg, work). -/
def partOk (e : Int × Int × Int) : Prop := 0 ≤ e.1 ∧ e.1 ≤ 5 ∧ 0 ≤ e.2.1 ∧ e.2.1 ≤ 2147483647 ∧ 1 ≤ e.2.2 ∧ e.2.2 ≤ 100
instance (e : Int × Int × Int) : Decidable (partOk e) := by unfold partOk; infer_instance
def partsOk (es : List (Int × Int × Int)) : Prop := ∀ e ∈ es, partOk e
instance (es : List (Int × Int × Int)) : Decidable (partsOk es) := by unfold partsOk; infer_instance
section
variable {P : Option Addr} {np pc : Nat} {E : Option Addr} {ne ec : Nat} {F : Option Addr} {nf fc : Nat} {R : Option Addr} {nr rc : Nat} {p q : Int}
/-- A task lies in a box of the call's own (it began in w). -/
structure BxD (w : World) (p q : Int) (P : Option Addr) (np pc : Nat) (E : Option Addr) (ne ec : Nat) (F : Option Addr) (nf fc : Nat) (R : Option Addr) (nr rc : Nat) (w' : World) : Prop where
  bel : Below w.heap.size w w'
  c0 : w'.cell? ⟨w.heap.size, 0, none⟩ = some (.int .i64 p)
  c1 : w'.cell? ⟨w.heap.size, 1, none⟩ = some (.int .i64 q)
  c2 : w'.cell? ⟨w.heap.size, 2, none⟩ = some (.slice P np pc)
  c3 : w'.cell? ⟨w.heap.size, 3, none⟩ = some (.slice E ne ec)
  c4 : w'.cell? ⟨w.heap.size, 4, none⟩ = some (.slice F nf fc)
  c5 : w'.cell? ⟨w.heap.size, 5, none⟩ = some (.slice R nr rc)
theorem BxD.next {w w1 w2 : World} (h : BxD w p q P np pc E ne ec F nf fc R nr rc w1) (hb : Below w1.heap.size w1 w2) : BxD w p q P np pc E ne ec F nf fc R nr rc w2 := by
  have hlt : w.heap.size < w1.heap.size := World.block_lt_of_cell? _ _ h.c0
  exact ⟨h.bel.trans (hb.mono h.bel.size), (hb.cell hlt).trans h.c0, (hb.cell hlt).trans h.c1, (hb.cell hlt).trans h.c2, (hb.cell hlt).trans h.c3, (hb.cell hlt).trans h.c4, (hb.cell hlt).trans h.c5⟩
theorem BxD.start (w : World) (p q : Int) (P : Option Addr) (np pc : Nat) (E : Option Addr) (ne ec : Nat) (F : Option Addr) (nf fc : Nat) (R : Option Addr) (nr rc : Nat) :
    BxD w p q P np pc E ne ec F nf fc R nr rc (w.alloc (.cells #[.int .i64 p, .int .i64 q, .slice P np pc, .slice E ne ec, .slice F nf fc, .slice R nr rc] 64)) := by
  refine ⟨below_alloc _, ?_, ?_, ?_, ?_, ?_, ?_⟩ <;> (rw [World.cell?_alloc_at _ _ _ _ rfl]; rfl)
theorem BxD.cells {w w' : World} (h : BxD w p q P np pc E ne ec F nf fc R nr rc w') : w'.cell? ⟨w.heap.size, 0, none⟩ = some (.int .i64 p) ∧ w'.cell? ⟨w.heap.size, 1, none⟩ = some (.int .i64 q) ∧ w'.cell? ⟨w.heap.size, 2, none⟩ = some (.slice P np pc) ∧
    w'.cell? ⟨w.heap.size, 3, none⟩ = some (.slice E ne ec) ∧ w'.cell? ⟨w.heap.size, 4, none⟩ = some (.slice F nf fc) ∧ w'.cell? ⟨w.heap.size, 5, none⟩ = some (.slice R nr rc) := ⟨h.c0, h.c1, h.c2, h.c3, h.c4, h.c5⟩
set_option maxRecDepth 100000 in
set_option maxHeartbeats 4000000 in
theorem dparts_any (es : List (Int × Int × Int)) (w : World) (hm : es.length = np) (hl : np ≤ 1000) (hT : Trips w w.heap.size P es) :
    Calls Tryz.prog 172 #[.agg #[.int .i64 p, .int .i64 q, .slice P np pc, .slice E ne ec, .slice F nf fc, .slice R nr rc]] w fun e w' => e = .returned (.bool (decide (partsOk es))) ∧ Below w.heap.size w w' := by
  have B0 := Lib.hid (BxD.start w p q P np pc E ne ec F nf fc R nr rc)
  have HT := Lib.hid hT
  have HM := Lib.hid hm
  obtain ⟨r, hr⟩ : ∃ r, r = decide (partsOk es) := ⟨_, rfl⟩
  rw [← hr]
  have HR := Lib.hid hr
  clear hT hm hr
  go_enter Tryz.func172, Tryz.ntmps172
  go_wp2
  go_loopw [3] (fun v wr => ∃ k : Nat, k ≤ np ∧ v = .int .i64 k ∧ Hid (BxD w p q P np pc E ne ec F nf fc R nr rc wr) ∧ Hid (∀ e ∈ es.take k, partOk e)) (fun v _ => np - (intOf v).toNat)
  case atStart => exact ⟨0, Nat.zero_le _, rfl, B0, Lib.hid (by simp)⟩
  case round =>
    obtain ⟨k, hk, rfl, BR, HN⟩ := hrel
    obtain ⟨c0, c1, c2, c3, c4, c5⟩ := BR.out.cells
    have hlt0 := World.block_lt_of_cell? _ _ c0
    simp only at hlt0
    clear B0
    by_cases hlt : k < np
    · obtain ⟨bk, off, x, y, z, rfl, hbg, hek, d1, d2, d3⟩ := (HT.out.below BR.out.bel).at_ (k := k) (by rw [HM.out]; exact hlt)
      have HEK := Lib.hid hek
      clear hek
      by_cases hok : partOk (x, y, z)
      · have HOK := Lib.hid hok
        obtain ⟨o1, o2, o3, o4, o5, o6⟩ := hok
        simp only at o1 o2 o3 o4 o5 o6
        go_wp2
        go_roundw
        case rel => exact ⟨k + 1, by omega, by go_num, Lib.hid (BR.out.next (below_alloc _)), Lib.hid (by
          intro e he
          rw [List.take_add_one, HEK.out] at he
          rcases List.mem_append.mp he with h | h
          · exact HN.out e h
          · obtain rfl : e = (x, y, z) := by simpa using h
            exact HOK.out)⟩
        case measure => simp [intOf]; omega
      · have HNO := Lib.hid (show decide (partsOk es) = false from decide_eq_false fun h => hok (h _ (List.mem_of_getElem? HEK.out)))
        have hd : x < 0 ∨ (0 ≤ x ∧ 5 < x) ∨ (0 ≤ x ∧ x ≤ 5 ∧ y < 0) ∨ (0 ≤ x ∧ x ≤ 5 ∧ 0 ≤ y ∧ 2147483647 < y) ∨ (0 ≤ x ∧ x ≤ 5 ∧ 0 ≤ y ∧ y ≤ 2147483647 ∧ z < 1) ∨ (0 ≤ x ∧ x ≤ 5 ∧ 0 ≤ y ∧ y ≤ 2147483647 ∧ 1 ≤ z ∧ 100 < z) := by
          unfold partOk at hok
          simp only at hok
          omega
        clear hok
        have HB := Lib.hid (BR.out.bel.trans ((below_alloc (w := wr) (.cells #[.int .i64 x, .int .i64 y, .int .i64 z] 118)).mono BR.out.bel.size))
        rcases hd with h1 | ⟨h1, h2⟩ | ⟨h1, h2, h3⟩ | ⟨h1, h2, h3, h4⟩ | ⟨h1, h2, h3, h4, h5⟩ | ⟨h1, h2, h3, h4, h5, h6⟩
        all_goals
          go_wp2
          go_ret
          exact ⟨by rw [HR.out, HNO.out]; rfl, HB.out⟩
    · have e : np = k := by omega
      subst e
      have HYES := Lib.hid (show decide (partsOk es) = true from decide_eq_true fun e he => HN.out e (by rwa [List.take_of_length_le (by rw [HM.out]; omega)]))
      go_wp2
      go_ret
      exact ⟨by rw [HR.out, HYES.out]; rfl, BR.out.bel⟩
end
end Go.Proofs.YtfahabphncmbfaaGreatDoor
namespace Go.Proofs.YtfahabphncmbfaaGreatDoor
open Go.RowKit

/-- A world in which nothing below the block B has turned. -/
structure Near (B : Nat) (w : World) where
  W : World
  h : Below B w W
instance (B : Nat) (w : World) : Nonempty (Near B w) := ⟨⟨w, Below.refl _ _⟩⟩
theorem wp_region_near {P : Program} (B : Nat) {id : Nat} {Q : Exit → Act → World → Prop} {a : Act} {w : World} {l : List Oper} (hm : P.follows .mixedOrders = true) (hB : Region.lexB .any l.toArray = true)
    (_ : B ≤ w.heap.size)
    (h : wpQuiet P l.toArray (fun W => ∃ x : Near B w, W = x.W) (fun a' => ∀ W, Below B w W → Q .normal a' W) l a) : (Code.region id l.toArray true).wp P Q a w := by
  refine wp_region_quiet (C := fun W => ∃ x : Near B w, W = x.W) hm hB ⟨⟨_, ?_⟩, rfl⟩ ?_
  · exact below_drewN (Below.refl B w) 1
  · have e : (fun a' => ∀ W, Below B w W → Q Exit.normal a' W) = (fun a' => ∀ W, (∃ x : Near B w, W = x.W) → Q Exit.normal a' W) := by
      funext a'
      apply propext
      constructor
      · rintro k W ⟨x, rfl⟩
        exact k _ x.h
      · intro k W hW
        exact k W ⟨⟨W, hW⟩, rfl⟩
    rw [e] at h
    simpa using h
theorem near_of {P : Program} {f : FuncId} {args : Array Value} {B : Nat} {w : World} {x : Near B w} {v : Value}
    (h : Calls P f args x.W fun e w' => e = .returned v ∧ Below x.W.heap.size x.W w') (hb : B ≤ w.heap.size) : Calls P f args x.W fun e w'' => e = .returned v ∧ ∃ y : Near B w, w'' = y.W :=
  h.mono fun _ w' ⟨he, hm⟩ => ⟨he, ⟨w', x.h.trans (hm.mono (Nat.le_trans hb x.h.size))⟩, rfl⟩
theorem near_same {P : Program} {f : FuncId} {args : Array Value} {B : Nat} {w : World} {x : Near B w} {v : Value}
    (h : Calls P f args x.W fun e w' => e = .returned v ∧ x.W = w') : Calls P f args x.W fun e w'' => e = .returned v ∧ ∃ y : Near B w, w'' = y.W :=
  h.mono fun _ _ ⟨he, hm⟩ => ⟨he, x, hm.symm⟩
end Go.Proofs.YtfahabphncmbfaaGreatDoor
set_option linter.unusedVariables false
namespace Go.Proofs.YtfahabphncmbfaaGreatDoor
open Go.RowKit

/-- Parts, that rise. -/
structure RowOk (np : Nat) (l : List Int) : Prop where
  some_ : 0 < l.length
  parts : ∀ x ∈ l, 0 ≤ x ∧ x < np
  rises : ∀ i x y, l[i]? = some x → l[i + 1]? = some y → x < y
section
variable {P : Option Addr} {np pc : Nat} {E : Option Addr} {ne ec : Nat} {F : Option Addr} {nf fc : Nat} {R : Option Addr} {nr rc : Nat} {p q : Int}
structure BxR (w : World) (p q : Int) (P : Option Addr) (np pc : Nat) (E : Option Addr) (ne ec : Nat) (F : Option Addr) (nf fc : Nat) (R : Option Addr) (nr rc : Nat) (A : Option Addr) (l : List Int) (w' : World) : Prop where
  b : BxD w p q P np pc E ne ec F nf fc R nr rc w'
  l : Ints w' w.heap.size A l
theorem BxR.next {w w1 w2 : World} {A : Option Addr} {l : List Int} (h : BxR w p q P np pc E ne ec F nf fc R nr rc A l w1) (hb : Below w1.heap.size w1 w2) : BxR w p q P np pc E ne ec F nf fc R nr rc A l w2 :=
  ⟨h.b.next hb, h.l.keep fun a ha => hb.cell (Nat.lt_of_lt_of_le ha h.b.bel.size)⟩
theorem bxr_n {z : Prop} {w x y : World} {A : Option Addr} {l : List Int} (h : z ∧ Hid (BxR w p q P np pc E ne ec F nf fc R nr rc A l x)) (b : Below x.heap.size x y) : BxR w p q P np pc E ne ec F nf fc R nr rc A l y := h.2.out.next b
theorem ints_cell {w : World} {B bk off k : Nat} {l : List Int} {z : Int} (h : Ints w B (some ⟨bk, off, none⟩) l) (hz : l[k]? = some z) : w.cell? ⟨bk, off + k, none⟩ = some (.int .i64 z) := by
  have hk := (List.getElem?_eq_some_iff.1 hz).1
  obtain ⟨b', o', z', e, _, hz', hc⟩ := h.at_ hk
  injection e with e
  injection e with e1 e2
  subst e1 e2
  rw [hz] at hz'
  injection hz' with hz'
  subst hz'
  exact hc
theorem near_cell {w : World} {a : Addr} {v : Value} (h : w.cell? a = some v) (x : Near w.heap.size w) : x.W.cell? a = some v := (x.h.cell (World.block_lt_of_cell? _ _ h)).trans h
theorem row_step {l : List Int} {k : Nat} {z : Int} (h : ∀ x ∈ l.take k, 0 ≤ x ∧ x < np) (hz : l[k]? = some z) (hp : 0 ≤ z ∧ z < np) : ∀ x ∈ l.take (k + 1), 0 ≤ x ∧ x < np := by
  intro x hx
  rw [List.take_add_one, hz] at hx
  rcases List.mem_append.mp hx with hx | hx
  · exact h x hx
  · obtain rfl : x = z := by simpa using hx
    exact hp
theorem rise_step {l : List Int} {k : Nat} {y z : Int} (h : ∀ i a b, i + 1 < k → l[i]? = some a → l[i + 1]? = some b → a < b) (hy : l[k - 1]? = some y) (hz : l[k]? = some z) (hyz : y < z) : ∀ i a b, i + 1 < k + 1 → l[i]? = some a → l[i + 1]? = some b → a < b := by
  intro i a b hi ha hb
  by_cases e : i + 1 = k
  · rw [e, hz] at hb
    rw [show i = k - 1 by omega, hy] at ha
    injection ha with ha
    injection hb with hb
    omega
  · exact h i a b (by omega) ha hb
set_option maxRecDepth 100000 in
set_option maxHeartbeats 8000000 in
theorem drow_any (A : Option Addr) (c : Nat) (l : List Int) (len : Nat) (r : Bool) (hr : r = true ↔ RowOk np l) (w : World) (hm : l.length = len) (hl : len ≤ 1000) (hI : Ints w w.heap.size A l) :
    Calls Tryz.prog 213 #[.agg #[.int .i64 p, .int .i64 q, .slice P np pc, .slice E ne ec, .slice F nf fc, .slice R nr rc], .slice A len c] w fun e w' => e = .returned (.bool r) ∧ Below w.heap.size w w' := by
  have B0 := Lib.hid (BxR.mk (BxD.start w p q P np pc E ne ec F nf fc R nr rc) (hI.below (below_alloc _)))
  have HM := Lib.hid hm
  have HR := Lib.hid hr
  clear hI hm hr
  go_enter Tryz.func213, Tryz.ntmps213
  go_wp2
  go_loopw [5] (fun v wr => ∃ k : Nat, k ≤ len ∧ v = .int .i64 k ∧ Hid (BxR w p q P np pc E ne ec F nf fc R nr rc A l wr) ∧ Hid ((∀ x ∈ l.take k, 0 ≤ x ∧ x < np) ∧ ∀ i x y, i + 1 < k → l[i]? = some x → l[i + 1]? = some y → x < y)) (fun v _ => len - (intOf v).toNat)
  case atStart => exact ⟨0, Nat.zero_le _, rfl, B0, Lib.hid ⟨by simp, by omega⟩⟩
  case round =>
    obtain ⟨k, hk, rfl, BR, HN⟩ := hrel
    clear B0
    by_cases hlt : k < len
    · obtain ⟨bk, off, z, rfl, hbg, hz, hc⟩ := BR.out.l.at_ (k := k) (by rw [HM.out]; exact hlt)
      have HZ := Lib.hid hz
      obtain ⟨b0, b1, b2, b3, b4, b5⟩ := BR.out.b.cells
      have n0 := near_cell b0
      have n1 := near_cell b1
      have n2 := near_cell b2
      have n3 := near_cell b3
      have n4 := near_cell b4
      have n5 := near_cell b5
      have n6 := near_cell hc
      clear b0 b1 b2 b3 b4 b5
      have C := Lib.hid (dpart_any (P := P) (np := np) (pc := pc) (E := E) (ne := ne) (ec := ec) (F := F) (nf := nf) (fc := fc) (R := R) (nr := nr) (rc := rc) (p := p) (q := q) z)
      clear hz hc
      by_cases hp : 0 ≤ z ∧ z < np
      · simp only [decide_eq_true hp] at C
        by_cases h0 : k = 0
        · have g1 : decide ((0 : Int) < (k : Int)) = false := by rw [decide_eq_false_iff_not]; omega
          have g2 : decide (0 < k) = false := by rw [decide_eq_false_iff_not]; omega
          have HPP := Lib.hid hp
          clear g1 g2 hp
          subst h0
          simp only [Nat.add_zero] at n6
          rw [show ((0 : Nat) : Int) = 0 from rfl]
          go_wp2_with fail
          refine wp_region_near wr.heap.size (by kernel_rfl) (by kernel_rfl) (Nat.le_refl _) ?_
          repeat (go_big_quiet_step (first
            | (go_at_call 212; exact near_of (C.out _) (Nat.le_refl _))))
          refine wpQuiet_nil ?_
          intro W hW
          have HB := Lib.hid (BR.out.next hW)
          clear hW
          go_wp2
          go_roundw
          case rel => exact ⟨1, by omega, rfl, HB, Lib.hid ⟨row_step HN.out.1 HZ.out HPP.out, fun i x y hi => by omega⟩⟩
          case measure => simp [intOf]; omega
        · obtain ⟨j, rfl⟩ : ∃ j, k = j + 1 := ⟨k - 1, by omega⟩
          obtain ⟨y, hy⟩ : ∃ y, l[j]? = some y := ⟨_, List.getElem?_eq_getElem (by rw [HM.out]; omega)⟩
          have HY := Lib.hid hy
          have HPP := Lib.hid hp
          have n7 := near_cell (ints_cell BR.out.l hy)
          clear hy hp h0
          rw [show ((j + 1 : Nat) : Int) = (j : Int) + 1 from rfl]
          by_cases hyz : y < z
          · have hd : decide (z ≤ y) = false := by rw [decide_eq_false_iff_not]; omega
            go_wp2_with fail
            refine wp_region_near wr.heap.size (by kernel_rfl) (by kernel_rfl) (Nat.le_refl _) ?_
            repeat (go_big_quiet_step (first
              | (go_at_call 212; exact near_of (C.out _) (Nat.le_refl _))))
            refine wpQuiet_nil ?_
            intro W hW
            have HB := Lib.hid (BR.out.next hW)
            clear hW
            go_wp2
            go_roundw
            case rel => exact ⟨j + 1 + 1, by omega, by go_num, HB, Lib.hid ⟨row_step HN.out.1 HZ.out HPP.out, rise_step HN.out.2 HY.out HZ.out hyz⟩⟩
            case measure => simp [intOf]; omega
          · have hd : decide (z ≤ y) = true := by rw [decide_eq_true_iff]; omega
            have HNO := Lib.hid (show r = false from by
              rw [← Bool.not_eq_true]
              intro h
              have := (HR.out.mp h).rises j y z HY.out HZ.out
              omega)
            go_wp2_with fail
            refine wp_region_near wr.heap.size (by kernel_rfl) (by kernel_rfl) (Nat.le_refl _) ?_
            repeat (go_big_quiet_step (first
              | (go_at_call 212; exact near_of (C.out _) (Nat.le_refl _))))
            refine wpQuiet_nil ?_
            intro W hW
            have HB := Lib.hid (BR.out.next hW)
            clear hW
            go_wp2
            go_ret
            exact ⟨by rw [HNO.out]; rfl, HB.out.b.bel⟩
      · simp only [decide_eq_false hp] at C
        have HNO := Lib.hid (show r = false from by
          rw [← Bool.not_eq_true]
          intro h
          exact hp ((HR.out.mp h).parts z (List.mem_of_getElem? HZ.out)))
        clear hp
        go_wp2_with fail
        refine wp_region_near wr.heap.size (by kernel_rfl) (by kernel_rfl) (Nat.le_refl _) ?_
        repeat (go_big_quiet_step (first
          | (go_at_call 212; exact near_of (C.out _) (Nat.le_refl _))))
        refine wpQuiet_nil ?_
        intro W hW
        have HB := Lib.hid (BR.out.next hW)
        clear hW
        go_wp2
        go_ret
        exact ⟨by rw [HNO.out]; rfl, HB.out.b.bel⟩
    · have e : len = k := by omega
      subst e
      clear hlt hk
      by_cases h0 : len = 0
      · have HNO := Lib.hid (show r = false from by
          rw [← Bool.not_eq_true]
          intro h
          have := (HR.out.mp h).some_
          rw [HM.out] at this
          omega)
        have g1 : decide ((0 : Int) < (len : Int)) = false := by rw [decide_eq_false_iff_not]; omega
        have g2 : decide (0 < len) = false := by rw [decide_eq_false_iff_not]; omega
        clear h0
        go_wp2
        go_ret
        exact ⟨by rw [HNO.out]; rfl, BR.out.b.bel⟩
      · have HYES := Lib.hid (show r = true from by
          refine HR.out.mpr ⟨by rw [HM.out]; omega, fun x hx => HN.out.1 x (by rwa [List.take_of_length_le (by rw [HM.out]; omega)]), fun i x y hx hy => HN.out.2 i x y ?_ hx hy⟩
          have := (List.getElem?_eq_some_iff.1 hy).1
          rw [HM.out] at this
          exact this)
        have g1 : decide ((0 : Int) < (len : Int)) = true := by rw [decide_eq_true_iff]; omega
        have g2 : decide (0 < len) = true := by rw [decide_eq_true_iff]; omega
        clear h0
        go_wp2
        go_ret
        exact ⟨by rw [HYES.out]; rfl, BR.out.b.bel⟩
end
end Go.Proofs.YtfahabphncmbfaaGreatDoor
