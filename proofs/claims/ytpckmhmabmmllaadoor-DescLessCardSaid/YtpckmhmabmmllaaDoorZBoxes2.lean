/- As Boxes, and what two calls have yielded lies apart ('Ap': 'F v w': v is new behind w). No statement is proved here. -/
import Derived.Test.YtpckmhmabmmllaaDoorZM5
set_option linter.unusedVariables false
namespace Go.Proofs.YtpckmhmabmmllaaDoor
open Go Go.RowKit

section
variable {P : Program} {ops : Array Oper} {Q : Exit → Act → World → Prop}
/-- What holds whichever operations have come up. -/
structure BInv2 (Ap : Value → Value → Prop) (n : Nat) (ld ow al : List Nat) (D : TypeId) (c base : Nat) (a0 : Act) (dv : Value) (I : World → Prop) (G : Value → World → Prop) (cv : Value → Array Value) (l : Array Bool) (a : Act) (w : World) : Prop where
  lsz : l.size = 4 * n
  iw : I w
  bs : base ≤ w.heap.size
  ad : AtDoor a0 (ld ++ ow ++ al) a.eval
  sz : a.tmps.size = a0.tmps.size
  df : a.defers = a0.defers
  L : ∀ j, j < n → l.getD (2 * j) false = true → a.eval (.tmp (ld.getD j 0)) = dv
  O : ∀ j, j < n → l.getD (2 * j + 1) false = true → G (a.eval (.tmp (ow.getD j 0))) w
  A : ∀ j, j < n → l.getD (2 * n + j) false = true → ∃ g cs, a.eval (.tmp (al.getD j 0)) = .pointer (some ⟨g, 0, none⟩) ∧ base ≤ g ∧ w.heap[g]? = some (.cells cs D (0, 0)) ∧ cs.size = c ∧ (l.getD (3 * n + j) false = true → cs = cv (a.eval (.tmp (ow.getD j 0))))
  S : ∀ j, j < n → l.getD (3 * n + j) false = true → l.getD (2 * j + 1) false = true ∧ l.getD (2 * n + j) false = true
  Y : ∀ j k, j < n → k < n → j ≠ k → l.getD (2 * j + 1) false = true → l.getD (2 * k + 1) false = true → Ap (a.eval (.tmp (ow.getD j 0))) (a.eval (.tmp (ow.getD k 0)))
  X : ∀ j k, j < n → k < n → j ≠ k → l.getD (2 * n + j) false = true → l.getD (2 * n + k) false = true → a.eval (.tmp (al.getD j 0)) ≠ a.eval (.tmp (al.getD k 0))
set_option maxHeartbeats 4000000 in
theorem wp_region_boxes2 (Ap : Value → Value → Prop) (F : Value → World → Prop) (n : Nat) (ld ow al : List Nat) (D : TypeId) (c : Nat) (zs : Array Value) {id : Nat} {a0 : Act} {w0 : World} (hm : P.follows .mixedOrders = true) (hB : boxesB ops n ld ow al D = true) (hsz : ∀ d ∈ ld ++ ow ++ al, d < a0.tmps.size)
    (base : Nat) (hbase : base = w0.heap.size) (dv : Value) (I : World → Prop) (G : Value → World → Prop) (cv : Value → Array Value)
    (hI : ∀ w w', I w → base ≤ w.heap.size → RX base D w w' → I w') (hG : ∀ v w w', G v w → RX base D w w' → G v w') (h0 : I { w0 with drawn := w0.drawn + 1 })
    (hzs : zs.size = c) (hcv : ∀ v w, G v w → (cv v).size = c)
    (hload : ∀ j o, j < n → ops[2 * j]? = some o → ∀ (ρ : Operand → Value) (w : World), I w → AtDoor a0 (ld ++ ow ++ al) ρ → (execOp ρ o).run P w = .ok (.value dv) w)
    (hcall : ∀ j o, j < n → ops[2 * j + 1]? = some o → ∀ (a : Act) (w : World), I w → a.eval (.tmp (ld.getD j 0)) = dv → ∀ K : Act → World → Prop, (∀ v w', G v w' → F v w → Below w.heap.size w w' → K (a.put o.dst v) w') → o.wp P a w K Q)
    (hAp : ∀ u v w, G u w → F v w → Ap u v ∧ Ap v u)
    (halloc : ∀ (o : Oper) (ρ : Operand → Value) (w : World), o.op = .alloc D → (execOp ρ o).run P w = .ok (.value (.pointer (some ⟨w.heap.size, 0, none⟩))) (w.alloc (.cells zs D)))
    (hstore : ∀ (o : Oper) (ρ : Operand → Value) (w : World) (x y : Operand) (g : Nat) (cs : Array Value), o.op = .store D x y → ρ x = .pointer (some ⟨g, 0, none⟩) → w.heap[g]? = some (.cells cs D (0, 0)) → cs.size = c → G (ρ y) w → ∃ w', (execOp ρ o).run P w = .ok .skip w' ∧ Filled D g (cv (ρ y)) w w')
    (hend : ∀ (vals : Nat → Value) (w : World), I w → base ≤ w.heap.size → (∀ j, j < n → G (vals (ow.getD j 0)) w) → (∀ j, j < n → ∃ g, vals (al.getD j 0) = .pointer (some ⟨g, 0, none⟩) ∧ base ≤ g ∧ w.heap[g]? = some (.cells (cv (vals (ow.getD j 0))) D (0, 0))) →
      (∀ j k, j < n → k < n → j ≠ k → vals (al.getD j 0) ≠ vals (al.getD k 0)) → (∀ j k, j < n → k < n → j ≠ k → Ap (vals (ow.getD j 0)) (vals (ow.getD k 0))) → Q .normal ⟨(fillA a0 (ld ++ ow ++ al) vals).toArray, a0.defers⟩ w) :
    (Code.region id ops true).wp P Q a0 w0 := by
  have T := boxes_of hB
  obtain ⟨n1, n2, n3, n4, n5, n6⟩ := nodup3 T.nodup T.lld T.low T.lal
  have mld : ∀ j, j < n → ld.getD j 0 ∈ ld ++ ow ++ al := fun j hj => List.mem_append_left _ (List.mem_append_left _ (fds_mem (by rw [T.lld]; exact hj)))
  have mow : ∀ j, j < n → ow.getD j 0 ∈ ld ++ ow ++ al := fun j hj => List.mem_append_left _ (List.mem_append_right _ (fds_mem (by rw [T.low]; exact hj)))
  have mal : ∀ j, j < n → al.getD j 0 ∈ ld ++ ow ++ al := fun j hj => List.mem_append_right _ (fds_mem (by rw [T.lal]; exact hj))
  refine wp_region_inv (BInv2 Ap n ld ow al D c base a0 dv I G cv) hm ?_ ?_ ?_
  · have hno : ∀ k, (Array.replicate ops.size false).getD k false = true → False := fun k h => by by_cases h2 : k < ops.size <;> simp [h2] at h
    exact ⟨by rw [Array.size_replicate]; exact T.size, h0, by rw [hbase]; exact Nat.le_refl _, atDoor_start _ _, rfl, rfl, fun j _ h => (hno _ h).elim, fun j _ h => (hno _ h).elim, fun j _ h => (hno _ h).elim, fun j _ h => (hno _ h).elim, fun j k _ _ _ h => (hno _ h).elim, fun j k _ _ _ h => (hno _ h).elim⟩
  · rintro l a w i V hi
    obtain ⟨hun, o, ho, hpre⟩ := mem_ready.1 hi
    have hilt : i < ops.size := (Array.getElem?_eq_some_iff.1 ho).1
    have hin : i < 4 * n := by rw [← T.size]; exact hilt
    have hil : i < l.size := by rw [V.lsz]; exact hin
    have hset : (l.setIfInBounds i true).size = 4 * n := by rw [Array.size_setIfInBounds]; exact V.lsz
    have hput : ∀ d v, (a.put (some d) v).tmps.size = a0.tmps.size := fun d v => by
      show (a.tmps.setIfInBounds _ _).size = _
      rw [Array.size_setIfInBounds]; exact V.sz
    have hlt : ∀ g o', w.heap[g]? = some o' → g < w.heap.size := fun g o' h => (Array.getElem?_eq_some_iff.1 h).1
    rcases (show (∃ j, j < n ∧ i = 2 * j) ∨ (∃ j, j < n ∧ i = 2 * j + 1) ∨ (∃ j, j < n ∧ i = 2 * n + j) ∨ ∃ j, j < n ∧ i = 3 * n + j by
      rcases Nat.lt_or_ge i (2 * n) with h | h
      · rcases Nat.mod_two_eq_zero_or_one i with h2 | h2
        · exact .inl ⟨i / 2, by omega, by omega⟩
        · exact .inr (.inl ⟨i / 2, by omega, by omega⟩)
      · rcases Nat.lt_or_ge i (3 * n) with h3 | h3
        · exact .inr (.inr (.inl ⟨i - 2 * n, by omega, by omega⟩))
        · exact .inr (.inr (.inr ⟨i - 3 * n, by omega, by omega⟩))) with ⟨j, hj, rfl⟩ | ⟨j, hj, rfl⟩ | ⟨j, hj, rfl⟩ | ⟨j, hj, rfl⟩
    · -- a load
      refine wpOp_at ho (T.guard _ o ho) ?_
      unfold Oper.wp
      rw [hload j o hj ho a.eval w V.iw V.ad, Oper.upon_value, T.load j o hj ho]
      refine ⟨hset, V.iw, V.bs, V.ad.put (mld j hj) dv, hput _ _, V.df, fun k hk h => ?_, fun k hk h => ?_, fun k hk h => ?_, fun k hk h => ?_, fun k m hk hm' hkm h1 h2 => ?_, fun k m hk hm' hkm h1 h2 => ?_⟩
      · by_cases e : k = j
        · subst e
          exact eval_put_same _ _ _ (by rw [V.sz]; exact hsz _ (mld k hk))
        · rw [eval_put_other _ _ _ _ (fun q => e (n1 k j hk hj q))]
          exact V.L k hk (set_false h (by omega))
      · rw [eval_put_other _ _ _ _ (fun q => n4 j k hj hk q.symm)]
        exact V.O k hk (set_false h (by omega))
      · rw [eval_put_other _ _ _ _ (fun q => n5 j k hj hk q.symm), eval_put_other _ _ _ _ (fun q => n4 j k hj hk q.symm)]
        obtain ⟨g, cs, q1, q2, q3, q4, q5⟩ := V.A k hk (set_false h (by omega))
        exact ⟨g, cs, q1, q2, q3, q4, fun h' => q5 (set_false h' (by omega))⟩
      · exact ⟨(getD_set_iff hil).mpr (.inr (V.S k hk (set_false h (by omega))).1), (getD_set_iff hil).mpr (.inr (V.S k hk (set_false h (by omega))).2)⟩
      · rw [eval_put_other _ _ _ _ (fun q => n4 j k hj hk q.symm), eval_put_other _ _ _ _ (fun q => n4 j m hj hm' q.symm)]
        exact V.Y k m hk hm' hkm (set_false h1 (by omega)) (set_false h2 (by omega))
      · rw [eval_put_other _ _ _ _ (fun q => n5 j k hj hk q.symm), eval_put_other _ _ _ _ (fun q => n5 j m hj hm' q.symm)]
        exact V.X k m hk hm' hkm (set_false h1 (by omega)) (set_false h2 (by omega))
    · -- a call
      obtain ⟨hd, e, he, e1, e2⟩ := T.call j o hj ho
      refine wpOp_at ho (T.guard _ o ho) (hcall j o hj ho a w V.iw (V.L j hj (by rw [← e1]; exact hpre e he e2)) _ fun v w' hv hfr hb => ?_)
      rw [hd]
      have hr := RX.of_below (base := base) (D := D) hb
      refine ⟨hset, hI w w' V.iw V.bs hr, Nat.le_trans V.bs hb.size, V.ad.put (mow j hj) v, hput _ _, V.df, fun k hk h => ?_, fun k hk h => ?_, fun k hk h => ?_, fun k hk h => ?_, fun k m hk hm' hkm h1 h2 => ?_, fun k m hk hm' hkm h1 h2 => ?_⟩
      · rw [eval_put_other _ _ _ _ (n4 k j hk hj)]
        exact V.L k hk (set_false h (by omega))
      · by_cases e : k = j
        · subst e
          rw [eval_put_same _ _ _ (by rw [V.sz]; exact hsz _ (mow k hk))]
          exact hv
        · rw [eval_put_other _ _ _ _ (fun q => e (n2 k j hk hj q))]
          exact hG _ _ _ (V.O k hk (set_false h (by omega))) hr
      · rw [eval_put_other _ _ _ _ (fun q => n6 j k hj hk q.symm)]
        obtain ⟨g, cs, q1, q2, q3, q4, q5⟩ := V.A k hk (set_false h (by omega))
        refine ⟨g, cs, q1, q2, by rw [hb.block g (hlt g _ q3)]; exact q3, q4, fun h' => ?_⟩
        have hs := set_false h' (by omega)
        have hne : k ≠ j := fun e => by
          subst e
          have := (V.S k hk hs).1
          simp [hil] at this hun
          rw [this] at hun
          cases hun
        rw [eval_put_other _ _ _ _ (fun q => hne (n2 k j hk hj q))]
        exact q5 hs
      · exact ⟨(getD_set_iff hil).mpr (.inr (V.S k hk (set_false h (by omega))).1), (getD_set_iff hil).mpr (.inr (V.S k hk (set_false h (by omega))).2)⟩
      · by_cases ek : k = j
        · subst ek
          rw [eval_put_same _ _ _ (by rw [V.sz]; exact hsz _ (mow k hk)), eval_put_other _ _ _ _ (fun q => hkm (n2 m k hm' hk q).symm)]
          exact (hAp _ _ _ (V.O m hm' (set_false h2 (by omega))) hfr).2
        · by_cases em : m = j
          · subst em
            rw [eval_put_same _ _ _ (by rw [V.sz]; exact hsz _ (mow m hm')), eval_put_other _ _ _ _ (fun q => ek (n2 k m hk hm' q))]
            exact (hAp _ _ _ (V.O k hk (set_false h1 (by omega))) hfr).1
          · rw [eval_put_other _ _ _ _ (fun q => ek (n2 k j hk hj q)), eval_put_other _ _ _ _ (fun q => em (n2 m j hm' hj q))]
            exact V.Y k m hk hm' hkm (set_false h1 (by omega)) (set_false h2 (by omega))
      · rw [eval_put_other _ _ _ _ (fun q => n6 j k hj hk q.symm), eval_put_other _ _ _ _ (fun q => n6 j m hj hm' q.symm)]
        exact V.X k m hk hm' hkm (set_false h1 (by omega)) (set_false h2 (by omega))
    · -- a new box
      obtain ⟨hd, hop⟩ := T.alloc j o hj ho
      refine wpOp_at ho (T.guard _ o ho) ?_
      unfold Oper.wp
      rw [halloc o a.eval w hop, Oper.upon_value, hd]
      have hb : Below w.heap.size w (w.alloc (.cells zs D)) := below_alloc _
      have hr := RX.of_below (base := base) (D := D) hb
      refine ⟨hset, hI w _ V.iw V.bs hr, Nat.le_trans V.bs hb.size, V.ad.put (mal j hj) _, hput _ _, V.df, fun k hk h => ?_, fun k hk h => ?_, fun k hk h => ?_, fun k hk h => ?_, fun k m hk hm' hkm h1 h2 => ?_, fun k m hk hm' hkm h1 h2 => ?_⟩
      · rw [eval_put_other _ _ _ _ (n5 k j hk hj)]
        exact V.L k hk (set_false h (by omega))
      · rw [eval_put_other _ _ _ _ (n6 k j hk hj)]
        exact hG _ _ _ (V.O k hk (set_false h (by omega))) hr
      · by_cases e : k = j
        · subst e
          rw [eval_put_same _ _ _ (by rw [V.sz]; exact hsz _ (mal k hk))]
          refine ⟨w.heap.size, zs, rfl, V.bs, heap_alloc_new w _, hzs, fun h' => ?_⟩
          -- its store waits for it
          exfalso
          have := (V.S k hk (set_false h' (by omega))).2
          simp [hil] at this hun
          rw [hun] at this
          cases this
        · rw [eval_put_other _ _ _ _ (fun q => e (n3 k j hk hj q)), eval_put_other _ _ _ _ (n6 k j hk hj)]
          obtain ⟨g, cs, q1, q2, q3, q4, q5⟩ := V.A k hk (set_false h (by omega))
          exact ⟨g, cs, q1, q2, by rw [hb.block g (hlt g _ q3)]; exact q3, q4, fun h' => q5 (set_false h' (by omega))⟩
      · exact ⟨(getD_set_iff hil).mpr (.inr (V.S k hk (set_false h (by omega))).1), (getD_set_iff hil).mpr (.inr (V.S k hk (set_false h (by omega))).2)⟩
      · rw [eval_put_other _ _ _ _ (n6 k j hk hj), eval_put_other _ _ _ _ (n6 m j hm' hj)]
        exact V.Y k m hk hm' hkm (set_false h1 (by omega)) (set_false h2 (by omega))
      · by_cases ek : k = j
        · subst ek
          rw [eval_put_same _ _ _ (by rw [V.sz]; exact hsz _ (mal k hk)), eval_put_other _ _ _ _ (fun q => hkm (n3 m k hm' hk q).symm)]
          obtain ⟨g, cs, q1, q2, q3, _⟩ := V.A m hm' (set_false h2 (by omega))
          rw [q1]
          intro q
          injection q with q
          injection q with q
          injection q with q
          have := hlt g _ q3
          omega
        · by_cases em : m = j
          · subst em
            rw [eval_put_same _ _ _ (by rw [V.sz]; exact hsz _ (mal m hm')), eval_put_other _ _ _ _ (fun q => ek (n3 k m hk hm' q))]
            obtain ⟨g, cs, q1, q2, q3, _⟩ := V.A k hk (set_false h1 (by omega))
            rw [q1]
            intro q
            injection q with q
            injection q with q
            injection q with q
            have := hlt g _ q3
            omega
          · rw [eval_put_other _ _ _ _ (fun q => ek (n3 k j hk hj q)), eval_put_other _ _ _ _ (fun q => em (n3 m j hm' hj q))]
            exact V.X k m hk hm' hkm (set_false h1 (by omega)) (set_false h2 (by omega))
    · -- a store
      obtain ⟨hd, hop, ⟨e, he, e1, e2⟩, e', he', e1', e2'⟩ := T.store j o hj ho
      have lo : l.getD (2 * j + 1) false = true := by rw [← e1]; exact hpre e he e2
      have la : l.getD (2 * n + j) false = true := by rw [← e1']; exact hpre e' he' e2'
      obtain ⟨g, cs, q1, q2, q3, q4, q5⟩ := V.A j hj la
      have hg := V.O j hj lo
      obtain ⟨w', hrun, hfil⟩ := hstore o a.eval w _ _ g cs hop q1 q3 q4 hg
      have hr := hfil.rb q2 q3
      refine wpOp_at ho (T.guard _ o ho) ?_
      unfold Oper.wp
      rw [hrun, Oper.upon_skip, hd]
      show BInv2 Ap n ld ow al D c base a0 dv I G cv (l.setIfInBounds (3 * n + j) true) a w'
      refine ⟨hset, hI w _ V.iw V.bs hr, by rw [hfil.size]; exact V.bs, V.ad, V.sz, V.df, fun k hk h => V.L k hk (set_false h (by omega)), fun k hk h => hG _ _ _ (V.O k hk (set_false h (by omega))) hr, fun k hk h => ?_, fun k hk h => ?_, fun k m hk hm' hkm h1 h2 => V.Y k m hk hm' hkm (set_false h1 (by omega)) (set_false h2 (by omega)), fun k m hk hm' hkm h1 h2 => V.X k m hk hm' hkm (set_false h1 (by omega)) (set_false h2 (by omega))⟩
      · by_cases e : k = j
        · subst e
          exact ⟨g, cv (a.eval (.tmp (ow.getD k 0))), q1, q2, hfil.at_, hcv _ _ hg, fun _ => rfl⟩
        · have lk := set_false h (by omega)
          obtain ⟨g', cs', p1, p2, p3, p4, p5⟩ := V.A k hk lk
          have hne : g' ≠ g := fun q => V.X k j hk hj e lk la (by rw [p1, q1, q])
          exact ⟨g', cs', p1, p2, by rw [hfil.other g' hne]; exact p3, p4, fun h' => p5 (set_false h' (by omega))⟩
      · by_cases e : k = j
        · subst e
          exact ⟨(getD_set_iff hil).mpr (.inr lo), (getD_set_iff hil).mpr (.inr la)⟩
        · exact ⟨(getD_set_iff hil).mpr (.inr (V.S k hk (set_false h (by omega))).1), (getD_set_iff hil).mpr (.inr (V.S k hk (set_false h (by omega))).2)⟩
  · rintro l a w V hr
    have hall := all_listed (by rw [V.lsz, T.size]) T.back hr
    rw [T.size] at hall
    rw [act_fill V.ad V.sz V.df]
    refine hend (fun t => a.eval (.tmp t)) w V.iw V.bs (fun j hj => V.O j hj (hall _ (by omega))) (fun j hj => ?_) (fun j k hj hk hjk => V.X j k hj hk hjk (hall _ (by omega)) (hall _ (by omega))) (fun j k hj hk hjk => V.Y j k hj hk hjk (hall _ (by omega)) (hall _ (by omega)))
    obtain ⟨g, cs, q1, q2, q3, q4, q5⟩ := V.A j hj (hall _ (by omega))
    exact ⟨g, q1, q2, by rw [← q5 (hall _ (by omega))]; exact q3⟩
end
end Go.Proofs.YtpckmhmabmmllaaDoor
