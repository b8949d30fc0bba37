/- A region that draws its order, whose operations read or make new blocks and whose callees leave what is there as it is, with '&&' and '||': by facts on what each operation yields, in the order of the text. No statement is proved here. -/
import Derived.Test.YtohgdeddepfanaaDoorGather
import Derived.Test.YtohgdeddepfanaaDoorChecked
set_option linter.unusedVariables false
namespace Go.Proofs.YtohgdeddepfanaaDoor
open Go Go.RowKit

section
variable {P : Program} {ops : Array Oper} {Q : Exit → Act → World → Prop}
/-- What the region's text must be (all by the kernel): ds are the operations' slots, wt says which are wanted. -/
def factsB (ops : Array Oper) (ds : List Nat) (wt : List Bool) : Bool :=
  ops.size == ds.length && backB ops && decide ds.Nodup &&
  ((List.range ds.length).all fun k => (match ops[k]? with | some o => o.dst == some (ds.getD k 0) | none => false)) &&
  ((List.range ds.length).all fun k => (match ops[k]? with
    | some o => (match o.guard with | some g => decide (g.1 < k) && o.after.any (fun e => e.on == g.1 && Region.binds .any e) | none => wt.getD k true)
    | none => false))
structure Facts (ops : Array Oper) (ds : List Nat) (wt : List Bool) : Prop where
  size : ops.size = ds.length
  back : ∀ (i : Nat) (o : Oper), ops[i]? = some o → ∀ e ∈ o.after, e.on < i
  nodup : ds.Nodup
  dst : ∀ (k : Nat) (o : Oper), ops[k]? = some o → o.dst = some (ds.getD k 0)
  guard : ∀ (k : Nat) (o : Oper) (g : Nat) (b : Bool), ops[k]? = some o → o.guard = some (g, b) → g < k ∧ ∃ e ∈ o.after, e.on = g ∧ Region.binds .any e = true
  free : ∀ (k : Nat) (o : Oper), ops[k]? = some o → o.guard = none → wt.getD k true = true
theorem facts_of {ds : List Nat} {wt : List Bool} (h : factsB ops ds wt = true) : Facts ops ds wt := by
  unfold factsB at h
  simp only [Bool.and_eq_true, beq_iff_eq, decide_eq_true_iff] at h
  obtain ⟨⟨⟨⟨h1, h2⟩, h3⟩, h4⟩, h5⟩ := h
  have hk : ∀ (k : Nat) (o : Oper), ops[k]? = some o → k < ds.length := fun k o ho => h1 ▸ (Array.getElem?_eq_some_iff.1 ho).1
  refine ⟨h1, back_of h2, h3, fun k o ho => ?_, fun k o g b ho hg => ?_, fun k o ho hg => ?_⟩
  · have := List.all_eq_true.1 h4 k (List.mem_range.2 (hk k o ho))
    rw [ho] at this
    simpa using this
  · have := List.all_eq_true.1 h5 k (List.mem_range.2 (hk k o ho))
    rw [ho] at this
    simp only [hg, Bool.and_eq_true, decide_eq_true_iff] at this
    obtain ⟨e, he, h8⟩ := Array.any_eq_true'.1 this.2
    rw [Bool.and_eq_true, beq_iff_eq] at h8
    exact ⟨this.1, e, he, h8.1, h8.2⟩
  · have := List.all_eq_true.1 h5 k (List.mem_range.2 (hk k o ho))
    rw [ho] at this
    simpa only [hg] using this
theorem fds_mem {ds : List Nat} {k : Nat} (hk : k < ds.length) : ds.getD k 0 ∈ ds := by
  rw [List.getD_eq_getElem?_getD, List.getElem?_eq_getElem hk]
  exact List.getElem_mem hk
theorem fds_inj {ds : List Nat} (h : ds.Nodup) {k j : Nat} (hk : k < ds.length) (hj : j < ds.length) (e : ds.getD k 0 = ds.getD j 0) : k = j := by
  rw [List.getD_eq_getElem?_getD, List.getElem?_eq_getElem hk, List.getD_eq_getElem?_getD, List.getElem?_eq_getElem hj] at e
  exact (List.getElem_inj h).mp e
set_option maxHeartbeats 1000000 in
theorem wp_region_facts (ds : List Nat) (wt : List Bool) {id : Nat} {a0 : Act} {w0 : World} (hm : P.follows .mixedOrders = true) (hG : factsB ops ds wt = true) (hsz : ∀ d ∈ ds, d < a0.tmps.size)
    (I : World → Prop) (Φ : Nat → Value → World → Prop)
    (hI : ∀ w w', I w → Below w.heap.size w w' → I w') (hΦ : ∀ k v w w', Φ k v w → Below w.heap.size w w' → Φ k v w')
    (h0 : I { w0 with drawn := w0.drawn + 1 })
    (hW : ∀ (k : Nat) (o : Oper) (g : Nat) (b : Bool), ops[k]? = some o → o.guard = some (g, b) → ∀ v w, Φ g v w → v = .bool (if wt.getD k true = true then b else !b))
    (hskip : ∀ k, wt.getD k true = false → ∀ w, Φ k undef w)
    (hstep : ∀ (k : Nat) (o : Oper), ops[k]? = some o → wt.getD k true = true → ∀ (a : Act) (w : World), I w → AtDoor a0 ds a.eval → (∀ e ∈ o.after, Region.binds .any e = true → Φ e.on (a.eval (.tmp (ds.getD e.on 0))) w) →
      ∀ K : Act → World → Prop, (∀ v w', Φ k v w' → Below w.heap.size w w' → K (a.put o.dst v) w') → o.wp P a w K Q)
    (hend : ∀ (vals : Nat → Value) (w : World), I w → (∀ k, k < ds.length → Φ k (vals (ds.getD k 0)) w) → Q .normal ⟨(fillA a0 ds vals).toArray, a0.defers⟩ w) :
    (Code.region id ops true).wp P Q a0 w0 := by
  have G := facts_of hG
  refine wp_region_inv (fun l a w => l.size = ds.length ∧ I w ∧ AtDoor a0 ds a.eval ∧ a.tmps.size = a0.tmps.size ∧ a.defers = a0.defers ∧ (∀ k, k < ds.length → l.getD k false = true → Φ k (a.eval (.tmp (ds.getD k 0))) w)) hm ?_ ?_ ?_
  · refine ⟨by rw [Array.size_replicate]; exact G.size, h0, atDoor_start a0 ds, rfl, rfl, fun k hk h => ?_⟩
    exfalso
    by_cases h2 : k < ops.size <;> simp [h2] at h
  · rintro l a w i ⟨hls, hIw, hAD, hasz, hadf, hF⟩ hi
    obtain ⟨hun, o, ho, hpre⟩ := mem_ready.1 hi
    have hilt : i < ops.size := (Array.getElem?_eq_some_iff.1 ho).1
    have hin : i < ds.length := by rw [← G.size]; exact hilt
    have hil : i < l.size := by omega
    have hdep : ∀ e ∈ o.after, Region.binds .any e = true → Φ e.on (a.eval (.tmp (ds.getD e.on 0))) w := fun e he hb => hF e.on (Nat.lt_trans (G.back i o ho e he) hin) (hpre e he hb)
    have hnext : ∀ v w', Φ i v w' → Below w.heap.size w w' → (l.setIfInBounds i true).size = ds.length ∧ I w' ∧ AtDoor a0 ds (a.put o.dst v).eval ∧ (a.put o.dst v).tmps.size = a0.tmps.size ∧ (a.put o.dst v).defers = a0.defers ∧ (∀ k, k < ds.length → (l.setIfInBounds i true).getD k false = true → Φ k ((a.put o.dst v).eval (.tmp (ds.getD k 0))) w') := fun v w' hphi hb => by
      rw [G.dst i o ho]
      refine ⟨by rw [Array.size_setIfInBounds]; exact hls, hI w w' hIw hb, hAD.put (fds_mem hin) v, ?_, hadf, fun k hk hkl => ?_⟩
      · show (a.tmps.setIfInBounds _ _).size = _
        rw [Array.size_setIfInBounds]; exact hasz
      · by_cases hki : k = i
        · subst hki
          rw [eval_put_same _ _ _ (by rw [hasz]; exact hsz _ (fds_mem hin))]
          exact hphi
        · rw [eval_put_other _ _ _ _ (fun e => hki (fds_inj G.nodup hk hin e))]
          exact hΦ k _ _ _ (hF k hk ((listed_set hkl).resolve_left hki)) hb
    unfold wpOp
    rw [ho]
    have hyield : ∀ g b, o.guard = some (g, b) → yielded ops a.tmps g = some (if wt.getD i true = true then b else !b) := fun g b hg => by
      obtain ⟨hgi, e, he, h1, h2⟩ := G.guard i o g b ho hg
      have hv := hW i o g b ho hg _ _ (by have := hdep e he h2; rwa [h1] at this)
      obtain ⟨og, hog⟩ : ∃ og, ops[g]? = some og := ⟨_, Array.getElem?_eq_getElem (by omega)⟩
      unfold yielded
      rw [hog, Option.bind_some, G.dst g og hog, Option.bind_some]
      have hlt : ds.getD g 0 < a.tmps.size := by rw [hasz]; exact hsz _ (fds_mem (by omega))
      rw [Array.getElem?_eq_getElem hlt]
      have : a.tmps[ds.getD g 0] = .bool (if wt.getD i true = true then b else !b) := by
        rw [← hv]
        show _ = a.tmps.getD (ds.getD g 0) undef
        rw [Array.getD_eq_getD_getElem?, Array.getElem?_eq_getElem hlt]
        rfl
      rw [this]
    cases hw : wt.getD i true with
    | true =>
      have hwant : Region.wanted o (yielded ops a.tmps) = true := by
        unfold Region.wanted
        cases hg : o.guard with
        | none => rfl
        | some gb =>
          obtain ⟨g, b⟩ := gb
          show (yielded ops a.tmps g == some b) = true
          rw [hyield g b hg, hw]
          simp
      simp only [hwant, if_true]
      exact .inl (hstep i o ho hw a w hIw hAD hdep _ hnext)
    | false =>
      have hwant : Region.wanted o (yielded ops a.tmps) = false := by
        unfold Region.wanted
        cases hg : o.guard with
        | none =>
          have := G.free i o ho hg
          rw [hw] at this
          cases this
        | some gb =>
          obtain ⟨g, b⟩ := gb
          show (yielded ops a.tmps g == some b) = false
          rw [hyield g b hg, hw]
          cases b <;> rfl
      simp only [hwant]
      exact hnext undef w (hskip i hw w) (Below.refl _ _)
  · rintro l a w ⟨hls, hIw, hAD, hasz, hadf, hF⟩ hr
    have hall := all_listed (by rw [hls, G.size]) G.back hr
    rw [act_fill hAD hasz hadf]
    exact hend (fun t => a.eval (.tmp t)) w hIw fun k hk => hF k hk (hall k (by rw [G.size]; exact hk))
/-- What the guards read, by the kernel: gv lists which operation yields which truth. -/
def guardsB (ops : Array Oper) (wt : List Bool) (gv : List (Nat × Bool)) : Bool :=
  (List.range ops.size).all fun k => (match ops[k]? with
    | some o => (match o.guard with | some (g, b) => gv.any (fun p => p.1 == g && p.2 == (if wt.getD k true = true then b else !b)) | none => true)
    | none => true)
theorem wp_region_facts' (ds : List Nat) (wt : List Bool) (gv : List (Nat × Bool)) {id : Nat} {a0 : Act} {w0 : World} (hm : P.follows .mixedOrders = true) (hG : factsB ops ds wt = true) (hgB : guardsB ops wt gv = true) (hsz : ∀ d ∈ ds, d < a0.tmps.size)
    (I : World → Prop) (Φ : Nat → Value → World → Prop)
    (hI : ∀ w w', I w → Below w.heap.size w w' → I w') (hΦ : ∀ k v w w', Φ k v w → Below w.heap.size w w' → Φ k v w')
    (h0 : I { w0 with drawn := w0.drawn + 1 })
    (hgv : ∀ p ∈ gv, ∀ v w, Φ p.1 v w → v = .bool p.2)
    (hskip : ∀ k, wt.getD k true = false → ∀ w, Φ k undef w)
    (hstep : ∀ (k : Nat) (o : Oper), ops[k]? = some o → wt.getD k true = true → ∀ (a : Act) (w : World), I w → AtDoor a0 ds a.eval → (∀ e ∈ o.after, Region.binds .any e = true → Φ e.on (a.eval (.tmp (ds.getD e.on 0))) w) →
      ∀ K : Act → World → Prop, (∀ v w', Φ k v w' → Below w.heap.size w w' → K (a.put o.dst v) w') → o.wp P a w K Q)
    (hend : ∀ (vals : Nat → Value) (w : World), I w → (∀ k, k < ds.length → Φ k (vals (ds.getD k 0)) w) → Q .normal ⟨(fillA a0 ds vals).toArray, a0.defers⟩ w) :
    (Code.region id ops true).wp P Q a0 w0 :=
  wp_region_facts ds wt hm hG hsz I Φ hI hΦ h0 (fun k o g b ho hg v w hv => by
    have hk : k < ops.size := (Array.getElem?_eq_some_iff.1 ho).1
    have := List.all_eq_true.1 hgB k (List.mem_range.2 hk)
    rw [ho] at this
    simp only [hg] at this
    obtain ⟨p, hp, h2⟩ := List.any_eq_true.1 this
    rw [Bool.and_eq_true, beq_iff_eq, beq_iff_eq] at h2
    rw [← h2.2]
    exact hgv p hp v w (by rw [h2.1]; exact hv)) hskip hstep hend
/-- An operation that yields at once. -/
theorem fx_val {o : Oper} {a : Act} {w : World} {k : Nat} {Φ : Nat → Value → World → Prop} {K : Act → World → Prop} (hK : ∀ v w', Φ k v w' → Below w.heap.size w w' → K (a.put o.dst v) w') {ρ : Operand → Value} (hρ : a.eval = ρ) (v : Value) (hr : (execOp ρ o).run P w = .ok (.value v) w) (hv : Φ k v w) : o.wp P a w K Q := by
  subst hρ
  unfold Oper.wp
  rw [hr, Oper.upon_value]
  exact hK v w hv (Below.refl _ _)
/-- A call of a Go function. -/
theorem fx_call {o : Oper} {a : Act} {w : World} {k : Nat} {Φ : Nat → Value → World → Prop} {K : Act → World → Prop} (hK : ∀ v w', Φ k v w' → Below w.heap.size w w' → K (a.put o.dst v) w') {ρ : Operand → Value} (hρ : a.eval = ρ) (f : FuncId) (xs : Array Operand) (tys : Array TypeId) (vs : Array Value)
    (ho : o.op = .call { callee := .value (.func f), args := xs, argTypes := tys }) (hxs : xs.map ρ = vs) (eg : ∀ args w, (callFunc f args).run P w = .ok (.enter f args) w)
    (h : Calls P f vs w fun e w' => ∃ v, e = .returned v ∧ Φ k v w' ∧ Below w.heap.size w w') : o.wp P a w K Q := by
  subst hρ
  have hr : (execOp a.eval o).run P w = .ok (.enter f vs) w := by
    have := eg vs w
    simp [execOp, ho, resolve, hxs, invoke, Deferred.ofValue, Act.eval, this, go_sem]
  unfold Oper.wp
  rw [hr, Oper.upon_enter]
  refine h.mono fun e w' ⟨v, he, hv, hb⟩ => ?_
  subst he
  exact hK v w' hv hb
end
end Go.Proofs.YtohgdeddepfanaaDoor
