/- A region that draws its order, by an invariant: what holds whichever operations have come up.
   A region that draws its order, whose operations read or make new blocks (one of them may let one row grow), and whose last operation waits for all: by facts on what each has yielded.
   A region that draws its order, whose operations read or make new blocks and whose callees leave what is there as it is, with '&&' and '||': by facts on what each operation yields, in the order of the text.
   A region that draws its order: n variables, each in a box of its own, are filled by n calls ('x, y := f(a), f(a)': n loads of one value, n calls, n new boxes, n stores).
   No statement is proved here. -/
import Derived.Orders
import Derived.WalkKit
import Derived.KernelRfl
import Derived.Below
import Derived.Laws.AppendOwn
import Derived.Test.YtpckmhmabmmllaaDoorChecked
import Derived.Test.YtpckmhmabmmllaaDoorZM1
namespace Go.Proofs.YtpckmhmabmmllaaDoor
open Go

section
variable {P : Program} {ops : Array Oper} {Q : Exit → Act → World → Prop}
def unlisted (l : Array Bool) : Nat := l.toList.countP (fun b => !b)
theorem countP_set : ∀ (xs : List Bool) (i : Nat), xs[i]? = some false → (xs.set i true).countP (fun b => !b) + 1 = xs.countP (fun b => !b)
  | [], i, h => by simp at h
  | x :: xs, 0, h => by
    obtain rfl : x = false := by simpa using h
    simp
  | x :: xs, i + 1, h => by
    have ih := countP_set xs i (by simpa using h)
    simp only [List.set_cons_succ, List.countP_cons]
    omega
theorem unlisted_set {l : Array Bool} {i : Nat} (h : l.getD i true = false) : unlisted (l.setIfInBounds i true) + 1 = unlisted l := by
  have hi : i < l.size := by
    rcases Nat.lt_or_ge i l.size with h1 | h1
    · exact h1
    · simp [Array.getElem?_eq_none h1] at h
  have h0 : l[i] = false := by simpa [hi] using h
  unfold unlisted
  rw [Array.toList_setIfInBounds]
  refine countP_set l.toList i ?_
  rw [Array.getElem?_toList, Array.getElem?_eq_getElem hi, h0]
theorem wpAny_inv (Inv : Array Bool → Act → World → Prop)
    (hstep : ∀ (listed : Array Bool) (a : Act) (w : World) (i : Nat), Inv listed a w → i ∈ Region.ready .any ops listed → wpOp P ops Q i (Inv (listed.setIfInBounds i true)) a w)
    (hend : ∀ (listed : Array Bool) (a : Act) (w : World), Inv listed a w → Region.ready .any ops listed = [] → Q .normal a w) :
    ∀ (fuel : Nat) (listed : Array Bool) (a : Act) (w : World), unlisted listed ≤ fuel → Inv listed a w → wpAny P .any ops Q fuel listed a w
  | 0, listed, a, w, hf, hI => by
    have hr : Region.ready .any ops listed = [] := by
      rw [List.eq_nil_iff_forall_not_mem]
      intro i hi
      have := unlisted_set (mem_ready.1 hi).1
      omega
    exact ⟨hr, hend _ _ _ hI hr⟩
  | fuel + 1, listed, a, w, hf, hI =>
    ⟨fun hr => hend _ _ _ hI hr, fun i hi => wpOp_mono (fun a' w' hI' => wpAny_inv Inv hstep hend fuel _ a' w' (by have := unlisted_set (mem_ready.1 hi).1; omega) hI') (hstep _ _ _ _ hI hi)⟩
theorem wp_region_inv {id : Nat} {a : Act} {w : World} (Inv : Array Bool → Act → World → Prop) (hm : P.follows .mixedOrders = true)
    (h0 : Inv (Array.replicate ops.size false) a { w with drawn := w.drawn + 1 })
    (hstep : ∀ (listed : Array Bool) (a : Act) (w : World) (i : Nat), Inv listed a w → i ∈ Region.ready .any ops listed → wpOp P ops Q i (Inv (listed.setIfInBounds i true)) a w)
    (hend : ∀ (listed : Array Bool) (a : Act) (w : World), Inv listed a w → Region.ready .any ops listed = [] → Q .normal a w) : (Code.region id ops true).wp P Q a w :=
  wp_region_any hm (wpAny_inv Inv hstep hend _ _ _ _ (by
    unfold unlisted
    refine Nat.le_trans List.countP_le_length ?_
    simp) h0)
/-- When none is left, all have come up (the edges lead back, from later operations to earlier ones). -/
theorem all_listed {listed : Array Bool} (hs : listed.size = ops.size) (hb : ∀ (i : Nat) (o : Oper), ops[i]? = some o → ∀ e ∈ o.after, e.on < i) (hr : Region.ready .any ops listed = []) : ∀ i, i < ops.size → listed.getD i false = true := by
  intro i
  induction i using Nat.strongRecOn with
  | _ i ih =>
    intro hi
    cases hl : listed.getD i false with
    | true => rfl
    | false =>
      have hi2 : i < listed.size := by omega
      have h1 : listed.getD i true = false := by
        simp [hi2] at hl ⊢
        exact hl
      have h2 : i ∈ Region.ready .any ops listed := mem_ready.2 ⟨h1, ops[i], Array.getElem?_eq_getElem hi, fun e he _ => by
        have h3 := hb i _ (Array.getElem?_eq_getElem hi) e he
        exact ih e.on h3 (by omega)⟩
      rw [hr] at h2
      simp at h2
def backB (ops : Array Oper) : Bool := (List.range ops.size).all fun i => match ops[i]? with
  | some o => o.after.all fun e => decide (e.on < i)
  | none => true
theorem back_of (h : backB ops = true) : ∀ (i : Nat) (o : Oper), ops[i]? = some o → ∀ e ∈ o.after, e.on < i := by
  intro i o ho e he
  have hi : i < ops.size := by
    rcases Nat.lt_or_ge i ops.size with h1 | h1
    · exact h1
    · rw [Array.getElem?_eq_none h1] at ho; cases ho
  have h1 := List.all_eq_true.1 h i (List.mem_range.2 hi)
  rw [ho] at h1
  exact of_decide_eq_true (Array.all_eq_true'.1 h1 e he)
theorem listed_set {listed : Array Bool} {i k : Nat} (h : (listed.setIfInBounds i true).getD k false = true) : k = i ∨ listed.getD k false = true := by
  by_cases hik : i = k
  · exact .inl hik.symm
  · right
    simp [Array.getElem?_setIfInBounds_ne hik] at h
    simpa using h
theorem wpOp_at {i : Nat} {o : Oper} {a : Act} {w : World} {K : Act → World → Prop} (ho : ops[i]? = some o) (hg : o.guard = none) (h : o.wp P a w K Q) : wpOp P ops Q i K a w := by
  unfold wpOp
  rw [ho]
  simp only [Region.wanted, hg, if_true]
  exact .inl h
theorem wp_append_run {o : Oper} {a : Act} {w w' : World} {K : Act → World → Prop} {s x : Operand} {t : TypeId} {vs vx v : Value} (hop : o.op = .call { callee := .builtin .append, args := #[s, x], argTypes := #[t, t] })
    (hs : a.eval s = vs) (hx : a.eval x = vx) (hr : (Builtin.append_ #[t, t] o.type #[vs, vx]).run P w = .ok v w') (hK : K (a.put o.dst v) w') : o.wp P a w K Q := by
  unfold Oper.wp
  simp [execOp, hop, resolve, invoke, builtin, hs, hx, hr, Result.andThen]
  exact hK
end
end Go.Proofs.YtpckmhmabmmllaaDoor
set_option linter.unusedVariables false
namespace Go.Proofs.YtpckmhmabmmllaaDoor
open Go Go.RowKit

section
variable {P : Program} {ops : Array Oper} {Q : Exit → Act → World → Prop}
/-- What operands read as, but for the slots ds: as at the region's door. -/
structure AtDoor (a0 : Act) (ds : List Nat) (ρ : Operand → Value) : Prop where
  const : ∀ v, ρ (.const v) = v
  tmp : ∀ t, t ∉ ds → ρ (.tmp t) = a0.eval (.tmp t)
theorem atDoor_start (a0 : Act) (ds : List Nat) : AtDoor a0 ds a0.eval := ⟨fun _ => rfl, fun _ _ => rfl⟩
theorem eval_put_same (a : Act) (d : Nat) (v : Value) (h : d < a.tmps.size) : (a.put (some d) v).eval (.tmp d) = v := by
  show (a.tmps.setIfInBounds d v).getD d undef = v
  simp [h]
theorem eval_put_other (a : Act) (d t : Nat) (v : Value) (h : t ≠ d) : (a.put (some d) v).eval (.tmp t) = a.eval (.tmp t) := by
  show (a.tmps.setIfInBounds d v).getD t undef = a.tmps.getD t undef
  simp [Array.getElem?_setIfInBounds_ne (Ne.symm h)]
theorem AtDoor.put {a0 a : Act} {ds : List Nat} (h : AtDoor a0 ds a.eval) {d : Nat} (hd : d ∈ ds) (v : Value) : AtDoor a0 ds (a.put (some d) v).eval :=
  ⟨fun _ => rfl, fun t ht => (eval_put_other a d t v (fun e => ht (e ▸ hd))).trans (h.tmp t ht)⟩
/-- What the region's text must be (all by the kernel). -/
def gatherB (ops : Array Oper) (n : Nat) (ds : List Nat) : Bool :=
  ops.size == n + 1 && ds.length == n && (ops.toList.all fun o : Oper => o.guard.isNone) && backB ops && decide ds.Nodup &&
  ((List.range n).all fun k => (match ops[k]? with | some o => o.dst == some (ds.getD k 0) | none => false)) &&
  (match ops[n]? with | some o => (List.range n).all fun k => o.after.any fun e => e.on == k && Region.binds .any e | none => false)
structure Gather (ops : Array Oper) (n : Nat) (ds : List Nat) : Prop where
  size : ops.size = n + 1
  len : ds.length = n
  guard : ∀ (k : Nat) (o : Oper), ops[k]? = some o → o.guard = none
  back : ∀ (i : Nat) (o : Oper), ops[i]? = some o → ∀ e ∈ o.after, e.on < i
  nodup : ds.Nodup
  dst : ∀ (k : Nat) (o : Oper), k < n → ops[k]? = some o → o.dst = some (ds.getD k 0)
  last : ∀ (o : Oper), ops[n]? = some o → ∀ k, k < n → ∃ e ∈ o.after, e.on = k ∧ Region.binds .any e = true
theorem gather_of {n : Nat} {ds : List Nat} (h : gatherB ops n ds = true) : Gather ops n ds := by
  unfold gatherB at h
  simp only [Bool.and_eq_true, beq_iff_eq, decide_eq_true_iff] at h
  obtain ⟨⟨⟨⟨⟨⟨h1, h2⟩, h3⟩, h4⟩, h5⟩, h6⟩, h7⟩ := h
  refine ⟨h1, h2, fun k o ho => ?_, back_of h4, h5, fun k o hk ho => ?_, fun o ho k hk => ?_⟩
  · have := List.all_eq_true.1 h3 o (by rw [Array.mem_toList_iff]; exact Array.mem_of_getElem? ho)
    exact Option.isNone_iff_eq_none.1 this
  · have := List.all_eq_true.1 h6 k (List.mem_range.2 hk)
    rw [ho] at this
    simpa using this
  · rw [ho] at h7
    have := List.all_eq_true.1 h7 k (List.mem_range.2 hk)
    obtain ⟨e, he, h8⟩ := Array.any_eq_true'.1 this
    rw [Bool.and_eq_true, beq_iff_eq] at h8
    exact ⟨e, he, h8.1, h8.2⟩
theorem ds_mem {n : Nat} {ds : List Nat} (h : Gather ops n ds) {k : Nat} (hk : k < n) : ds.getD k 0 ∈ ds := by
  have hl : k < ds.length := by rw [h.len]; exact hk
  rw [List.getD_eq_getElem?_getD, List.getElem?_eq_getElem hl]
  exact List.getElem_mem hl
theorem ds_inj {n : Nat} {ds : List Nat} (h : Gather ops n ds) {k j : Nat} (hk : k < n) (hj : j < n) (e : ds.getD k 0 = ds.getD j 0) : k = j := by
  have hl : k < ds.length := by rw [h.len]; exact hk
  have hl2 : j < ds.length := by rw [h.len]; exact hj
  rw [List.getD_eq_getElem?_getD, List.getElem?_eq_getElem hl, List.getD_eq_getElem?_getD, List.getElem?_eq_getElem hl2] at e
  exact (List.getElem_inj h.nodup).mp e
theorem getD_set_iff {l : Array Bool} {i k : Nat} (hi : i < l.size) : (l.setIfInBounds i true).getD k false = true ↔ k = i ∨ l.getD k false = true := by
  constructor
  · exact listed_set
  · rintro (rfl | h)
    · simp [hi]
    · by_cases hik : i = k
      · subst hik; simp [hi]
      · simpa [Array.getElem?_setIfInBounds_ne hik] using h
set_option maxHeartbeats 1000000 in
theorem wp_region_gather (n m : Nat) (ds : List Nat) {id : Nat} {a0 : Act} {w0 : World} (hm : P.follows .mixedOrders = true) (hG : gatherB ops n ds = true) (hsz : ∀ d ∈ ds, d < a0.tmps.size)
    (I J : World → Prop) (R : World → World → Prop) (Φ : Nat → Value → World → Prop)
    (hBR : ∀ w w', Below w.heap.size w w' → R w w') (hI : ∀ w w', I w → R w w' → I w') (hJ : ∀ w w', J w → Below w.heap.size w w' → J w')
    (hΦ : ∀ k v w w', k ≠ m → Φ k v w → R w w' → Φ k v w') (hΦm : ∀ v w w', Φ m v w → Below w.heap.size w w' → Φ m v w')
    (h0 : I { w0 with drawn := w0.drawn + 1 }) (h1 : J { w0 with drawn := w0.drawn + 1 })
    (hstep : ∀ (k : Nat) (o : Oper), k < n → ops[k]? = some o → ∀ (ρ : Operand → Value) (w : World), I w → AtDoor a0 ds ρ → (∀ e ∈ o.after, Region.binds .any e = true → Φ e.on (ρ (.tmp (ds.getD e.on 0))) w) → (k = m → J w) →
      ∃ v w', (execOp ρ o).run P w = .ok (.value v) w' ∧ Φ k v w' ∧ (if k = m then R w w' else Below w.heap.size w w'))
    (hlast : ∀ (o : Oper), ops[n]? = some o → ∀ (a : Act) (w : World), I w → AtDoor a0 ds a.eval → a.tmps.size = a0.tmps.size → a.defers = a0.defers → (∀ k, k < n → Φ k (a.eval (.tmp (ds.getD k 0))) w) →
      o.wp P a w (fun a' w' => Q .normal a' w') Q) :
    (Code.region id ops true).wp P Q a0 w0 := by
  have G := gather_of hG
  refine wp_region_inv (fun l a w => l.size = n + 1 ∧ ((l.getD n false = false ∧ I w ∧ AtDoor a0 ds a.eval ∧ a.tmps.size = a0.tmps.size ∧ a.defers = a0.defers ∧ (∀ k, k < n → l.getD k false = true → Φ k (a.eval (.tmp (ds.getD k 0))) w) ∧ (l.getD m false = false → J w)) ∨ ((∀ k, k ≤ n → l.getD k false = true) ∧ Q .normal a w))) hm ?_ ?_ ?_
  · refine ⟨by rw [Array.size_replicate]; exact G.size, .inl ⟨?_, h0, atDoor_start a0 ds, rfl, rfl, fun k hk h => ?_, fun _ => h1⟩⟩
    · by_cases h : n < ops.size <;> simp [h]
    · exfalso
      by_cases h2 : k < ops.size <;> simp [h2] at h
  · rintro l a w i ⟨hls, hV⟩ hi
    obtain ⟨hun, o, ho, hpre⟩ := mem_ready.1 hi
    have hilt : i < ops.size := (Array.getElem?_eq_some_iff.1 ho).1
    have hil : i < l.size := by rw [hls, ← G.size]; exact hilt
    rcases hV with ⟨hnl, hIw, hAD, hasz, hadf, hF, hJw⟩ | ⟨hall, _⟩
    · rcases Nat.lt_or_ge i n with hin | hin
      · obtain ⟨v, w', hrun, hphi, hrel⟩ := hstep i o hin ho a.eval w hIw hAD (fun e he hb => hF e.on (Nat.lt_trans (G.back i o ho e he) hin) (hpre e he hb)) (fun e => hJw (by
          rw [← e]
          cases h : l.getD i false with
          | false => rfl
          | true => simp [hil] at h hun; rw [h] at hun; cases hun))
        have hR : R w w' := by
          split at hrel
          · exact hrel
          · exact hBR w w' hrel
        refine wpOp_at ho (G.guard i o ho) ?_
        unfold Oper.wp
        rw [hrun, Oper.upon_value, G.dst i o hin ho]
        refine ⟨by rw [Array.size_setIfInBounds]; exact hls, .inl ⟨?_, hI w w' hIw hR, hAD.put (ds_mem G hin) v, ?_, hadf, fun k hk hkl => ?_, fun hml => ?_⟩⟩
        · cases h : (l.setIfInBounds i true).getD n false with
          | false => rfl
          | true =>
            rcases listed_set h with h2 | h2
            · omega
            · rw [hnl] at h2; cases h2
        · show (a.tmps.setIfInBounds _ _).size = _
          rw [Array.size_setIfInBounds]; exact hasz
        · by_cases hki : k = i
          · subst hki
            rw [eval_put_same _ _ _ (by rw [hasz]; exact hsz _ (ds_mem G hin))]
            exact hphi
          · rw [eval_put_other _ _ _ _ (fun e => hki (ds_inj G hk hin e))]
            have hf := hF k hk ((listed_set hkl).resolve_left hki)
            by_cases hkm : k = m
            · subst hkm
              rw [if_neg (fun e => hki e.symm)] at hrel
              exact hΦm _ _ _ hf hrel
            · exact hΦ k _ _ _ hkm hf hR
        · have hmi : i ≠ m := fun e => by
            subst e
            have h2 := (getD_set_iff (k := i) hil).mpr (.inl rfl)
            rw [hml] at h2; cases h2
          rw [if_neg hmi] at hrel
          refine hJ w w' (hJw ?_) hrel
          cases h : l.getD m false with
          | false => rfl
          | true =>
            have h2 := (getD_set_iff (k := m) hil).mpr (.inr h)
            rw [hml] at h2; cases h2
      · obtain rfl : i = n := by have := G.size; omega
        have hall : ∀ k, k < i → l.getD k false = true := fun k hk => by
          obtain ⟨e, he, h1, h2⟩ := G.last o ho k hk
          rw [← h1]
          exact hpre e he h2
        refine wpOp_at ho (G.guard i o ho) (Oper.wp_mono (fun a' w' hq => ?_) (hlast o ho a w hIw hAD hasz hadf (fun k hk => hF k hk (hall k hk))))
        refine ⟨by rw [Array.size_setIfInBounds]; exact hls, .inr ⟨fun k hk => (getD_set_iff hil).mpr ?_, hq⟩⟩
        rcases Nat.lt_or_ge k i with h | h
        · exact .inr (hall k h)
        · exact .inl (by omega)
    · exfalso
      have := hall i (by have := G.size; omega)
      simp [hil] at this hun
      rw [this] at hun
      cases hun
  · rintro l a w ⟨hls, hV⟩ hr
    have hall := all_listed (by rw [hls, G.size]) G.back hr
    rcases hV with ⟨hnl, _⟩ | ⟨_, hq⟩
    · have := hall n (by rw [G.size]; omega)
      rw [hnl] at this
      cases this
    · exact hq
/-- The frame behind: the slots ds hold what was yielded, the others what they held at the door. -/
def fillL (ds : List Nat) (vals : Nat → Value) : Nat → List Value → List Value
  | _, [] => []
  | t, x :: l => (bif ds.contains t then vals t else x) :: fillL ds vals (t + 1) l
theorem fillL_at (ds : List Nat) (vals : Nat → Value) : ∀ (l : List Value) (t i : Nat), (fillL ds vals t l)[i]? = l[i]?.map fun x => bif ds.contains (t + i) then vals (t + i) else x
  | [], t, i => by simp [fillL]
  | x :: l, t, 0 => by simp [fillL]
  | x :: l, t, i + 1 => by
    have := fillL_at ds vals l (t + 1) i
    rw [show t + 1 + i = t + (i + 1) by omega] at this
    simpa [fillL] using this
def fillA (a0 : Act) (ds : List Nat) (vals : Nat → Value) : List Value := fillL ds vals 0 a0.tmps.toList
theorem act_fill {a0 a : Act} {ds : List Nat} (h : AtDoor a0 ds a.eval) (hs : a.tmps.size = a0.tmps.size) (hd : a.defers = a0.defers) : a = ⟨(fillA a0 ds fun t => a.eval (.tmp t)).toArray, a0.defers⟩ := by
  obtain ⟨tmps, defers⟩ := a
  obtain rfl : defers = a0.defers := hd
  congr 1
  apply Array.toList_inj.mp
  apply List.ext_getElem?
  intro t
  unfold fillA
  rw [fillL_at, Nat.zero_add]
  rcases Nat.lt_or_ge t tmps.size with ht | ht
  · have ht0 : t < a0.tmps.toList.length := by simpa [← hs] using ht
    have e1 : (Act.mk tmps a0.defers).eval (.tmp t) = tmps[t] := by
      show tmps.getD t undef = _
      simp [ht]
    rw [List.getElem?_eq_getElem ht0, List.getElem?_eq_getElem (by simpa using ht)]
    simp only [Option.map_some, Array.getElem_toList, Option.some.injEq]
    cases hc : ds.contains t with
    | true => exact e1.symm
    | false =>
      have := h.tmp t (fun q => by rw [List.contains_iff_mem.mpr q] at hc; cases hc)
      rw [e1] at this
      rw [this]
      show a0.tmps.getD t undef = _
      have ht1 : t < a0.tmps.size := by simpa using ht0
      simp [ht1]
  · rw [List.getElem?_eq_none (by simpa using ht), List.getElem?_eq_none (by simpa [← hs] using ht)]
    rfl
theorem wp_region_gather' (n m : Nat) (ds : List Nat) {id : Nat} {a0 : Act} {w0 : World} (hm : P.follows .mixedOrders = true) (hG : gatherB ops n ds = true) (hsz : ∀ d ∈ ds, d < a0.tmps.size)
    (I J : World → Prop) (R : World → World → Prop) (Φ : Nat → Value → World → Prop)
    (hBR : ∀ w w', Below w.heap.size w w' → R w w') (hI : ∀ w w', I w → R w w' → I w') (hJ : ∀ w w', J w → Below w.heap.size w w' → J w')
    (hΦ : ∀ k v w w', k ≠ m → Φ k v w → R w w' → Φ k v w') (hΦm : ∀ v w w', Φ m v w → Below w.heap.size w w' → Φ m v w')
    (h0 : I { w0 with drawn := w0.drawn + 1 }) (h1 : J { w0 with drawn := w0.drawn + 1 })
    (hstep : ∀ (k : Nat) (o : Oper), k < n → ops[k]? = some o → ∀ (ρ : Operand → Value) (w : World), I w → AtDoor a0 ds ρ → (∀ e ∈ o.after, Region.binds .any e = true → Φ e.on (ρ (.tmp (ds.getD e.on 0))) w) → (k = m → J w) →
      ∃ v w', (execOp ρ o).run P w = .ok (.value v) w' ∧ Φ k v w' ∧ (if k = m then R w w' else Below w.heap.size w w'))
    (hlast : ∀ (o : Oper), ops[n]? = some o → ∀ (vals : Nat → Value) (w : World), I w → (∀ k, k < n → Φ k (vals (ds.getD k 0)) w) →
      o.wp P ⟨(fillA a0 ds vals).toArray, a0.defers⟩ w (fun a' w' => Q .normal a' w') Q) :
    (Code.region id ops true).wp P Q a0 w0 :=
  wp_region_gather n m ds hm hG hsz I J R Φ hBR hI hJ hΦ hΦm h0 h1 hstep (fun o ho a w hIw hA hs hd hF => by
    have := hlast o ho (fun t => a.eval (.tmp t)) w hIw hF
    rwa [← act_fill hA hs hd] at this)
end
end Go.Proofs.YtpckmhmabmmllaaDoor
set_option linter.unusedVariables false
namespace Go.Proofs.YtpckmhmabmmllaaDoor
open Go Go.RowKit

section
variable {P : Program} {ops : Array Oper} {Q : Exit → Act → World → Prop}
/-- What the region's text must be (all by the kernel): ds are the operations' slots, wt says which are wanted. -/
def factsB (ops : Array Oper) (ds : List Nat) (wt : List Bool) : Bool :=
  ops.size == ds.length && backB ops && decide ds.Nodup &&
  ((List.range ds.length).all fun k => (match ops[k]? with | some o => o.dst == some (ds.getD k 0) | none => false)) &&
  ((List.range ds.length).all fun k => (match ops[k]? with
    | some o => (match o.guard with | some g => decide (g.1 < k) && o.after.any (fun e => e.on == g.1 && Region.binds .any e) | none => wt.getD k true)
    | none => false))
structure Facts (ops : Array Oper) (ds : List Nat) (wt : List Bool) : Prop where
  size : ops.size = ds.length
  back : ∀ (i : Nat) (o : Oper), ops[i]? = some o → ∀ e ∈ o.after, e.on < i
  nodup : ds.Nodup
  dst : ∀ (k : Nat) (o : Oper), ops[k]? = some o → o.dst = some (ds.getD k 0)
  guard : ∀ (k : Nat) (o : Oper) (g : Nat) (b : Bool), ops[k]? = some o → o.guard = some (g, b) → g < k ∧ ∃ e ∈ o.after, e.on = g ∧ Region.binds .any e = true
  free : ∀ (k : Nat) (o : Oper), ops[k]? = some o → o.guard = none → wt.getD k true = true
theorem facts_of {ds : List Nat} {wt : List Bool} (h : factsB ops ds wt = true) : Facts ops ds wt := by
  unfold factsB at h
  simp only [Bool.and_eq_true, beq_iff_eq, decide_eq_true_iff] at h
  obtain ⟨⟨⟨⟨h1, h2⟩, h3⟩, h4⟩, h5⟩ := h
  have hk : ∀ (k : Nat) (o : Oper), ops[k]? = some o → k < ds.length := fun k o ho => h1 ▸ (Array.getElem?_eq_some_iff.1 ho).1
  refine ⟨h1, back_of h2, h3, fun k o ho => ?_, fun k o g b ho hg => ?_, fun k o ho hg => ?_⟩
  · have := List.all_eq_true.1 h4 k (List.mem_range.2 (hk k o ho))
    rw [ho] at this
    simpa using this
  · have := List.all_eq_true.1 h5 k (List.mem_range.2 (hk k o ho))
    rw [ho] at this
    simp only [hg, Bool.and_eq_true, decide_eq_true_iff] at this
    obtain ⟨e, he, h8⟩ := Array.any_eq_true'.1 this.2
    rw [Bool.and_eq_true, beq_iff_eq] at h8
    exact ⟨this.1, e, he, h8.1, h8.2⟩
  · have := List.all_eq_true.1 h5 k (List.mem_range.2 (hk k o ho))
    rw [ho] at this
    simpa only [hg] using this
theorem fds_mem {ds : List Nat} {k : Nat} (hk : k < ds.length) : ds.getD k 0 ∈ ds := by
  rw [List.getD_eq_getElem?_getD, List.getElem?_eq_getElem hk]
  exact List.getElem_mem hk
theorem fds_inj {ds : List Nat} (h : ds.Nodup) {k j : Nat} (hk : k < ds.length) (hj : j < ds.length) (e : ds.getD k 0 = ds.getD j 0) : k = j := by
  rw [List.getD_eq_getElem?_getD, List.getElem?_eq_getElem hk, List.getD_eq_getElem?_getD, List.getElem?_eq_getElem hj] at e
  exact (List.getElem_inj h).mp e
set_option maxHeartbeats 1000000 in
theorem wp_region_facts (ds : List Nat) (wt : List Bool) {id : Nat} {a0 : Act} {w0 : World} (hm : P.follows .mixedOrders = true) (hG : factsB ops ds wt = true) (hsz : ∀ d ∈ ds, d < a0.tmps.size)
    (I : World → Prop) (Φ : Nat → Value → World → Prop)
    (hI : ∀ w w', I w → Below w.heap.size w w' → I w') (hΦ : ∀ k v w w', Φ k v w → Below w.heap.size w w' → Φ k v w')
    (h0 : I { w0 with drawn := w0.drawn + 1 })
    (hW : ∀ (k : Nat) (o : Oper) (g : Nat) (b : Bool), ops[k]? = some o → o.guard = some (g, b) → ∀ v w, Φ g v w → v = .bool (if wt.getD k true = true then b else !b))
    (hskip : ∀ k, wt.getD k true = false → ∀ w, Φ k undef w)
    (hstep : ∀ (k : Nat) (o : Oper), ops[k]? = some o → wt.getD k true = true → ∀ (a : Act) (w : World), I w → AtDoor a0 ds a.eval → (∀ e ∈ o.after, Region.binds .any e = true → Φ e.on (a.eval (.tmp (ds.getD e.on 0))) w) →
      ∀ K : Act → World → Prop, (∀ v w', Φ k v w' → Below w.heap.size w w' → K (a.put o.dst v) w') → o.wp P a w K Q)
    (hend : ∀ (vals : Nat → Value) (w : World), I w → (∀ k, k < ds.length → Φ k (vals (ds.getD k 0)) w) → Q .normal ⟨(fillA a0 ds vals).toArray, a0.defers⟩ w) :
    (Code.region id ops true).wp P Q a0 w0 := by
  have G := facts_of hG
  refine wp_region_inv (fun l a w => l.size = ds.length ∧ I w ∧ AtDoor a0 ds a.eval ∧ a.tmps.size = a0.tmps.size ∧ a.defers = a0.defers ∧ (∀ k, k < ds.length → l.getD k false = true → Φ k (a.eval (.tmp (ds.getD k 0))) w)) hm ?_ ?_ ?_
  · refine ⟨by rw [Array.size_replicate]; exact G.size, h0, atDoor_start a0 ds, rfl, rfl, fun k hk h => ?_⟩
    exfalso
    by_cases h2 : k < ops.size <;> simp [h2] at h
  · rintro l a w i ⟨hls, hIw, hAD, hasz, hadf, hF⟩ hi
    obtain ⟨hun, o, ho, hpre⟩ := mem_ready.1 hi
    have hilt : i < ops.size := (Array.getElem?_eq_some_iff.1 ho).1
    have hin : i < ds.length := by rw [← G.size]; exact hilt
    have hil : i < l.size := by omega
    have hdep : ∀ e ∈ o.after, Region.binds .any e = true → Φ e.on (a.eval (.tmp (ds.getD e.on 0))) w := fun e he hb => hF e.on (Nat.lt_trans (G.back i o ho e he) hin) (hpre e he hb)
    have hnext : ∀ v w', Φ i v w' → Below w.heap.size w w' → (l.setIfInBounds i true).size = ds.length ∧ I w' ∧ AtDoor a0 ds (a.put o.dst v).eval ∧ (a.put o.dst v).tmps.size = a0.tmps.size ∧ (a.put o.dst v).defers = a0.defers ∧ (∀ k, k < ds.length → (l.setIfInBounds i true).getD k false = true → Φ k ((a.put o.dst v).eval (.tmp (ds.getD k 0))) w') := fun v w' hphi hb => by
      rw [G.dst i o ho]
      refine ⟨by rw [Array.size_setIfInBounds]; exact hls, hI w w' hIw hb, hAD.put (fds_mem hin) v, ?_, hadf, fun k hk hkl => ?_⟩
      · show (a.tmps.setIfInBounds _ _).size = _
        rw [Array.size_setIfInBounds]; exact hasz
      · by_cases hki : k = i
        · subst hki
          rw [eval_put_same _ _ _ (by rw [hasz]; exact hsz _ (fds_mem hin))]
          exact hphi
        · rw [eval_put_other _ _ _ _ (fun e => hki (fds_inj G.nodup hk hin e))]
          exact hΦ k _ _ _ (hF k hk ((listed_set hkl).resolve_left hki)) hb
    unfold wpOp
    rw [ho]
    have hyield : ∀ g b, o.guard = some (g, b) → yielded ops a.tmps g = some (if wt.getD i true = true then b else !b) := fun g b hg => by
      obtain ⟨hgi, e, he, h1, h2⟩ := G.guard i o g b ho hg
      have hv := hW i o g b ho hg _ _ (by have := hdep e he h2; rwa [h1] at this)
      obtain ⟨og, hog⟩ : ∃ og, ops[g]? = some og := ⟨_, Array.getElem?_eq_getElem (by omega)⟩
      unfold yielded
      rw [hog, Option.bind_some, G.dst g og hog, Option.bind_some]
      have hlt : ds.getD g 0 < a.tmps.size := by rw [hasz]; exact hsz _ (fds_mem (by omega))
      rw [Array.getElem?_eq_getElem hlt]
      have : a.tmps[ds.getD g 0] = .bool (if wt.getD i true = true then b else !b) := by
        rw [← hv]
        show _ = a.tmps.getD (ds.getD g 0) undef
        rw [Array.getD_eq_getD_getElem?, Array.getElem?_eq_getElem hlt]
        rfl
      rw [this]
    cases hw : wt.getD i true with
    | true =>
      have hwant : Region.wanted o (yielded ops a.tmps) = true := by
        unfold Region.wanted
        cases hg : o.guard with
        | none => rfl
        | some gb =>
          obtain ⟨g, b⟩ := gb
          show (yielded ops a.tmps g == some b) = true
          rw [hyield g b hg, hw]
          simp
      simp only [hwant, if_true]
      exact .inl (hstep i o ho hw a w hIw hAD hdep _ hnext)
    | false =>
      have hwant : Region.wanted o (yielded ops a.tmps) = false := by
        unfold Region.wanted
        cases hg : o.guard with
        | none =>
          have := G.free i o ho hg
          rw [hw] at this
          cases this
        | some gb =>
          obtain ⟨g, b⟩ := gb
          show (yielded ops a.tmps g == some b) = false
          rw [hyield g b hg, hw]
          cases b <;> rfl
      simp only [hwant]
      exact hnext undef w (hskip i hw w) (Below.refl _ _)
  · rintro l a w ⟨hls, hIw, hAD, hasz, hadf, hF⟩ hr
    have hall := all_listed (by rw [hls, G.size]) G.back hr
    rw [act_fill hAD hasz hadf]
    exact hend (fun t => a.eval (.tmp t)) w hIw fun k hk => hF k hk (hall k (by rw [G.size]; exact hk))
/-- What the guards read, by the kernel: gv lists which operation yields which truth. -/
def guardsB (ops : Array Oper) (wt : List Bool) (gv : List (Nat × Bool)) : Bool :=
  (List.range ops.size).all fun k => (match ops[k]? with
    | some o => (match o.guard with | some (g, b) => gv.any (fun p => p.1 == g && p.2 == (if wt.getD k true = true then b else !b)) | none => true)
    | none => true)
theorem wp_region_facts' (ds : List Nat) (wt : List Bool) (gv : List (Nat × Bool)) {id : Nat} {a0 : Act} {w0 : World} (hm : P.follows .mixedOrders = true) (hG : factsB ops ds wt = true) (hgB : guardsB ops wt gv = true) (hsz : ∀ d ∈ ds, d < a0.tmps.size)
    (I : World → Prop) (Φ : Nat → Value → World → Prop)
    (hI : ∀ w w', I w → Below w.heap.size w w' → I w') (hΦ : ∀ k v w w', Φ k v w → Below w.heap.size w w' → Φ k v w')
    (h0 : I { w0 with drawn := w0.drawn + 1 })
    (hgv : ∀ p ∈ gv, ∀ v w, Φ p.1 v w → v = .bool p.2)
    (hskip : ∀ k, wt.getD k true = false → ∀ w, Φ k undef w)
    (hstep : ∀ (k : Nat) (o : Oper), ops[k]? = some o → wt.getD k true = true → ∀ (a : Act) (w : World), I w → AtDoor a0 ds a.eval → (∀ e ∈ o.after, Region.binds .any e = true → Φ e.on (a.eval (.tmp (ds.getD e.on 0))) w) →
      ∀ K : Act → World → Prop, (∀ v w', Φ k v w' → Below w.heap.size w w' → K (a.put o.dst v) w') → o.wp P a w K Q)
    (hend : ∀ (vals : Nat → Value) (w : World), I w → (∀ k, k < ds.length → Φ k (vals (ds.getD k 0)) w) → Q .normal ⟨(fillA a0 ds vals).toArray, a0.defers⟩ w) :
    (Code.region id ops true).wp P Q a0 w0 :=
  wp_region_facts ds wt hm hG hsz I Φ hI hΦ h0 (fun k o g b ho hg v w hv => by
    have hk : k < ops.size := (Array.getElem?_eq_some_iff.1 ho).1
    have := List.all_eq_true.1 hgB k (List.mem_range.2 hk)
    rw [ho] at this
    simp only [hg] at this
    obtain ⟨p, hp, h2⟩ := List.any_eq_true.1 this
    rw [Bool.and_eq_true, beq_iff_eq, beq_iff_eq] at h2
    rw [← h2.2]
    exact hgv p hp v w (by rw [h2.1]; exact hv)) hskip hstep hend
/-- An operation that yields at once. -/
theorem fx_val {o : Oper} {a : Act} {w : World} {k : Nat} {Φ : Nat → Value → World → Prop} {K : Act → World → Prop} (hK : ∀ v w', Φ k v w' → Below w.heap.size w w' → K (a.put o.dst v) w') {ρ : Operand → Value} (hρ : a.eval = ρ) (v : Value) (hr : (execOp ρ o).run P w = .ok (.value v) w) (hv : Φ k v w) : o.wp P a w K Q := by
  subst hρ
  unfold Oper.wp
  rw [hr, Oper.upon_value]
  exact hK v w hv (Below.refl _ _)
/-- A call of a Go function. -/
theorem fx_call {o : Oper} {a : Act} {w : World} {k : Nat} {Φ : Nat → Value → World → Prop} {K : Act → World → Prop} (hK : ∀ v w', Φ k v w' → Below w.heap.size w w' → K (a.put o.dst v) w') {ρ : Operand → Value} (hρ : a.eval = ρ) (f : FuncId) (xs : Array Operand) (tys : Array TypeId) (vs : Array Value)
    (ho : o.op = .call { callee := .value (.func f), args := xs, argTypes := tys }) (hxs : xs.map ρ = vs) (eg : ∀ args w, (callFunc f args).run P w = .ok (.enter f args) w)
    (h : Calls P f vs w fun e w' => ∃ v, e = .returned v ∧ Φ k v w' ∧ Below w.heap.size w w') : o.wp P a w K Q := by
  subst hρ
  have hr : (execOp a.eval o).run P w = .ok (.enter f vs) w := by
    have := eg vs w
    simp [execOp, ho, resolve, hxs, invoke, Deferred.ofValue, Act.eval, this, go_sem]
  unfold Oper.wp
  rw [hr, Oper.upon_enter]
  refine h.mono fun e w' ⟨v, he, hv, hb⟩ => ?_
  subst he
  exact hK v w' hv hb
end
end Go.Proofs.YtpckmhmabmmllaaDoor
set_option linter.unusedVariables false
namespace Go.Proofs.YtpckmhmabmmllaaDoor
open Go Go.RowKit

/-- As it was, but for what lies in boxes of type D from block base on. -/
structure RX (base : Nat) (D : TypeId) (w w' : World) : Prop where
  os : w'.os = w.os
  tape : w'.tape = w.tape
  output : w'.output = w.output
  size : w.heap.size ≤ w'.heap.size
  block : ∀ k o, w.heap[k]? = some o → w'.heap[k]? = some o ∨ (base ≤ k ∧ ∃ cs, o = .cells cs D (0, 0))
theorem RX.of_below {base : Nat} {D : TypeId} {w w' : World} (h : Below w.heap.size w w') : RX base D w w' :=
  ⟨h.os, h.tape, h.output, h.size, fun k o hk => .inl (by rw [h.block k (Array.getElem?_eq_some_iff.1 hk).1]; exact hk)⟩
theorem RX.below {base : Nat} {D : TypeId} {w w' : World} (h : RX base D w w') (hb : base ≤ w.heap.size) : Below base w w' :=
  ⟨h.os, h.tape, h.output, h.size, fun k hk => by
    obtain ⟨o, ho⟩ : ∃ o, w.heap[k]? = some o := ⟨_, Array.getElem?_eq_getElem (by omega)⟩
    rcases h.block k o ho with h1 | ⟨h1, _⟩
    · rw [h1, ho]
    · omega⟩
/-- A store of a whole value into a box. -/
structure Filled (D : TypeId) (g : Nat) (cs : Array Value) (w w' : World) : Prop where
  os : w'.os = w.os
  tape : w'.tape = w.tape
  output : w'.output = w.output
  size : w'.heap.size = w.heap.size
  at_ : w'.heap[g]? = some (.cells cs D (0, 0))
  other : ∀ k, k ≠ g → w'.heap[k]? = w.heap[k]?
theorem Filled.rb {base : Nat} {D : TypeId} {g : Nat} {cs cs0 : Array Value} {w w' : World} (h : Filled D g cs w w') (hg : base ≤ g) (h0 : w.heap[g]? = some (.cells cs0 D (0, 0))) : RX base D w w' :=
  ⟨h.os, h.tape, h.output, by rw [h.size]; exact Nat.le_refl _, fun k o hk => by
    by_cases e : k = g
    · subst e
      rw [h0] at hk
      injection hk with hk
      exact .inr ⟨hg, cs0, hk.symm⟩
    · exact .inl (by rw [h.other k e]; exact hk)⟩
section
variable {P : Program} {ops : Array Oper} {Q : Exit → Act → World → Prop}
/-- The text of such a region, by the kernel: the loads' slots ld, the calls' ow, the boxes' al. -/
def boxesB (ops : Array Oper) (n : Nat) (ld ow al : List Nat) (D : TypeId) : Bool :=
  ops.size == 4 * n && ld.length == n && ow.length == n && al.length == n && backB ops && decide (ld ++ ow ++ al).Nodup && (ops.toList.all fun o : Oper => o.guard.isNone) &&
  ((List.range n).all fun j =>
    (match ops[2 * j]? with | some o => o.dst == some (ld.getD j 0) | none => false) &&
    (match ops[2 * j + 1]? with | some o => o.dst == some (ow.getD j 0) && o.after.any (fun e => e.on == 2 * j && Region.binds .any e) | none => false) &&
    (match ops[2 * n + j]? with | some o => o.dst == some (al.getD j 0) && (match o.op with | .alloc t => t == D | _ => false) | none => false) &&
    (match ops[3 * n + j]? with | some o => o.dst == none && (match o.op with | .store t (.tmp x) (.tmp y) => t == D && x == al.getD j 0 && y == ow.getD j 0 | _ => false) && o.after.any (fun e => e.on == 2 * j + 1 && Region.binds .any e) && o.after.any (fun e => e.on == 2 * n + j && Region.binds .any e) | none => false))
structure BoxesT (ops : Array Oper) (n : Nat) (ld ow al : List Nat) (D : TypeId) : Prop where
  size : ops.size = 4 * n
  lld : ld.length = n
  low : ow.length = n
  lal : al.length = n
  back : ∀ (i : Nat) (o : Oper), ops[i]? = some o → ∀ e ∈ o.after, e.on < i
  nodup : (ld ++ ow ++ al).Nodup
  guard : ∀ (k : Nat) (o : Oper), ops[k]? = some o → o.guard = none
  load : ∀ j o, j < n → ops[2 * j]? = some o → o.dst = some (ld.getD j 0)
  call : ∀ j o, j < n → ops[2 * j + 1]? = some o → o.dst = some (ow.getD j 0) ∧ ∃ e ∈ o.after, e.on = 2 * j ∧ Region.binds .any e = true
  alloc : ∀ j o, j < n → ops[2 * n + j]? = some o → o.dst = some (al.getD j 0) ∧ o.op = .alloc D
  store : ∀ j o, j < n → ops[3 * n + j]? = some o → o.dst = none ∧ o.op = .store D (.tmp (al.getD j 0)) (.tmp (ow.getD j 0)) ∧ (∃ e ∈ o.after, e.on = 2 * j + 1 ∧ Region.binds .any e = true) ∧ ∃ e ∈ o.after, e.on = 2 * n + j ∧ Region.binds .any e = true
theorem any_edge {o : Oper} {k : Nat} (h : (o.after.any fun e => e.on == k && Region.binds .any e) = true) : ∃ e ∈ o.after, e.on = k ∧ Region.binds .any e = true := by
  obtain ⟨e, he, h8⟩ := Array.any_eq_true'.1 h
  rw [Bool.and_eq_true, beq_iff_eq] at h8
  exact ⟨e, he, h8.1, h8.2⟩
theorem boxes_of {n : Nat} {ld ow al : List Nat} {D : TypeId} (h : boxesB ops n ld ow al D = true) : BoxesT ops n ld ow al D := by
  unfold boxesB at h
  simp only [Bool.and_eq_true, beq_iff_eq, decide_eq_true_iff] at h
  obtain ⟨⟨⟨⟨⟨⟨⟨h1, h2⟩, h3⟩, h4⟩, h5⟩, h6⟩, h7⟩, h8⟩ := h
  have hj := fun j (hj : j < n) => List.all_eq_true.1 h8 j (List.mem_range.2 hj)
  simp only [Bool.and_eq_true] at hj
  refine ⟨h1, h2, h3, h4, back_of h5, h6, fun k o ho => ?_, fun j o hjn ho => ?_, fun j o hjn ho => ?_, fun j o hjn ho => ?_, fun j o hjn ho => ?_⟩
  · have := List.all_eq_true.1 h7 o (by rw [Array.mem_toList_iff]; exact Array.mem_of_getElem? ho)
    exact Option.isNone_iff_eq_none.1 this
  · have := (hj j hjn).1.1.1
    rw [ho] at this
    simpa using this
  · have := (hj j hjn).1.1.2
    rw [ho] at this
    simp only [Bool.and_eq_true, beq_iff_eq] at this
    exact ⟨this.1, any_edge this.2⟩
  · have := (hj j hjn).1.2
    rw [ho] at this
    simp only [Bool.and_eq_true, beq_iff_eq] at this
    refine ⟨this.1, ?_⟩
    have h9 := this.2
    split at h9
    · rename_i t e
      rw [e, beq_iff_eq.mp h9]
    · cases h9
  · have := (hj j hjn).2
    rw [ho] at this
    simp only [Bool.and_eq_true, beq_iff_eq] at this
    refine ⟨this.1.1.1, ?_, any_edge this.1.2, any_edge this.2⟩
    have h9 := this.1.1.2
    split at h9
    · rename_i t x y e
      simp only [Bool.and_eq_true, beq_iff_eq] at h9
      rw [e, h9.1.1, h9.1.2, h9.2]
    · cases h9
theorem nodup3 {ld ow al : List Nat} (h : (ld ++ ow ++ al).Nodup) {n : Nat} (h1 : ld.length = n) (h2 : ow.length = n) (h3 : al.length = n) :
    (∀ j k, j < n → k < n → ld.getD j 0 = ld.getD k 0 → j = k) ∧ (∀ j k, j < n → k < n → ow.getD j 0 = ow.getD k 0 → j = k) ∧ (∀ j k, j < n → k < n → al.getD j 0 = al.getD k 0 → j = k) ∧
    (∀ j k, j < n → k < n → ld.getD j 0 ≠ ow.getD k 0) ∧ (∀ j k, j < n → k < n → ld.getD j 0 ≠ al.getD k 0) ∧ (∀ j k, j < n → k < n → ow.getD j 0 ≠ al.getD k 0) := by
  rw [List.nodup_append, List.nodup_append] at h
  obtain ⟨⟨a, b, c⟩, d, e⟩ := h
  subst h1
  refine ⟨fun j k hj hk => fds_inj a hj hk, fun j k hj hk => fds_inj b (by omega) (by omega), fun j k hj hk => fds_inj d (by omega) (by omega), fun j k hj hk => c _ (fds_mem hj) _ (fds_mem (by omega)), fun j k hj hk => e _ (List.mem_append_left _ (fds_mem hj)) _ (fds_mem (by omega)), fun j k hj hk => e _ (List.mem_append_right _ (fds_mem (by omega))) _ (fds_mem (by omega))⟩
/-- What holds whichever operations have come up. -/
structure BInv (n : Nat) (ld ow al : List Nat) (D : TypeId) (c base : Nat) (a0 : Act) (dv : Value) (I : World → Prop) (G : Value → World → Prop) (cv : Value → Array Value) (l : Array Bool) (a : Act) (w : World) : Prop where
  lsz : l.size = 4 * n
  iw : I w
  bs : base ≤ w.heap.size
  ad : AtDoor a0 (ld ++ ow ++ al) a.eval
  sz : a.tmps.size = a0.tmps.size
  df : a.defers = a0.defers
  L : ∀ j, j < n → l.getD (2 * j) false = true → a.eval (.tmp (ld.getD j 0)) = dv
  O : ∀ j, j < n → l.getD (2 * j + 1) false = true → G (a.eval (.tmp (ow.getD j 0))) w
  A : ∀ j, j < n → l.getD (2 * n + j) false = true → ∃ g cs, a.eval (.tmp (al.getD j 0)) = .pointer (some ⟨g, 0, none⟩) ∧ base ≤ g ∧ w.heap[g]? = some (.cells cs D (0, 0)) ∧ cs.size = c ∧ (l.getD (3 * n + j) false = true → cs = cv (a.eval (.tmp (ow.getD j 0))))
  S : ∀ j, j < n → l.getD (3 * n + j) false = true → l.getD (2 * j + 1) false = true ∧ l.getD (2 * n + j) false = true
  X : ∀ j k, j < n → k < n → j ≠ k → l.getD (2 * n + j) false = true → l.getD (2 * n + k) false = true → a.eval (.tmp (al.getD j 0)) ≠ a.eval (.tmp (al.getD k 0))
theorem set_false {l : Array Bool} {i k : Nat} (h : (l.setIfInBounds i true).getD k false = true) (hk : k ≠ i) : l.getD k false = true := (listed_set h).resolve_left hk
set_option maxHeartbeats 4000000 in
theorem wp_region_boxes (n : Nat) (ld ow al : List Nat) (D : TypeId) (c : Nat) (zs : Array Value) {id : Nat} {a0 : Act} {w0 : World} (hm : P.follows .mixedOrders = true) (hB : boxesB ops n ld ow al D = true) (hsz : ∀ d ∈ ld ++ ow ++ al, d < a0.tmps.size)
    (base : Nat) (hbase : base = w0.heap.size) (dv : Value) (I : World → Prop) (G : Value → World → Prop) (cv : Value → Array Value)
    (hI : ∀ w w', I w → base ≤ w.heap.size → RX base D w w' → I w') (hG : ∀ v w w', G v w → RX base D w w' → G v w') (h0 : I { w0 with drawn := w0.drawn + 1 })
    (hzs : zs.size = c) (hcv : ∀ v w, G v w → (cv v).size = c)
    (hload : ∀ j o, j < n → ops[2 * j]? = some o → ∀ (ρ : Operand → Value) (w : World), I w → AtDoor a0 (ld ++ ow ++ al) ρ → (execOp ρ o).run P w = .ok (.value dv) w)
    (hcall : ∀ j o, j < n → ops[2 * j + 1]? = some o → ∀ (a : Act) (w : World), I w → a.eval (.tmp (ld.getD j 0)) = dv → ∀ K : Act → World → Prop, (∀ v w', G v w' → Below w.heap.size w w' → K (a.put o.dst v) w') → o.wp P a w K Q)
    (halloc : ∀ (o : Oper) (ρ : Operand → Value) (w : World), o.op = .alloc D → (execOp ρ o).run P w = .ok (.value (.pointer (some ⟨w.heap.size, 0, none⟩))) (w.alloc (.cells zs D)))
    (hstore : ∀ (o : Oper) (ρ : Operand → Value) (w : World) (x y : Operand) (g : Nat) (cs : Array Value), o.op = .store D x y → ρ x = .pointer (some ⟨g, 0, none⟩) → w.heap[g]? = some (.cells cs D (0, 0)) → cs.size = c → G (ρ y) w → ∃ w', (execOp ρ o).run P w = .ok .skip w' ∧ Filled D g (cv (ρ y)) w w')
    (hend : ∀ (vals : Nat → Value) (w : World), I w → base ≤ w.heap.size → (∀ j, j < n → G (vals (ow.getD j 0)) w) → (∀ j, j < n → ∃ g, vals (al.getD j 0) = .pointer (some ⟨g, 0, none⟩) ∧ base ≤ g ∧ w.heap[g]? = some (.cells (cv (vals (ow.getD j 0))) D (0, 0))) →
      (∀ j k, j < n → k < n → j ≠ k → vals (al.getD j 0) ≠ vals (al.getD k 0)) → Q .normal ⟨(fillA a0 (ld ++ ow ++ al) vals).toArray, a0.defers⟩ w) :
    (Code.region id ops true).wp P Q a0 w0 := by
  have T := boxes_of hB
  obtain ⟨n1, n2, n3, n4, n5, n6⟩ := nodup3 T.nodup T.lld T.low T.lal
  have mld : ∀ j, j < n → ld.getD j 0 ∈ ld ++ ow ++ al := fun j hj => List.mem_append_left _ (List.mem_append_left _ (fds_mem (by rw [T.lld]; exact hj)))
  have mow : ∀ j, j < n → ow.getD j 0 ∈ ld ++ ow ++ al := fun j hj => List.mem_append_left _ (List.mem_append_right _ (fds_mem (by rw [T.low]; exact hj)))
  have mal : ∀ j, j < n → al.getD j 0 ∈ ld ++ ow ++ al := fun j hj => List.mem_append_right _ (fds_mem (by rw [T.lal]; exact hj))
  refine wp_region_inv (BInv n ld ow al D c base a0 dv I G cv) hm ?_ ?_ ?_
  · have hno : ∀ k, (Array.replicate ops.size false).getD k false = true → False := fun k h => by by_cases h2 : k < ops.size <;> simp [h2] at h
    exact ⟨by rw [Array.size_replicate]; exact T.size, h0, by rw [hbase]; exact Nat.le_refl _, atDoor_start _ _, rfl, rfl, fun j _ h => (hno _ h).elim, fun j _ h => (hno _ h).elim, fun j _ h => (hno _ h).elim, fun j _ h => (hno _ h).elim, fun j k _ _ _ h => (hno _ h).elim⟩
  · rintro l a w i V hi
    obtain ⟨hun, o, ho, hpre⟩ := mem_ready.1 hi
    have hilt : i < ops.size := (Array.getElem?_eq_some_iff.1 ho).1
    have hin : i < 4 * n := by rw [← T.size]; exact hilt
    have hil : i < l.size := by rw [V.lsz]; exact hin
    have hset : (l.setIfInBounds i true).size = 4 * n := by rw [Array.size_setIfInBounds]; exact V.lsz
    have hput : ∀ d v, (a.put (some d) v).tmps.size = a0.tmps.size := fun d v => by
      show (a.tmps.setIfInBounds _ _).size = _
      rw [Array.size_setIfInBounds]; exact V.sz
    have hlt : ∀ g o', w.heap[g]? = some o' → g < w.heap.size := fun g o' h => (Array.getElem?_eq_some_iff.1 h).1
    rcases (show (∃ j, j < n ∧ i = 2 * j) ∨ (∃ j, j < n ∧ i = 2 * j + 1) ∨ (∃ j, j < n ∧ i = 2 * n + j) ∨ ∃ j, j < n ∧ i = 3 * n + j by
      rcases Nat.lt_or_ge i (2 * n) with h | h
      · rcases Nat.mod_two_eq_zero_or_one i with h2 | h2
        · exact .inl ⟨i / 2, by omega, by omega⟩
        · exact .inr (.inl ⟨i / 2, by omega, by omega⟩)
      · rcases Nat.lt_or_ge i (3 * n) with h3 | h3
        · exact .inr (.inr (.inl ⟨i - 2 * n, by omega, by omega⟩))
        · exact .inr (.inr (.inr ⟨i - 3 * n, by omega, by omega⟩))) with ⟨j, hj, rfl⟩ | ⟨j, hj, rfl⟩ | ⟨j, hj, rfl⟩ | ⟨j, hj, rfl⟩
    · -- a load
      refine wpOp_at ho (T.guard _ o ho) ?_
      unfold Oper.wp
      rw [hload j o hj ho a.eval w V.iw V.ad, Oper.upon_value, T.load j o hj ho]
      refine ⟨hset, V.iw, V.bs, V.ad.put (mld j hj) dv, hput _ _, V.df, fun k hk h => ?_, fun k hk h => ?_, fun k hk h => ?_, fun k hk h => ?_, fun k m hk hm' hkm h1 h2 => ?_⟩
      · by_cases e : k = j
        · subst e
          exact eval_put_same _ _ _ (by rw [V.sz]; exact hsz _ (mld k hk))
        · rw [eval_put_other _ _ _ _ (fun q => e (n1 k j hk hj q))]
          exact V.L k hk (set_false h (by omega))
      · rw [eval_put_other _ _ _ _ (fun q => n4 j k hj hk q.symm)]
        exact V.O k hk (set_false h (by omega))
      · rw [eval_put_other _ _ _ _ (fun q => n5 j k hj hk q.symm), eval_put_other _ _ _ _ (fun q => n4 j k hj hk q.symm)]
        obtain ⟨g, cs, q1, q2, q3, q4, q5⟩ := V.A k hk (set_false h (by omega))
        exact ⟨g, cs, q1, q2, q3, q4, fun h' => q5 (set_false h' (by omega))⟩
      · exact ⟨(getD_set_iff hil).mpr (.inr (V.S k hk (set_false h (by omega))).1), (getD_set_iff hil).mpr (.inr (V.S k hk (set_false h (by omega))).2)⟩
      · rw [eval_put_other _ _ _ _ (fun q => n5 j k hj hk q.symm), eval_put_other _ _ _ _ (fun q => n5 j m hj hm' q.symm)]
        exact V.X k m hk hm' hkm (set_false h1 (by omega)) (set_false h2 (by omega))
    · -- a call
      obtain ⟨hd, e, he, e1, e2⟩ := T.call j o hj ho
      refine wpOp_at ho (T.guard _ o ho) (hcall j o hj ho a w V.iw (V.L j hj (by rw [← e1]; exact hpre e he e2)) _ fun v w' hv hb => ?_)
      rw [hd]
      have hr := RX.of_below (base := base) (D := D) hb
      refine ⟨hset, hI w w' V.iw V.bs hr, Nat.le_trans V.bs hb.size, V.ad.put (mow j hj) v, hput _ _, V.df, fun k hk h => ?_, fun k hk h => ?_, fun k hk h => ?_, fun k hk h => ?_, fun k m hk hm' hkm h1 h2 => ?_⟩
      · rw [eval_put_other _ _ _ _ (n4 k j hk hj)]
        exact V.L k hk (set_false h (by omega))
      · by_cases e : k = j
        · subst e
          rw [eval_put_same _ _ _ (by rw [V.sz]; exact hsz _ (mow k hk))]
          exact hv
        · rw [eval_put_other _ _ _ _ (fun q => e (n2 k j hk hj q))]
          exact hG _ _ _ (V.O k hk (set_false h (by omega))) hr
      · rw [eval_put_other _ _ _ _ (fun q => n6 j k hj hk q.symm)]
        obtain ⟨g, cs, q1, q2, q3, q4, q5⟩ := V.A k hk (set_false h (by omega))
        refine ⟨g, cs, q1, q2, by rw [hb.block g (hlt g _ q3)]; exact q3, q4, fun h' => ?_⟩
        have hs := set_false h' (by omega)
        have hne : k ≠ j := fun e => by
          subst e
          have := (V.S k hk hs).1
          simp [hil] at this hun
          rw [this] at hun
          cases hun
        rw [eval_put_other _ _ _ _ (fun q => hne (n2 k j hk hj q))]
        exact q5 hs
      · exact ⟨(getD_set_iff hil).mpr (.inr (V.S k hk (set_false h (by omega))).1), (getD_set_iff hil).mpr (.inr (V.S k hk (set_false h (by omega))).2)⟩
      · rw [eval_put_other _ _ _ _ (fun q => n6 j k hj hk q.symm), eval_put_other _ _ _ _ (fun q => n6 j m hj hm' q.symm)]
        exact V.X k m hk hm' hkm (set_false h1 (by omega)) (set_false h2 (by omega))
    · -- a new box
      obtain ⟨hd, hop⟩ := T.alloc j o hj ho
      refine wpOp_at ho (T.guard _ o ho) ?_
      unfold Oper.wp
      rw [halloc o a.eval w hop, Oper.upon_value, hd]
      have hb : Below w.heap.size w (w.alloc (.cells zs D)) := below_alloc _
      have hr := RX.of_below (base := base) (D := D) hb
      refine ⟨hset, hI w _ V.iw V.bs hr, Nat.le_trans V.bs hb.size, V.ad.put (mal j hj) _, hput _ _, V.df, fun k hk h => ?_, fun k hk h => ?_, fun k hk h => ?_, fun k hk h => ?_, fun k m hk hm' hkm h1 h2 => ?_⟩
      · rw [eval_put_other _ _ _ _ (n5 k j hk hj)]
        exact V.L k hk (set_false h (by omega))
      · rw [eval_put_other _ _ _ _ (n6 k j hk hj)]
        exact hG _ _ _ (V.O k hk (set_false h (by omega))) hr
      · by_cases e : k = j
        · subst e
          rw [eval_put_same _ _ _ (by rw [V.sz]; exact hsz _ (mal k hk))]
          refine ⟨w.heap.size, zs, rfl, V.bs, heap_alloc_new w _, hzs, fun h' => ?_⟩
          -- its store waits for it
          exfalso
          have := (V.S k hk (set_false h' (by omega))).2
          simp [hil] at this hun
          rw [hun] at this
          cases this
        · rw [eval_put_other _ _ _ _ (fun q => e (n3 k j hk hj q)), eval_put_other _ _ _ _ (n6 k j hk hj)]
          obtain ⟨g, cs, q1, q2, q3, q4, q5⟩ := V.A k hk (set_false h (by omega))
          exact ⟨g, cs, q1, q2, by rw [hb.block g (hlt g _ q3)]; exact q3, q4, fun h' => q5 (set_false h' (by omega))⟩
      · exact ⟨(getD_set_iff hil).mpr (.inr (V.S k hk (set_false h (by omega))).1), (getD_set_iff hil).mpr (.inr (V.S k hk (set_false h (by omega))).2)⟩
      · by_cases ek : k = j
        · subst ek
          rw [eval_put_same _ _ _ (by rw [V.sz]; exact hsz _ (mal k hk)), eval_put_other _ _ _ _ (fun q => hkm (n3 m k hm' hk q).symm)]
          obtain ⟨g, cs, q1, q2, q3, _⟩ := V.A m hm' (set_false h2 (by omega))
          rw [q1]
          intro q
          injection q with q
          injection q with q
          injection q with q
          have := hlt g _ q3
          omega
        · by_cases em : m = j
          · subst em
            rw [eval_put_same _ _ _ (by rw [V.sz]; exact hsz _ (mal m hm')), eval_put_other _ _ _ _ (fun q => ek (n3 k m hk hm' q))]
            obtain ⟨g, cs, q1, q2, q3, _⟩ := V.A k hk (set_false h1 (by omega))
            rw [q1]
            intro q
            injection q with q
            injection q with q
            injection q with q
            have := hlt g _ q3
            omega
          · rw [eval_put_other _ _ _ _ (fun q => ek (n3 k j hk hj q)), eval_put_other _ _ _ _ (fun q => em (n3 m j hm' hj q))]
            exact V.X k m hk hm' hkm (set_false h1 (by omega)) (set_false h2 (by omega))
    · -- a store
      obtain ⟨hd, hop, ⟨e, he, e1, e2⟩, e', he', e1', e2'⟩ := T.store j o hj ho
      have lo : l.getD (2 * j + 1) false = true := by rw [← e1]; exact hpre e he e2
      have la : l.getD (2 * n + j) false = true := by rw [← e1']; exact hpre e' he' e2'
      obtain ⟨g, cs, q1, q2, q3, q4, q5⟩ := V.A j hj la
      have hg := V.O j hj lo
      obtain ⟨w', hrun, hfil⟩ := hstore o a.eval w _ _ g cs hop q1 q3 q4 hg
      have hr := hfil.rb q2 q3
      refine wpOp_at ho (T.guard _ o ho) ?_
      unfold Oper.wp
      rw [hrun, Oper.upon_skip, hd]
      show BInv n ld ow al D c base a0 dv I G cv (l.setIfInBounds (3 * n + j) true) a w'
      refine ⟨hset, hI w _ V.iw V.bs hr, by rw [hfil.size]; exact V.bs, V.ad, V.sz, V.df, fun k hk h => V.L k hk (set_false h (by omega)), fun k hk h => hG _ _ _ (V.O k hk (set_false h (by omega))) hr, fun k hk h => ?_, fun k hk h => ?_, fun k m hk hm' hkm h1 h2 => V.X k m hk hm' hkm (set_false h1 (by omega)) (set_false h2 (by omega))⟩
      · by_cases e : k = j
        · subst e
          exact ⟨g, cv (a.eval (.tmp (ow.getD k 0))), q1, q2, hfil.at_, hcv _ _ hg, fun _ => rfl⟩
        · have lk := set_false h (by omega)
          obtain ⟨g', cs', p1, p2, p3, p4, p5⟩ := V.A k hk lk
          have hne : g' ≠ g := fun q => V.X k j hk hj e lk la (by rw [p1, q1, q])
          exact ⟨g', cs', p1, p2, by rw [hfil.other g' hne]; exact p3, p4, fun h' => p5 (set_false h' (by omega))⟩
      · by_cases e : k = j
        · subst e
          exact ⟨(getD_set_iff hil).mpr (.inr lo), (getD_set_iff hil).mpr (.inr la)⟩
        · exact ⟨(getD_set_iff hil).mpr (.inr (V.S k hk (set_false h (by omega))).1), (getD_set_iff hil).mpr (.inr (V.S k hk (set_false h (by omega))).2)⟩
  · rintro l a w V hr
    have hall := all_listed (by rw [V.lsz, T.size]) T.back hr
    rw [T.size] at hall
    rw [act_fill V.ad V.sz V.df]
    refine hend (fun t => a.eval (.tmp t)) w V.iw V.bs (fun j hj => V.O j hj (hall _ (by omega))) (fun j hj => ?_) (fun j k hj hk hjk => V.X j k hj hk hjk (hall _ (by omega)) (hall _ (by omega)))
    obtain ⟨g, cs, q1, q2, q3, q4, q5⟩ := V.A j hj (hall _ (by omega))
    exact ⟨g, q1, q2, by rw [← q5 (hall _ (by omega))]; exact q3⟩
end
end Go.Proofs.YtpckmhmabmmllaaDoor
