/- A region that draws its order, by an invariant: what holds whichever operations have come up.
   A region that draws its order, whose operations read or make new blocks (one of them may let one row grow), and whose last operation waits for all: by facts on what each has yielded.
   A region that draws its order, whose operations read or make new blocks and whose callees leave what is there as it is, with '&&' and '||': by facts on what each operation yields, in the order of the text.
   As Facts, and operations that read what a later one overwrites: what waits for an operation has not been done before it.
   That a call of a Go function enters it, in the seat YtlimcimioeepaaaGreatDoor.
   A region that draws its order, whose calls stand in one chain and turn a state, whatever else it reads or makes: by facts on what each operation yields, and the state behind each call; a last operation that waits for all may store.
   A struct variable stored and read whole, as one step of a region that draws its order, in the seat YtlimcimioeepaaaGreatDoor.
   As Chain, and operations of the chain may store in its midst (they yield nothing; their slot's number is 1000 or more), in the seat YtlimcimioeepaaaGreatDoor.
   No statement is proved here. -/
import Derived.Orders
import Derived.WalkKit
import Derived.KernelRfl
import Derived.Below
import Derived.Laws.AppendOwn
import Derived.Test.YtlimcimioeepaaaGreatDoorChecked
import Derived.Shelf.Abstract
import Derived.Laws.CopyRow
namespace Go.Proofs.YtlimcimioeepaaaGreatDoor
open Go

section
variable {P : Program} {ops : Array Oper} {Q : Exit → Act → World → Prop}
def unlisted (l : Array Bool) : Nat := l.toList.countP (fun b => !b)
theorem countP_set : ∀ (xs : List Bool) (i : Nat), xs[i]? = some false → (xs.set i true).countP (fun b => !b) + 1 = xs.countP (fun b => !b)
  | [], i, h => by simp at h
  | x :: xs, 0, h => by
    obtain rfl : x = false := by simpa using h
    simp
  | x :: xs, i + 1, h => by
    have ih := countP_set xs i (by simpa using h)
    simp only [List.set_cons_succ, List.countP_cons]
    omega
theorem unlisted_set {l : Array Bool} {i : Nat} (h : l.getD i true = false) : unlisted (l.setIfInBounds i true) + 1 = unlisted l := by
  have hi : i < l.size := by
    rcases Nat.lt_or_ge i l.size with h1 | h1
    · exact h1
    · simp [Array.getElem?_eq_none h1] at h
  have h0 : l[i] = false := by simpa [hi] using h
  unfold unlisted
  rw [Array.toList_setIfInBounds]
  refine countP_set l.toList i ?_
  rw [Array.getElem?_toList, Array.getElem?_eq_getElem hi, h0]
theorem wpAny_inv (Inv : Array Bool → Act → World → Prop)
    (hstep : ∀ (listed : Array Bool) (a : Act) (w : World) (i : Nat), Inv listed a w → i ∈ Region.ready .any ops listed → wpOp P ops Q i (Inv (listed.setIfInBounds i true)) a w)
    (hend : ∀ (listed : Array Bool) (a : Act) (w : World), Inv listed a w → Region.ready .any ops listed = [] → Q .normal a w) :
    ∀ (fuel : Nat) (listed : Array Bool) (a : Act) (w : World), unlisted listed ≤ fuel → Inv listed a w → wpAny P .any ops Q fuel listed a w
  | 0, listed, a, w, hf, hI => by
    have hr : Region.ready .any ops listed = [] := by
      rw [List.eq_nil_iff_forall_not_mem]
      intro i hi
      have := unlisted_set (mem_ready.1 hi).1
      omega
    exact ⟨hr, hend _ _ _ hI hr⟩
  | fuel + 1, listed, a, w, hf, hI =>
    ⟨fun hr => hend _ _ _ hI hr, fun i hi => wpOp_mono (fun a' w' hI' => wpAny_inv Inv hstep hend fuel _ a' w' (by have := unlisted_set (mem_ready.1 hi).1; omega) hI') (hstep _ _ _ _ hI hi)⟩
theorem wp_region_inv {id : Nat} {a : Act} {w : World} (Inv : Array Bool → Act → World → Prop) (hm : P.follows .mixedOrders = true)
    (h0 : Inv (Array.replicate ops.size false) a { w with drawn := w.drawn + 1 })
    (hstep : ∀ (listed : Array Bool) (a : Act) (w : World) (i : Nat), Inv listed a w → i ∈ Region.ready .any ops listed → wpOp P ops Q i (Inv (listed.setIfInBounds i true)) a w)
    (hend : ∀ (listed : Array Bool) (a : Act) (w : World), Inv listed a w → Region.ready .any ops listed = [] → Q .normal a w) : (Code.region id ops true).wp P Q a w :=
  wp_region_any hm (wpAny_inv Inv hstep hend _ _ _ _ (by
    unfold unlisted
    refine Nat.le_trans List.countP_le_length ?_
    simp) h0)
/-- When none is left, all have come up (the edges lead back, from later operations to earlier ones). -/
theorem all_listed {listed : Array Bool} (hs : listed.size = ops.size) (hb : ∀ (i : Nat) (o : Oper), ops[i]? = some o → ∀ e ∈ o.after, e.on < i) (hr : Region.ready .any ops listed = []) : ∀ i, i < ops.size → listed.getD i false = true := by
  intro i
  induction i using Nat.strongRecOn with
  | _ i ih =>
    intro hi
    cases hl : listed.getD i false with
    | true => rfl
    | false =>
      have hi2 : i < listed.size := by omega
      have h1 : listed.getD i true = false := by
        simp [hi2] at hl ⊢
        exact hl
      have h2 : i ∈ Region.ready .any ops listed := mem_ready.2 ⟨h1, ops[i], Array.getElem?_eq_getElem hi, fun e he _ => by
        have h3 := hb i _ (Array.getElem?_eq_getElem hi) e he
        exact ih e.on h3 (by omega)⟩
      rw [hr] at h2
      simp at h2
def backB (ops : Array Oper) : Bool := (List.range ops.size).all fun i => match ops[i]? with
  | some o => o.after.all fun e => decide (e.on < i)
  | none => true
theorem back_of (h : backB ops = true) : ∀ (i : Nat) (o : Oper), ops[i]? = some o → ∀ e ∈ o.after, e.on < i := by
  intro i o ho e he
  have hi : i < ops.size := by
    rcases Nat.lt_or_ge i ops.size with h1 | h1
    · exact h1
    · rw [Array.getElem?_eq_none h1] at ho; cases ho
  have h1 := List.all_eq_true.1 h i (List.mem_range.2 hi)
  rw [ho] at h1
  exact of_decide_eq_true (Array.all_eq_true'.1 h1 e he)
theorem listed_set {listed : Array Bool} {i k : Nat} (h : (listed.setIfInBounds i true).getD k false = true) : k = i ∨ listed.getD k false = true := by
  by_cases hik : i = k
  · exact .inl hik.symm
  · right
    simp [Array.getElem?_setIfInBounds_ne hik] at h
    simpa using h
theorem wpOp_at {i : Nat} {o : Oper} {a : Act} {w : World} {K : Act → World → Prop} (ho : ops[i]? = some o) (hg : o.guard = none) (h : o.wp P a w K Q) : wpOp P ops Q i K a w := by
  unfold wpOp
  rw [ho]
  simp only [Region.wanted, hg, if_true]
  exact .inl h
theorem wp_append_run {o : Oper} {a : Act} {w w' : World} {K : Act → World → Prop} {s x : Operand} {t : TypeId} {vs vx v : Value} (hop : o.op = .call { callee := .builtin .append, args := #[s, x], argTypes := #[t, t] })
    (hs : a.eval s = vs) (hx : a.eval x = vx) (hr : (Builtin.append_ #[t, t] o.type #[vs, vx]).run P w = .ok v w') (hK : K (a.put o.dst v) w') : o.wp P a w K Q := by
  unfold Oper.wp
  simp [execOp, hop, resolve, invoke, builtin, hs, hx, hr, Result.andThen]
  exact hK
end
end Go.Proofs.YtlimcimioeepaaaGreatDoor
set_option linter.unusedVariables false
namespace Go.Proofs.YtlimcimioeepaaaGreatDoor
open Go Go.RowKit

section
variable {P : Program} {ops : Array Oper} {Q : Exit → Act → World → Prop}
/-- What operands read as, but for the slots ds: as at the region's door. -/
structure AtDoor (a0 : Act) (ds : List Nat) (ρ : Operand → Value) : Prop where
  const : ∀ v, ρ (.const v) = v
  tmp : ∀ t, t ∉ ds → ρ (.tmp t) = a0.eval (.tmp t)
theorem atDoor_start (a0 : Act) (ds : List Nat) : AtDoor a0 ds a0.eval := ⟨fun _ => rfl, fun _ _ => rfl⟩
theorem eval_put_same (a : Act) (d : Nat) (v : Value) (h : d < a.tmps.size) : (a.put (some d) v).eval (.tmp d) = v := by
  show (a.tmps.setIfInBounds d v).getD d undef = v
  simp [h]
theorem eval_put_other (a : Act) (d t : Nat) (v : Value) (h : t ≠ d) : (a.put (some d) v).eval (.tmp t) = a.eval (.tmp t) := by
  show (a.tmps.setIfInBounds d v).getD t undef = a.tmps.getD t undef
  simp [Array.getElem?_setIfInBounds_ne (Ne.symm h)]
theorem AtDoor.put {a0 a : Act} {ds : List Nat} (h : AtDoor a0 ds a.eval) {d : Nat} (hd : d ∈ ds) (v : Value) : AtDoor a0 ds (a.put (some d) v).eval :=
  ⟨fun _ => rfl, fun t ht => (eval_put_other a d t v (fun e => ht (e ▸ hd))).trans (h.tmp t ht)⟩
/-- What the region's text must be (all by the kernel). -/
def gatherB (ops : Array Oper) (n : Nat) (ds : List Nat) : Bool :=
  ops.size == n + 1 && ds.length == n && (ops.toList.all fun o : Oper => o.guard.isNone) && backB ops && decide ds.Nodup &&
  ((List.range n).all fun k => (match ops[k]? with | some o => o.dst == some (ds.getD k 0) | none => false)) &&
  (match ops[n]? with | some o => (List.range n).all fun k => o.after.any fun e => e.on == k && Region.binds .any e | none => false)
structure Gather (ops : Array Oper) (n : Nat) (ds : List Nat) : Prop where
  size : ops.size = n + 1
  len : ds.length = n
  guard : ∀ (k : Nat) (o : Oper), ops[k]? = some o → o.guard = none
  back : ∀ (i : Nat) (o : Oper), ops[i]? = some o → ∀ e ∈ o.after, e.on < i
  nodup : ds.Nodup
  dst : ∀ (k : Nat) (o : Oper), k < n → ops[k]? = some o → o.dst = some (ds.getD k 0)
  last : ∀ (o : Oper), ops[n]? = some o → ∀ k, k < n → ∃ e ∈ o.after, e.on = k ∧ Region.binds .any e = true
theorem gather_of {n : Nat} {ds : List Nat} (h : gatherB ops n ds = true) : Gather ops n ds := by
  unfold gatherB at h
  simp only [Bool.and_eq_true, beq_iff_eq, decide_eq_true_iff] at h
  obtain ⟨⟨⟨⟨⟨⟨h1, h2⟩, h3⟩, h4⟩, h5⟩, h6⟩, h7⟩ := h
  refine ⟨h1, h2, fun k o ho => ?_, back_of h4, h5, fun k o hk ho => ?_, fun o ho k hk => ?_⟩
  · have := List.all_eq_true.1 h3 o (by rw [Array.mem_toList_iff]; exact Array.mem_of_getElem? ho)
    exact Option.isNone_iff_eq_none.1 this
  · have := List.all_eq_true.1 h6 k (List.mem_range.2 hk)
    rw [ho] at this
    simpa using this
  · rw [ho] at h7
    have := List.all_eq_true.1 h7 k (List.mem_range.2 hk)
    obtain ⟨e, he, h8⟩ := Array.any_eq_true'.1 this
    rw [Bool.and_eq_true, beq_iff_eq] at h8
    exact ⟨e, he, h8.1, h8.2⟩
theorem ds_mem {n : Nat} {ds : List Nat} (h : Gather ops n ds) {k : Nat} (hk : k < n) : ds.getD k 0 ∈ ds := by
  have hl : k < ds.length := by rw [h.len]; exact hk
  rw [List.getD_eq_getElem?_getD, List.getElem?_eq_getElem hl]
  exact List.getElem_mem hl
theorem ds_inj {n : Nat} {ds : List Nat} (h : Gather ops n ds) {k j : Nat} (hk : k < n) (hj : j < n) (e : ds.getD k 0 = ds.getD j 0) : k = j := by
  have hl : k < ds.length := by rw [h.len]; exact hk
  have hl2 : j < ds.length := by rw [h.len]; exact hj
  rw [List.getD_eq_getElem?_getD, List.getElem?_eq_getElem hl, List.getD_eq_getElem?_getD, List.getElem?_eq_getElem hl2] at e
  exact (List.getElem_inj h.nodup).mp e
theorem getD_set_iff {l : Array Bool} {i k : Nat} (hi : i < l.size) : (l.setIfInBounds i true).getD k false = true ↔ k = i ∨ l.getD k false = true := by
  constructor
  · exact listed_set
  · rintro (rfl | h)
    · simp [hi]
    · by_cases hik : i = k
      · subst hik; simp [hi]
      · simpa [Array.getElem?_setIfInBounds_ne hik] using h
set_option maxHeartbeats 1000000 in
theorem wp_region_gather (n m : Nat) (ds : List Nat) {id : Nat} {a0 : Act} {w0 : World} (hm : P.follows .mixedOrders = true) (hG : gatherB ops n ds = true) (hsz : ∀ d ∈ ds, d < a0.tmps.size)
    (I J : World → Prop) (R : World → World → Prop) (Φ : Nat → Value → World → Prop)
    (hBR : ∀ w w', Below w.heap.size w w' → R w w') (hI : ∀ w w', I w → R w w' → I w') (hJ : ∀ w w', J w → Below w.heap.size w w' → J w')
    (hΦ : ∀ k v w w', k ≠ m → Φ k v w → R w w' → Φ k v w') (hΦm : ∀ v w w', Φ m v w → Below w.heap.size w w' → Φ m v w')
    (h0 : I { w0 with drawn := w0.drawn + 1 }) (h1 : J { w0 with drawn := w0.drawn + 1 })
    (hstep : ∀ (k : Nat) (o : Oper), k < n → ops[k]? = some o → ∀ (ρ : Operand → Value) (w : World), I w → AtDoor a0 ds ρ → (∀ e ∈ o.after, Region.binds .any e = true → Φ e.on (ρ (.tmp (ds.getD e.on 0))) w) → (k = m → J w) →
      ∃ v w', (execOp ρ o).run P w = .ok (.value v) w' ∧ Φ k v w' ∧ (if k = m then R w w' else Below w.heap.size w w'))
    (hlast : ∀ (o : Oper), ops[n]? = some o → ∀ (a : Act) (w : World), I w → AtDoor a0 ds a.eval → a.tmps.size = a0.tmps.size → a.defers = a0.defers → (∀ k, k < n → Φ k (a.eval (.tmp (ds.getD k 0))) w) →
      o.wp P a w (fun a' w' => Q .normal a' w') Q) :
    (Code.region id ops true).wp P Q a0 w0 := by
  have G := gather_of hG
  refine wp_region_inv (fun l a w => l.size = n + 1 ∧ ((l.getD n false = false ∧ I w ∧ AtDoor a0 ds a.eval ∧ a.tmps.size = a0.tmps.size ∧ a.defers = a0.defers ∧ (∀ k, k < n → l.getD k false = true → Φ k (a.eval (.tmp (ds.getD k 0))) w) ∧ (l.getD m false = false → J w)) ∨ ((∀ k, k ≤ n → l.getD k false = true) ∧ Q .normal a w))) hm ?_ ?_ ?_
  · refine ⟨by rw [Array.size_replicate]; exact G.size, .inl ⟨?_, h0, atDoor_start a0 ds, rfl, rfl, fun k hk h => ?_, fun _ => h1⟩⟩
    · by_cases h : n < ops.size <;> simp [h]
    · exfalso
      by_cases h2 : k < ops.size <;> simp [h2] at h
  · rintro l a w i ⟨hls, hV⟩ hi
    obtain ⟨hun, o, ho, hpre⟩ := mem_ready.1 hi
    have hilt : i < ops.size := (Array.getElem?_eq_some_iff.1 ho).1
    have hil : i < l.size := by rw [hls, ← G.size]; exact hilt
    rcases hV with ⟨hnl, hIw, hAD, hasz, hadf, hF, hJw⟩ | ⟨hall, _⟩
    · rcases Nat.lt_or_ge i n with hin | hin
      · obtain ⟨v, w', hrun, hphi, hrel⟩ := hstep i o hin ho a.eval w hIw hAD (fun e he hb => hF e.on (Nat.lt_trans (G.back i o ho e he) hin) (hpre e he hb)) (fun e => hJw (by
          rw [← e]
          cases h : l.getD i false with
          | false => rfl
          | true => simp [hil] at h hun; rw [h] at hun; cases hun))
        have hR : R w w' := by
          split at hrel
          · exact hrel
          · exact hBR w w' hrel
        refine wpOp_at ho (G.guard i o ho) ?_
        unfold Oper.wp
        rw [hrun, Oper.upon_value, G.dst i o hin ho]
        refine ⟨by rw [Array.size_setIfInBounds]; exact hls, .inl ⟨?_, hI w w' hIw hR, hAD.put (ds_mem G hin) v, ?_, hadf, fun k hk hkl => ?_, fun hml => ?_⟩⟩
        · cases h : (l.setIfInBounds i true).getD n false with
          | false => rfl
          | true =>
            rcases listed_set h with h2 | h2
            · omega
            · rw [hnl] at h2; cases h2
        · show (a.tmps.setIfInBounds _ _).size = _
          rw [Array.size_setIfInBounds]; exact hasz
        · by_cases hki : k = i
          · subst hki
            rw [eval_put_same _ _ _ (by rw [hasz]; exact hsz _ (ds_mem G hin))]
            exact hphi
          · rw [eval_put_other _ _ _ _ (fun e => hki (ds_inj G hk hin e))]
            have hf := hF k hk ((listed_set hkl).resolve_left hki)
            by_cases hkm : k = m
            · subst hkm
              rw [if_neg (fun e => hki e.symm)] at hrel
              exact hΦm _ _ _ hf hrel
            · exact hΦ k _ _ _ hkm hf hR
        · have hmi : i ≠ m := fun e => by
            subst e
            have h2 := (getD_set_iff (k := i) hil).mpr (.inl rfl)
            rw [hml] at h2; cases h2
          rw [if_neg hmi] at hrel
          refine hJ w w' (hJw ?_) hrel
          cases h : l.getD m false with
          | false => rfl
          | true =>
            have h2 := (getD_set_iff (k := m) hil).mpr (.inr h)
            rw [hml] at h2; cases h2
      · obtain rfl : i = n := by have := G.size; omega
        have hall : ∀ k, k < i → l.getD k false = true := fun k hk => by
          obtain ⟨e, he, h1, h2⟩ := G.last o ho k hk
          rw [← h1]
          exact hpre e he h2
        refine wpOp_at ho (G.guard i o ho) (Oper.wp_mono (fun a' w' hq => ?_) (hlast o ho a w hIw hAD hasz hadf (fun k hk => hF k hk (hall k hk))))
        refine ⟨by rw [Array.size_setIfInBounds]; exact hls, .inr ⟨fun k hk => (getD_set_iff hil).mpr ?_, hq⟩⟩
        rcases Nat.lt_or_ge k i with h | h
        · exact .inr (hall k h)
        · exact .inl (by omega)
    · exfalso
      have := hall i (by have := G.size; omega)
      simp [hil] at this hun
      rw [this] at hun
      cases hun
  · rintro l a w ⟨hls, hV⟩ hr
    have hall := all_listed (by rw [hls, G.size]) G.back hr
    rcases hV with ⟨hnl, _⟩ | ⟨_, hq⟩
    · have := hall n (by rw [G.size]; omega)
      rw [hnl] at this
      cases this
    · exact hq
/-- The frame behind: the slots ds hold what was yielded, the others what they held at the door. -/
def fillL (ds : List Nat) (vals : Nat → Value) : Nat → List Value → List Value
  | _, [] => []
  | t, x :: l => (bif ds.contains t then vals t else x) :: fillL ds vals (t + 1) l
theorem fillL_at (ds : List Nat) (vals : Nat → Value) : ∀ (l : List Value) (t i : Nat), (fillL ds vals t l)[i]? = l[i]?.map fun x => bif ds.contains (t + i) then vals (t + i) else x
  | [], t, i => by simp [fillL]
  | x :: l, t, 0 => by simp [fillL]
  | x :: l, t, i + 1 => by
    have := fillL_at ds vals l (t + 1) i
    rw [show t + 1 + i = t + (i + 1) by omega] at this
    simpa [fillL] using this
def fillA (a0 : Act) (ds : List Nat) (vals : Nat → Value) : List Value := fillL ds vals 0 a0.tmps.toList
theorem act_fill {a0 a : Act} {ds : List Nat} (h : AtDoor a0 ds a.eval) (hs : a.tmps.size = a0.tmps.size) (hd : a.defers = a0.defers) : a = ⟨(fillA a0 ds fun t => a.eval (.tmp t)).toArray, a0.defers⟩ := by
  obtain ⟨tmps, defers⟩ := a
  obtain rfl : defers = a0.defers := hd
  congr 1
  apply Array.toList_inj.mp
  apply List.ext_getElem?
  intro t
  unfold fillA
  rw [fillL_at, Nat.zero_add]
  rcases Nat.lt_or_ge t tmps.size with ht | ht
  · have ht0 : t < a0.tmps.toList.length := by simpa [← hs] using ht
    have e1 : (Act.mk tmps a0.defers).eval (.tmp t) = tmps[t] := by
      show tmps.getD t undef = _
      simp [ht]
    rw [List.getElem?_eq_getElem ht0, List.getElem?_eq_getElem (by simpa using ht)]
    simp only [Option.map_some, Array.getElem_toList, Option.some.injEq]
    cases hc : ds.contains t with
    | true => exact e1.symm
    | false =>
      have := h.tmp t (fun q => by rw [List.contains_iff_mem.mpr q] at hc; cases hc)
      rw [e1] at this
      rw [this]
      show a0.tmps.getD t undef = _
      have ht1 : t < a0.tmps.size := by simpa using ht0
      simp [ht1]
  · rw [List.getElem?_eq_none (by simpa using ht), List.getElem?_eq_none (by simpa [← hs] using ht)]
    rfl
theorem wp_region_gather' (n m : Nat) (ds : List Nat) {id : Nat} {a0 : Act} {w0 : World} (hm : P.follows .mixedOrders = true) (hG : gatherB ops n ds = true) (hsz : ∀ d ∈ ds, d < a0.tmps.size)
    (I J : World → Prop) (R : World → World → Prop) (Φ : Nat → Value → World → Prop)
    (hBR : ∀ w w', Below w.heap.size w w' → R w w') (hI : ∀ w w', I w → R w w' → I w') (hJ : ∀ w w', J w → Below w.heap.size w w' → J w')
    (hΦ : ∀ k v w w', k ≠ m → Φ k v w → R w w' → Φ k v w') (hΦm : ∀ v w w', Φ m v w → Below w.heap.size w w' → Φ m v w')
    (h0 : I { w0 with drawn := w0.drawn + 1 }) (h1 : J { w0 with drawn := w0.drawn + 1 })
    (hstep : ∀ (k : Nat) (o : Oper), k < n → ops[k]? = some o → ∀ (ρ : Operand → Value) (w : World), I w → AtDoor a0 ds ρ → (∀ e ∈ o.after, Region.binds .any e = true → Φ e.on (ρ (.tmp (ds.getD e.on 0))) w) → (k = m → J w) →
      ∃ v w', (execOp ρ o).run P w = .ok (.value v) w' ∧ Φ k v w' ∧ (if k = m then R w w' else Below w.heap.size w w'))
    (hlast : ∀ (o : Oper), ops[n]? = some o → ∀ (vals : Nat → Value) (w : World), I w → (∀ k, k < n → Φ k (vals (ds.getD k 0)) w) →
      o.wp P ⟨(fillA a0 ds vals).toArray, a0.defers⟩ w (fun a' w' => Q .normal a' w') Q) :
    (Code.region id ops true).wp P Q a0 w0 :=
  wp_region_gather n m ds hm hG hsz I J R Φ hBR hI hJ hΦ hΦm h0 h1 hstep (fun o ho a w hIw hA hs hd hF => by
    have := hlast o ho (fun t => a.eval (.tmp t)) w hIw hF
    rwa [← act_fill hA hs hd] at this)
end
end Go.Proofs.YtlimcimioeepaaaGreatDoor
set_option linter.unusedVariables false
namespace Go.Proofs.YtlimcimioeepaaaGreatDoor
open Go Go.RowKit

section
variable {P : Program} {ops : Array Oper} {Q : Exit → Act → World → Prop}
/-- What the region's text must be (all by the kernel): ds are the operations' slots, wt says which are wanted. -/
def factsB (ops : Array Oper) (ds : List Nat) (wt : List Bool) : Bool :=
  ops.size == ds.length && backB ops && decide ds.Nodup &&
  ((List.range ds.length).all fun k => (match ops[k]? with | some o => o.dst == some (ds.getD k 0) | none => false)) &&
  ((List.range ds.length).all fun k => (match ops[k]? with
    | some o => (match o.guard with | some g => decide (g.1 < k) && o.after.any (fun e => e.on == g.1 && Region.binds .any e) | none => wt.getD k true)
    | none => false))
structure Facts (ops : Array Oper) (ds : List Nat) (wt : List Bool) : Prop where
  size : ops.size = ds.length
  back : ∀ (i : Nat) (o : Oper), ops[i]? = some o → ∀ e ∈ o.after, e.on < i
  nodup : ds.Nodup
  dst : ∀ (k : Nat) (o : Oper), ops[k]? = some o → o.dst = some (ds.getD k 0)
  guard : ∀ (k : Nat) (o : Oper) (g : Nat) (b : Bool), ops[k]? = some o → o.guard = some (g, b) → g < k ∧ ∃ e ∈ o.after, e.on = g ∧ Region.binds .any e = true
  free : ∀ (k : Nat) (o : Oper), ops[k]? = some o → o.guard = none → wt.getD k true = true
theorem facts_of {ds : List Nat} {wt : List Bool} (h : factsB ops ds wt = true) : Facts ops ds wt := by
  unfold factsB at h
  simp only [Bool.and_eq_true, beq_iff_eq, decide_eq_true_iff] at h
  obtain ⟨⟨⟨⟨h1, h2⟩, h3⟩, h4⟩, h5⟩ := h
  have hk : ∀ (k : Nat) (o : Oper), ops[k]? = some o → k < ds.length := fun k o ho => h1 ▸ (Array.getElem?_eq_some_iff.1 ho).1
  refine ⟨h1, back_of h2, h3, fun k o ho => ?_, fun k o g b ho hg => ?_, fun k o ho hg => ?_⟩
  · have := List.all_eq_true.1 h4 k (List.mem_range.2 (hk k o ho))
    rw [ho] at this
    simpa using this
  · have := List.all_eq_true.1 h5 k (List.mem_range.2 (hk k o ho))
    rw [ho] at this
    simp only [hg, Bool.and_eq_true, decide_eq_true_iff] at this
    obtain ⟨e, he, h8⟩ := Array.any_eq_true'.1 this.2
    rw [Bool.and_eq_true, beq_iff_eq] at h8
    exact ⟨this.1, e, he, h8.1, h8.2⟩
  · have := List.all_eq_true.1 h5 k (List.mem_range.2 (hk k o ho))
    rw [ho] at this
    simpa only [hg] using this
theorem fds_mem {ds : List Nat} {k : Nat} (hk : k < ds.length) : ds.getD k 0 ∈ ds := by
  rw [List.getD_eq_getElem?_getD, List.getElem?_eq_getElem hk]
  exact List.getElem_mem hk
theorem fds_inj {ds : List Nat} (h : ds.Nodup) {k j : Nat} (hk : k < ds.length) (hj : j < ds.length) (e : ds.getD k 0 = ds.getD j 0) : k = j := by
  rw [List.getD_eq_getElem?_getD, List.getElem?_eq_getElem hk, List.getD_eq_getElem?_getD, List.getElem?_eq_getElem hj] at e
  exact (List.getElem_inj h).mp e
set_option maxHeartbeats 1000000 in
theorem wp_region_facts (ds : List Nat) (wt : List Bool) {id : Nat} {a0 : Act} {w0 : World} (hm : P.follows .mixedOrders = true) (hG : factsB ops ds wt = true) (hsz : ∀ d ∈ ds, d < a0.tmps.size)
    (I : World → Prop) (Φ : Nat → Value → World → Prop)
    (hI : ∀ w w', I w → Below w.heap.size w w' → I w') (hΦ : ∀ k v w w', Φ k v w → Below w.heap.size w w' → Φ k v w')
    (h0 : I { w0 with drawn := w0.drawn + 1 })
    (hW : ∀ (k : Nat) (o : Oper) (g : Nat) (b : Bool), ops[k]? = some o → o.guard = some (g, b) → ∀ v w, Φ g v w → v = .bool (if wt.getD k true = true then b else !b))
    (hskip : ∀ k, wt.getD k true = false → ∀ w, Φ k undef w)
    (hstep : ∀ (k : Nat) (o : Oper), ops[k]? = some o → wt.getD k true = true → ∀ (a : Act) (w : World), I w → AtDoor a0 ds a.eval → (∀ e ∈ o.after, Region.binds .any e = true → Φ e.on (a.eval (.tmp (ds.getD e.on 0))) w) →
      ∀ K : Act → World → Prop, (∀ v w', Φ k v w' → Below w.heap.size w w' → K (a.put o.dst v) w') → o.wp P a w K Q)
    (hend : ∀ (vals : Nat → Value) (w : World), I w → (∀ k, k < ds.length → Φ k (vals (ds.getD k 0)) w) → Q .normal ⟨(fillA a0 ds vals).toArray, a0.defers⟩ w) :
    (Code.region id ops true).wp P Q a0 w0 := by
  have G := facts_of hG
  refine wp_region_inv (fun l a w => l.size = ds.length ∧ I w ∧ AtDoor a0 ds a.eval ∧ a.tmps.size = a0.tmps.size ∧ a.defers = a0.defers ∧ (∀ k, k < ds.length → l.getD k false = true → Φ k (a.eval (.tmp (ds.getD k 0))) w)) hm ?_ ?_ ?_
  · refine ⟨by rw [Array.size_replicate]; exact G.size, h0, atDoor_start a0 ds, rfl, rfl, fun k hk h => ?_⟩
    exfalso
    by_cases h2 : k < ops.size <;> simp [h2] at h
  · rintro l a w i ⟨hls, hIw, hAD, hasz, hadf, hF⟩ hi
    obtain ⟨hun, o, ho, hpre⟩ := mem_ready.1 hi
    have hilt : i < ops.size := (Array.getElem?_eq_some_iff.1 ho).1
    have hin : i < ds.length := by rw [← G.size]; exact hilt
    have hil : i < l.size := by omega
    have hdep : ∀ e ∈ o.after, Region.binds .any e = true → Φ e.on (a.eval (.tmp (ds.getD e.on 0))) w := fun e he hb => hF e.on (Nat.lt_trans (G.back i o ho e he) hin) (hpre e he hb)
    have hnext : ∀ v w', Φ i v w' → Below w.heap.size w w' → (l.setIfInBounds i true).size = ds.length ∧ I w' ∧ AtDoor a0 ds (a.put o.dst v).eval ∧ (a.put o.dst v).tmps.size = a0.tmps.size ∧ (a.put o.dst v).defers = a0.defers ∧ (∀ k, k < ds.length → (l.setIfInBounds i true).getD k false = true → Φ k ((a.put o.dst v).eval (.tmp (ds.getD k 0))) w') := fun v w' hphi hb => by
      rw [G.dst i o ho]
      refine ⟨by rw [Array.size_setIfInBounds]; exact hls, hI w w' hIw hb, hAD.put (fds_mem hin) v, ?_, hadf, fun k hk hkl => ?_⟩
      · show (a.tmps.setIfInBounds _ _).size = _
        rw [Array.size_setIfInBounds]; exact hasz
      · by_cases hki : k = i
        · subst hki
          rw [eval_put_same _ _ _ (by rw [hasz]; exact hsz _ (fds_mem hin))]
          exact hphi
        · rw [eval_put_other _ _ _ _ (fun e => hki (fds_inj G.nodup hk hin e))]
          exact hΦ k _ _ _ (hF k hk ((listed_set hkl).resolve_left hki)) hb
    unfold wpOp
    rw [ho]
    have hyield : ∀ g b, o.guard = some (g, b) → yielded ops a.tmps g = some (if wt.getD i true = true then b else !b) := fun g b hg => by
      obtain ⟨hgi, e, he, h1, h2⟩ := G.guard i o g b ho hg
      have hv := hW i o g b ho hg _ _ (by have := hdep e he h2; rwa [h1] at this)
      obtain ⟨og, hog⟩ : ∃ og, ops[g]? = some og := ⟨_, Array.getElem?_eq_getElem (by omega)⟩
      unfold yielded
      rw [hog, Option.bind_some, G.dst g og hog, Option.bind_some]
      have hlt : ds.getD g 0 < a.tmps.size := by rw [hasz]; exact hsz _ (fds_mem (by omega))
      rw [Array.getElem?_eq_getElem hlt]
      have : a.tmps[ds.getD g 0] = .bool (if wt.getD i true = true then b else !b) := by
        rw [← hv]
        show _ = a.tmps.getD (ds.getD g 0) undef
        rw [Array.getD_eq_getD_getElem?, Array.getElem?_eq_getElem hlt]
        rfl
      rw [this]
    cases hw : wt.getD i true with
    | true =>
      have hwant : Region.wanted o (yielded ops a.tmps) = true := by
        unfold Region.wanted
        cases hg : o.guard with
        | none => rfl
        | some gb =>
          obtain ⟨g, b⟩ := gb
          show (yielded ops a.tmps g == some b) = true
          rw [hyield g b hg, hw]
          simp
      simp only [hwant, if_true]
      exact .inl (hstep i o ho hw a w hIw hAD hdep _ hnext)
    | false =>
      have hwant : Region.wanted o (yielded ops a.tmps) = false := by
        unfold Region.wanted
        cases hg : o.guard with
        | none =>
          have := G.free i o ho hg
          rw [hw] at this
          cases this
        | some gb =>
          obtain ⟨g, b⟩ := gb
          show (yielded ops a.tmps g == some b) = false
          rw [hyield g b hg, hw]
          cases b <;> rfl
      simp only [hwant]
      exact hnext undef w (hskip i hw w) (Below.refl _ _)
  · rintro l a w ⟨hls, hIw, hAD, hasz, hadf, hF⟩ hr
    have hall := all_listed (by rw [hls, G.size]) G.back hr
    rw [act_fill hAD hasz hadf]
    exact hend (fun t => a.eval (.tmp t)) w hIw fun k hk => hF k hk (hall k (by rw [G.size]; exact hk))
/-- What the guards read, by the kernel: gv lists which operation yields which truth. -/
def guardsB (ops : Array Oper) (wt : List Bool) (gv : List (Nat × Bool)) : Bool :=
  (List.range ops.size).all fun k => (match ops[k]? with
    | some o => (match o.guard with | some (g, b) => gv.any (fun p => p.1 == g && p.2 == (if wt.getD k true = true then b else !b)) | none => true)
    | none => true)
theorem wp_region_facts' (ds : List Nat) (wt : List Bool) (gv : List (Nat × Bool)) {id : Nat} {a0 : Act} {w0 : World} (hm : P.follows .mixedOrders = true) (hG : factsB ops ds wt = true) (hgB : guardsB ops wt gv = true) (hsz : ∀ d ∈ ds, d < a0.tmps.size)
    (I : World → Prop) (Φ : Nat → Value → World → Prop)
    (hI : ∀ w w', I w → Below w.heap.size w w' → I w') (hΦ : ∀ k v w w', Φ k v w → Below w.heap.size w w' → Φ k v w')
    (h0 : I { w0 with drawn := w0.drawn + 1 })
    (hgv : ∀ p ∈ gv, ∀ v w, Φ p.1 v w → v = .bool p.2)
    (hskip : ∀ k, wt.getD k true = false → ∀ w, Φ k undef w)
    (hstep : ∀ (k : Nat) (o : Oper), ops[k]? = some o → wt.getD k true = true → ∀ (a : Act) (w : World), I w → AtDoor a0 ds a.eval → (∀ e ∈ o.after, Region.binds .any e = true → Φ e.on (a.eval (.tmp (ds.getD e.on 0))) w) →
      ∀ K : Act → World → Prop, (∀ v w', Φ k v w' → Below w.heap.size w w' → K (a.put o.dst v) w') → o.wp P a w K Q)
    (hend : ∀ (vals : Nat → Value) (w : World), I w → (∀ k, k < ds.length → Φ k (vals (ds.getD k 0)) w) → Q .normal ⟨(fillA a0 ds vals).toArray, a0.defers⟩ w) :
    (Code.region id ops true).wp P Q a0 w0 :=
  wp_region_facts ds wt hm hG hsz I Φ hI hΦ h0 (fun k o g b ho hg v w hv => by
    have hk : k < ops.size := (Array.getElem?_eq_some_iff.1 ho).1
    have := List.all_eq_true.1 hgB k (List.mem_range.2 hk)
    rw [ho] at this
    simp only [hg] at this
    obtain ⟨p, hp, h2⟩ := List.any_eq_true.1 this
    rw [Bool.and_eq_true, beq_iff_eq, beq_iff_eq] at h2
    rw [← h2.2]
    exact hgv p hp v w (by rw [h2.1]; exact hv)) hskip hstep hend
/-- An operation that yields at once. -/
theorem fx_val {o : Oper} {a : Act} {w : World} {k : Nat} {Φ : Nat → Value → World → Prop} {K : Act → World → Prop} (hK : ∀ v w', Φ k v w' → Below w.heap.size w w' → K (a.put o.dst v) w') {ρ : Operand → Value} (hρ : a.eval = ρ) (v : Value) (hr : (execOp ρ o).run P w = .ok (.value v) w) (hv : Φ k v w) : o.wp P a w K Q := by
  subst hρ
  unfold Oper.wp
  rw [hr, Oper.upon_value]
  exact hK v w hv (Below.refl _ _)
/-- A call of a Go function. -/
theorem fx_call {o : Oper} {a : Act} {w : World} {k : Nat} {Φ : Nat → Value → World → Prop} {K : Act → World → Prop} (hK : ∀ v w', Φ k v w' → Below w.heap.size w w' → K (a.put o.dst v) w') {ρ : Operand → Value} (hρ : a.eval = ρ) (f : FuncId) (xs : Array Operand) (tys : Array TypeId) (vs : Array Value)
    (ho : o.op = .call { callee := .value (.func f), args := xs, argTypes := tys }) (hxs : xs.map ρ = vs) (eg : ∀ args w, (callFunc f args).run P w = .ok (.enter f args) w)
    (h : Calls P f vs w fun e w' => ∃ v, e = .returned v ∧ Φ k v w' ∧ Below w.heap.size w w') : o.wp P a w K Q := by
  subst hρ
  have hr : (execOp a.eval o).run P w = .ok (.enter f vs) w := by
    have := eg vs w
    simp [execOp, ho, resolve, hxs, invoke, Deferred.ofValue, Act.eval, this, go_sem]
  unfold Oper.wp
  rw [hr, Oper.upon_enter]
  refine h.mono fun e w' ⟨v, he, hv, hb⟩ => ?_
  subst he
  exact hK v w' hv hb
end
end Go.Proofs.YtlimcimioeepaaaGreatDoor
set_option linter.unusedVariables false
namespace Go.Proofs.YtlimcimioeepaaaGreatDoor
open Go Go.RowKit

section
variable {P : Program} {ops : Array Oper} {Q : Exit → Act → World → Prop}
set_option maxHeartbeats 1000000 in
theorem wp_region_late0 (ds : List Nat) (wt : List Bool) {id : Nat} {a0 : Act} {w0 : World} (hm : P.follows .mixedOrders = true) (hG : factsB ops ds wt = true) (hsz : ∀ d ∈ ds, d < a0.tmps.size)
    (I : World → Prop) (Φ : Nat → Value → World → Prop)
    (hI : ∀ w w', I w → Below w.heap.size w w' → I w') (hΦ : ∀ k v w w', Φ k v w → Below w.heap.size w w' → Φ k v w')
    (h0 : I { w0 with drawn := w0.drawn + 1 })
    (hW : ∀ (k : Nat) (o : Oper) (g : Nat) (b : Bool), ops[k]? = some o → o.guard = some (g, b) → ∀ v w, Φ g v w → v = .bool (if wt.getD k true = true then b else !b))
    (hskip : ∀ k, wt.getD k true = false → ∀ w, Φ k undef w)
    (hstep : ∀ (k : Nat) (o : Oper), ops[k]? = some o → wt.getD k true = true → ∀ (a : Act) (w : World), I w → AtDoor a0 ds a.eval → (∀ e ∈ o.after, Region.binds .any e = true → Φ e.on (a.eval (.tmp (ds.getD e.on 0))) w) →
      (∀ (j : Nat) (p : Oper), ops[j]? = some p → (p.after.any fun e => e.on == k && Region.binds .any e) = true → a.eval (.tmp (ds.getD j 0)) = a0.eval (.tmp (ds.getD j 0))) →
      ∀ K : Act → World → Prop, (∀ v w', Φ k v w' → Below w.heap.size w w' → K (a.put o.dst v) w') → o.wp P a w K Q)
    (hend : ∀ (vals : Nat → Value) (w : World), I w → (∀ k, k < ds.length → Φ k (vals (ds.getD k 0)) w) → Q .normal ⟨(fillA a0 ds vals).toArray, a0.defers⟩ w) :
    (Code.region id ops true).wp P Q a0 w0 := by
  have G := facts_of hG
  refine wp_region_inv (fun l a w => l.size = ds.length ∧ I w ∧ AtDoor a0 ds a.eval ∧ a.tmps.size = a0.tmps.size ∧ a.defers = a0.defers ∧ (∀ k, k < ds.length → l.getD k false = true → Φ k (a.eval (.tmp (ds.getD k 0))) w) ∧ (∀ k, k < ds.length → l.getD k false = false → a.eval (.tmp (ds.getD k 0)) = a0.eval (.tmp (ds.getD k 0))) ∧ (∀ (j : Nat) (p : Oper), ops[j]? = some p → l.getD j false = true → ∀ e ∈ p.after, Region.binds .any e = true → l.getD e.on false = true)) hm ?_ ?_ ?_
  · refine ⟨by rw [Array.size_replicate]; exact G.size, h0, atDoor_start a0 ds, rfl, rfl, fun k hk h => ?_, fun k hk _ => rfl, fun j p _ h => ?_⟩
    · exfalso
      by_cases h2 : k < ops.size <;> simp [h2] at h
    · exfalso
      by_cases h2 : j < ops.size <;> simp [h2] at h
  · rintro l a w i ⟨hls, hIw, hAD, hasz, hadf, hF, hU, hC⟩ hi
    obtain ⟨hun, o, ho, hpre⟩ := mem_ready.1 hi
    have hilt : i < ops.size := (Array.getElem?_eq_some_iff.1 ho).1
    have hin : i < ds.length := by rw [← G.size]; exact hilt
    have hil : i < l.size := by omega
    have hdep : ∀ e ∈ o.after, Region.binds .any e = true → Φ e.on (a.eval (.tmp (ds.getD e.on 0))) w := fun e he hb => hF e.on (Nat.lt_trans (G.back i o ho e he) hin) (hpre e he hb)
    have hnext : ∀ v w', Φ i v w' → Below w.heap.size w w' → (l.setIfInBounds i true).size = ds.length ∧ I w' ∧ AtDoor a0 ds (a.put o.dst v).eval ∧ (a.put o.dst v).tmps.size = a0.tmps.size ∧ (a.put o.dst v).defers = a0.defers ∧ (∀ k, k < ds.length → (l.setIfInBounds i true).getD k false = true → Φ k ((a.put o.dst v).eval (.tmp (ds.getD k 0))) w') ∧ (∀ k, k < ds.length → (l.setIfInBounds i true).getD k false = false → (a.put o.dst v).eval (.tmp (ds.getD k 0)) = a0.eval (.tmp (ds.getD k 0))) ∧ (∀ (j : Nat) (p : Oper), ops[j]? = some p → (l.setIfInBounds i true).getD j false = true → ∀ e ∈ p.after, Region.binds .any e = true → (l.setIfInBounds i true).getD e.on false = true) := fun v w' hphi hb => by
      rw [G.dst i o ho]
      refine ⟨by rw [Array.size_setIfInBounds]; exact hls, hI w w' hIw hb, hAD.put (fds_mem hin) v, ?_, hadf, fun k hk hkl => ?_, fun k hk hkl => ?_, fun j p hp hjl e he hb2 => (getD_set_iff hil).mpr (.inr ?_)⟩
      · show (a.tmps.setIfInBounds _ _).size = _
        rw [Array.size_setIfInBounds]; exact hasz
      · by_cases hki : k = i
        · subst hki
          rw [eval_put_same _ _ _ (by rw [hasz]; exact hsz _ (fds_mem hin))]
          exact hphi
        · rw [eval_put_other _ _ _ _ (fun e => hki (fds_inj G.nodup hk hin e))]
          exact hΦ k _ _ _ (hF k hk ((listed_set hkl).resolve_left hki)) hb
      · have hki : k ≠ i := fun e => by
          have h2 := (getD_set_iff (k := k) hil).mpr (.inl e)
          rw [hkl] at h2; cases h2
        rw [eval_put_other _ _ _ _ (fun e => hki (fds_inj G.nodup hk hin e))]
        refine hU k hk ?_
        cases h : l.getD k false with
        | false => rfl
        | true =>
          have h2 := (getD_set_iff (k := k) hil).mpr (.inr h)
          rw [hkl] at h2; cases h2
      · rcases (getD_set_iff hil).mp hjl with rfl | h
        · rw [ho] at hp
          obtain rfl := Option.some.inj hp
          exact hpre e he hb2
        · exact hC j p hp h e he hb2
    have hlate : ∀ (j : Nat) (p : Oper), ops[j]? = some p → (p.after.any fun e => e.on == i && Region.binds .any e) = true → a.eval (.tmp (ds.getD j 0)) = a0.eval (.tmp (ds.getD j 0)) := fun j p hp hany => by
      obtain ⟨e, he, h8⟩ := Array.any_eq_true'.1 hany
      rw [Bool.and_eq_true, beq_iff_eq] at h8
      refine hU j (by rw [← G.size]; exact (Array.getElem?_eq_some_iff.1 hp).1) ?_
      cases h : l.getD j false with
      | false => rfl
      | true =>
        have h2 := hC j p hp h e he h8.2
        rw [h8.1] at h2
        exfalso
        simp [hil] at h2 hun
        rw [h2] at hun
        cases hun
    unfold wpOp
    rw [ho]
    have hyield : ∀ g b, o.guard = some (g, b) → yielded ops a.tmps g = some (if wt.getD i true = true then b else !b) := fun g b hg => by
      obtain ⟨hgi, e, he, h1, h2⟩ := G.guard i o g b ho hg
      have hv := hW i o g b ho hg _ _ (by have := hdep e he h2; rwa [h1] at this)
      obtain ⟨og, hog⟩ : ∃ og, ops[g]? = some og := ⟨_, Array.getElem?_eq_getElem (by omega)⟩
      unfold yielded
      rw [hog, Option.bind_some, G.dst g og hog, Option.bind_some]
      have hlt : ds.getD g 0 < a.tmps.size := by rw [hasz]; exact hsz _ (fds_mem (by omega))
      rw [Array.getElem?_eq_getElem hlt]
      have : a.tmps[ds.getD g 0] = .bool (if wt.getD i true = true then b else !b) := by
        rw [← hv]
        show _ = a.tmps.getD (ds.getD g 0) undef
        rw [Array.getD_eq_getD_getElem?, Array.getElem?_eq_getElem hlt]
        rfl
      rw [this]
    cases hw : wt.getD i true with
    | true =>
      have hwant : Region.wanted o (yielded ops a.tmps) = true := by
        unfold Region.wanted
        cases hg : o.guard with
        | none => rfl
        | some gb =>
          obtain ⟨g, b⟩ := gb
          show (yielded ops a.tmps g == some b) = true
          rw [hyield g b hg, hw]
          simp
      simp only [hwant, if_true]
      exact .inl (hstep i o ho hw a w hIw hAD hdep hlate _ hnext)
    | false =>
      have hwant : Region.wanted o (yielded ops a.tmps) = false := by
        unfold Region.wanted
        cases hg : o.guard with
        | none =>
          have := G.free i o ho hg
          rw [hw] at this
          cases this
        | some gb =>
          obtain ⟨g, b⟩ := gb
          show (yielded ops a.tmps g == some b) = false
          rw [hyield g b hg, hw]
          cases b <;> rfl
      simp only [hwant]
      exact hnext undef w (hskip i hw w) (Below.refl _ _)
  · rintro l a w ⟨hls, hIw, hAD, hasz, hadf, hF, _, _⟩ hr
    have hall := all_listed (by rw [hls, G.size]) G.back hr
    rw [act_fill hAD hasz hadf]
    exact hend (fun t => a.eval (.tmp t)) w hIw fun k hk => hF k hk (hall k (by rw [G.size]; exact hk))
theorem wp_region_late (ds : List Nat) (wt : List Bool) (gv : List (Nat × Bool)) {id : Nat} {a0 : Act} {w0 : World} (hm : P.follows .mixedOrders = true) (hG : factsB ops ds wt = true) (hgB : guardsB ops wt gv = true) (hsz : ∀ d ∈ ds, d < a0.tmps.size)
    (I : World → Prop) (Φ : Nat → Value → World → Prop)
    (hI : ∀ w w', I w → Below w.heap.size w w' → I w') (hΦ : ∀ k v w w', Φ k v w → Below w.heap.size w w' → Φ k v w')
    (h0 : I { w0 with drawn := w0.drawn + 1 })
    (hgv : ∀ p ∈ gv, ∀ v w, Φ p.1 v w → v = .bool p.2)
    (hskip : ∀ k, wt.getD k true = false → ∀ w, Φ k undef w)
    (hstep : ∀ (k : Nat) (o : Oper), ops[k]? = some o → wt.getD k true = true → ∀ (a : Act) (w : World), I w → AtDoor a0 ds a.eval → (∀ e ∈ o.after, Region.binds .any e = true → Φ e.on (a.eval (.tmp (ds.getD e.on 0))) w) →
      (∀ (j : Nat) (p : Oper), ops[j]? = some p → (p.after.any fun e => e.on == k && Region.binds .any e) = true → a.eval (.tmp (ds.getD j 0)) = a0.eval (.tmp (ds.getD j 0))) →
      ∀ K : Act → World → Prop, (∀ v w', Φ k v w' → Below w.heap.size w w' → K (a.put o.dst v) w') → o.wp P a w K Q)
    (hend : ∀ (vals : Nat → Value) (w : World), I w → (∀ k, k < ds.length → Φ k (vals (ds.getD k 0)) w) → Q .normal ⟨(fillA a0 ds vals).toArray, a0.defers⟩ w) :
    (Code.region id ops true).wp P Q a0 w0 :=
  wp_region_late0 ds wt hm hG hsz I Φ hI hΦ h0 (fun k o g b ho hg v w hv => by
    have hk : k < ops.size := (Array.getElem?_eq_some_iff.1 ho).1
    have := List.all_eq_true.1 hgB k (List.mem_range.2 hk)
    rw [ho] at this
    simp only [hg] at this
    obtain ⟨p, hp, h2⟩ := List.any_eq_true.1 this
    rw [Bool.and_eq_true, beq_iff_eq, beq_iff_eq] at h2
    rw [← h2.2]
    exact hgv p hp v w (by rw [h2.1]; exact hv)) hskip hstep hend
end
end Go.Proofs.YtlimcimioeepaaaGreatDoor
namespace Go.Proofs.YtlimcimioeepaaaGreatDoor
open Go Go.RowKit

theorem eg_of {f : Nat} {fn : Func} {c : Code} (hf : Tryz.prog.funcs[f]? = some fn) (hname : (fn.name == "runtime.NumGoroutine") = false) (hb : fn.body = some c) : ∀ args w, (callFunc f args).run Tryz.prog w = .ok (.enter f args) w := enters_of hf hname hb
end Go.Proofs.YtlimcimioeepaaaGreatDoor
set_option linter.unusedVariables false
namespace Go.Proofs.YtlimcimioeepaaaGreatDoor
open Go Go.RowKit

section
variable {P : Program} {ops : Array Oper} {Q : Exit → Act → World → Prop}
/-- What the region's text must be (all by the kernel): ds are the slots of the first n operations, cs the chain's places. -/
def chainB (ops : Array Oper) (n : Nat) (ds cs : List Nat) : Bool :=
  (ops.size == n || ops.size == n + 1) && ds.length == n && (ops.toList.all fun o : Oper => o.guard.isNone) && backB ops && decide ds.Nodup &&
  ((List.range n).all fun k => (match ops[k]? with | some o => o.dst == some (ds.getD k 0) | none => false)) &&
  (match ops[n]? with | some o => (List.range n).all fun k => o.after.any fun e => e.on == k && Region.binds .any e | none => true) &&
  decide cs.Nodup && (cs.all fun k => decide (k < n)) &&
  ((List.range (cs.length - 1)).all fun i => (match ops[cs.getD (i + 1) 0]? with | some o => o.after.any (fun e => e.on == cs.getD i 0 && Region.binds .any e) | none => false))
structure Chain (ops : Array Oper) (n : Nat) (ds cs : List Nat) : Prop where
  size : ops.size = n ∨ ops.size = n + 1
  len : ds.length = n
  guard : ∀ (k : Nat) (o : Oper), ops[k]? = some o → o.guard = none
  back : ∀ (i : Nat) (o : Oper), ops[i]? = some o → ∀ e ∈ o.after, e.on < i
  nodup : ds.Nodup
  dst : ∀ (k : Nat) (o : Oper), k < n → ops[k]? = some o → o.dst = some (ds.getD k 0)
  last : ∀ (o : Oper), ops[n]? = some o → ∀ k, k < n → ∃ e ∈ o.after, e.on = k ∧ Region.binds .any e = true
  once : cs.Nodup
  low : ∀ k ∈ cs, k < n
  next : ∀ i, i + 1 < cs.length → ∀ o, ops[cs.getD (i + 1) 0]? = some o → ∃ e ∈ o.after, e.on = cs.getD i 0 ∧ Region.binds .any e = true
theorem chain_of {n : Nat} {ds cs : List Nat} (h : chainB ops n ds cs = true) : Chain ops n ds cs := by
  unfold chainB at h
  simp only [Bool.and_eq_true, Bool.or_eq_true, beq_iff_eq, decide_eq_true_iff] at h
  obtain ⟨⟨⟨⟨⟨⟨⟨⟨⟨h1, h2⟩, h3⟩, h4⟩, h5⟩, h6⟩, h7⟩, h8⟩, h9⟩, h10⟩ := h
  refine ⟨h1, h2, fun k o ho => ?_, back_of h4, h5, fun k o hk ho => ?_, fun o ho k hk => ?_, h8, fun k hk => of_decide_eq_true (List.all_eq_true.1 h9 k hk), fun i hi o ho => ?_⟩
  · have := List.all_eq_true.1 h3 o (by rw [Array.mem_toList_iff]; exact Array.mem_of_getElem? ho)
    exact Option.isNone_iff_eq_none.1 this
  · have := List.all_eq_true.1 h6 k (List.mem_range.2 hk)
    rw [ho] at this
    simpa using this
  · rw [ho] at h7
    have := List.all_eq_true.1 h7 k (List.mem_range.2 hk)
    obtain ⟨e, he, h8⟩ := Array.any_eq_true'.1 this
    rw [Bool.and_eq_true, beq_iff_eq] at h8
    exact ⟨e, he, h8.1, h8.2⟩
  · have := List.all_eq_true.1 h10 i (List.mem_range.2 (by omega))
    rw [ho] at this
    obtain ⟨e, he, h8⟩ := Array.any_eq_true'.1 this
    rw [Bool.and_eq_true, beq_iff_eq] at h8
    exact ⟨e, he, h8.1, h8.2⟩
set_option maxHeartbeats 2000000 in
theorem wp_region_chain (n : Nat) (ds cs : List Nat) {id : Nat} {a0 : Act} {w0 : World} (hm : P.follows .mixedOrders = true) (hG : chainB ops n ds cs = true) (hsz : ∀ d ∈ ds, d < a0.tmps.size)
    (J : Nat → World → Prop) (R : World → World → Prop) (Φ : Nat → Value → World → Prop)
    (hBR : ∀ w w', Below w.heap.size w w' → R w w') (hJ : ∀ j w w', J j w → Below w.heap.size w w' → J j w')
    (hΦ : ∀ k v w w', Φ k v w → R w w' → Φ k v w')
    (h0 : J 0 { w0 with drawn := w0.drawn + 1 })
    (hstep : ∀ (k : Nat) (o : Oper), k < n → k ∉ cs → ops[k]? = some o → ∀ (ρ : Operand → Value) (j : Nat) (w : World), J j w → AtDoor a0 ds ρ → (∀ e ∈ o.after, Region.binds .any e = true → Φ e.on (ρ (.tmp (ds.getD e.on 0))) w) →
      ∃ v w', (execOp ρ o).run P w = .ok (.value v) w' ∧ Φ k v w' ∧ Below w.heap.size w w')
    (hcall : ∀ (i : Nat) (o : Oper), i < cs.length → ops[cs.getD i 0]? = some o → ∀ (a : Act) (w : World), J i w → AtDoor a0 ds a.eval → (∀ e ∈ o.after, Region.binds .any e = true → Φ e.on (a.eval (.tmp (ds.getD e.on 0))) w) →
      ∀ K : Act → World → Prop, (∀ v w', Φ (cs.getD i 0) v w' → R w w' → J (i + 1) w' → K (a.put o.dst v) w') → o.wp P a w K Q)
    (hend : ops.size = n → ∀ (vals : Nat → Value) (w : World), J cs.length w → (∀ k, k < n → Φ k (vals (ds.getD k 0)) w) → Q .normal ⟨(fillA a0 ds vals).toArray, a0.defers⟩ w)
    (hlast : ∀ (o : Oper), ops[n]? = some o → ∀ (vals : Nat → Value) (w : World), J cs.length w → (∀ k, k < n → Φ k (vals (ds.getD k 0)) w) →
      o.wp P ⟨(fillA a0 ds vals).toArray, a0.defers⟩ w (fun a' w' => Q .normal a' w') Q) :
    (Code.region id ops true).wp P Q a0 w0 := by
  have G := chain_of hG
  have dmem : ∀ {k : Nat}, k < n → ds.getD k 0 ∈ ds := fun {k} hk => fds_mem (by rw [G.len]; exact hk)
  have dinj : ∀ {k j : Nat}, k < n → j < n → ds.getD k 0 = ds.getD j 0 → k = j := fun {k j} hk hj e => fds_inj G.nodup (by rw [G.len]; exact hk) (by rw [G.len]; exact hj) e
  refine wp_region_inv (fun l a w => l.size = ops.size ∧ ((l.getD n false = false ∧ AtDoor a0 ds a.eval ∧ a.tmps.size = a0.tmps.size ∧ a.defers = a0.defers ∧ (∀ k, k < n → l.getD k false = true → Φ k (a.eval (.tmp (ds.getD k 0))) w) ∧
    ∃ j, j ≤ cs.length ∧ (∀ i, i < cs.length → (l.getD (cs.getD i 0) false = true ↔ i < j)) ∧ J j w) ∨ ((∀ k, k ≤ n → l.getD k false = true) ∧ Q .normal a w))) hm ?_ ?_ ?_
  · refine ⟨by rw [Array.size_replicate], .inl ⟨?_, atDoor_start a0 ds, rfl, rfl, fun k hk h => ?_, 0, Nat.zero_le _, fun i hi => ⟨fun h => ?_, fun h => absurd h (Nat.not_lt_zero _)⟩, h0⟩⟩
    · by_cases h : n < ops.size <;> simp [h]
    · exfalso
      by_cases h2 : k < ops.size <;> simp [h2] at h
    · exfalso
      by_cases h2 : cs.getD i 0 < ops.size <;> simp only [Array.getD_eq_getD_getElem?, Array.getElem?_replicate, h2, if_true, if_false, Option.getD_some, Option.getD_none] at h <;> cases h
  · rintro l a w i ⟨hls, hV⟩ hi
    obtain ⟨hun, o, ho, hpre⟩ := mem_ready.1 hi
    have hilt : i < ops.size := (Array.getElem?_eq_some_iff.1 ho).1
    have hil : i < l.size := by rw [hls]; exact hilt
    have hun2 : l.getD i false = false := by
      cases h : l.getD i false with
      | false => rfl
      | true => simp [hil] at h hun; rw [h] at hun; cases hun
    rcases hV with ⟨hnl, hAD, hasz, hadf, hF, j, hj, hjs, hJw⟩ | ⟨hall, _⟩
    · rcases Nat.lt_or_ge i n with hin | hin
      · have hdep : ∀ e ∈ o.after, Region.binds .any e = true → Φ e.on (a.eval (.tmp (ds.getD e.on 0))) w := fun e he hb => hF e.on (Nat.lt_trans (G.back i o ho e he) hin) (hpre e he hb)
        have hnl2 : (l.setIfInBounds i true).getD n false = false := by
          cases h : (l.setIfInBounds i true).getD n false with
          | false => rfl
          | true =>
            rcases listed_set h with h2 | h2
            · omega
            · rw [hnl] at h2; cases h2
        have hfs : ∀ v w', Φ i v w' → R w w' → ∀ k, k < n → (l.setIfInBounds i true).getD k false = true → Φ k ((a.put (some (ds.getD i 0)) v).eval (.tmp (ds.getD k 0))) w' := fun v w' hphi hR k hk hkl => by
          by_cases hki : k = i
          · subst hki
            rw [eval_put_same _ _ _ (by rw [hasz]; exact hsz _ (dmem hin))]
            exact hphi
          · rw [eval_put_other _ _ _ _ (fun e => hki (dinj hk hin e))]
            exact hΦ k _ _ _ (hF k hk ((listed_set hkl).resolve_left hki)) hR
        have hsz2 : ∀ v, (a.put (some (ds.getD i 0)) v).tmps.size = a0.tmps.size := fun v => by
          show (a.tmps.setIfInBounds _ _).size = _
          rw [Array.size_setIfInBounds]; exact hasz
        refine wpOp_at ho (G.guard i o ho) ?_
        by_cases hic : i ∈ cs
        · obtain ⟨q, hq⟩ := List.mem_iff_getElem?.1 hic
          have hql : q < cs.length := (List.getElem?_eq_some_iff.1 hq).1
          have hqd : cs.getD q 0 = i := by rw [List.getD_eq_getElem?_getD, hq]; rfl
          have h1 : ¬ q < j := fun h => by
            have := (hjs q hql).2 h
            rw [hqd, hun2] at this
            cases this
          have h2 : ¬ j < q := fun h => by
            obtain ⟨e, he, e1, e2⟩ := G.next (q - 1) (by omega) o (by rw [show q - 1 + 1 = q by omega, hqd]; exact ho)
            have h3 := hpre e he e2
            rw [e1] at h3
            have := (hjs (q - 1) (by omega)).1 h3
            omega
          obtain rfl : j = q := by omega
          refine hcall j o hql (by rw [hqd]; exact ho) a w hJw hAD hdep _ (fun v w' hphi hR hJ' => ?_)
          rw [hqd] at hphi
          rw [G.dst i o hin ho]
          refine ⟨by rw [Array.size_setIfInBounds]; exact hls, .inl ⟨hnl2, hAD.put (dmem hin) v, hsz2 v, hadf, hfs v w' hphi hR, j + 1, hql, fun q hq2 => ?_, hJ'⟩⟩
          rw [getD_set_iff hil, hjs q hq2]
          constructor
          · rintro (e | h)
            · have e2 : q = j := by
                rw [← hqd] at e
                exact fds_inj G.once hq2 hql e
              omega
            · omega
          · intro h
            by_cases e : q = j
            · subst e
              exact .inl hqd
            · exact .inr (by omega)
        · obtain ⟨v, w', hrun, hphi, hrel⟩ := hstep i o hin hic ho a.eval j w hJw hAD hdep
          unfold Oper.wp
          rw [hrun, Oper.upon_value, G.dst i o hin ho]
          refine ⟨by rw [Array.size_setIfInBounds]; exact hls, .inl ⟨hnl2, hAD.put (dmem hin) v, hsz2 v, hadf, hfs v w' hphi (hBR w w' hrel), j, hj, fun q hq2 => ?_, hJ j w w' hJw hrel⟩⟩
          rw [← hjs q hq2, getD_set_iff hil]
          constructor
          · rintro (e | h)
            · exact absurd (by rw [← e]; exact fds_mem hq2) hic
            · exact h
          · exact .inr
      · have hs := G.size
        obtain rfl : i = n := by omega
        have hall : ∀ k, k < i → l.getD k false = true := fun k hk => by
          obtain ⟨e, he, h1, h2⟩ := G.last o ho k hk
          rw [← h1]
          exact hpre e he h2
        obtain rfl : j = cs.length := by
          rcases Nat.lt_or_ge j cs.length with h | h
          · have := (hjs j h).1 (hall _ (G.low _ (fds_mem h)))
            omega
          · omega
        have hl := hlast o ho (fun t => a.eval (.tmp t)) w hJw (fun k hk => hF k hk (hall k hk))
        rw [← act_fill hAD hasz hadf] at hl
        refine wpOp_at ho (G.guard i o ho) (Oper.wp_mono (fun a' w' hq => ?_) hl)
        refine ⟨by rw [Array.size_setIfInBounds]; exact hls, .inr ⟨fun k hk => (getD_set_iff hil).mpr ?_, hq⟩⟩
        rcases Nat.lt_or_ge k i with h | h
        · exact .inr (hall k h)
        · exact .inl (by omega)
    · exfalso
      have := hall i (by have := G.size; omega)
      rw [hun2] at this
      cases this
  · rintro l a w ⟨hls, hV⟩ hr
    have hall := all_listed hls G.back hr
    rcases hV with ⟨hnl, hAD, hasz, hadf, hF, j, hj, hjs, hJw⟩ | ⟨_, hq⟩
    · rcases G.size with hs | hs
      · obtain rfl : j = cs.length := by
          rcases Nat.lt_or_ge j cs.length with h | h
          · have := (hjs j h).1 (hall _ (by rw [hs]; exact G.low _ (fds_mem h)))
            omega
          · omega
        rw [act_fill hAD hasz hadf]
        exact hend hs (fun t => a.eval (.tmp t)) w hJw fun k hk => hF k hk (hall k (by omega))
      · have := hall n (by omega)
        rw [hnl] at this
        cases this
    · exact hq
/-- A call through a function value: its bound arguments ahead, what it captured behind. -/
theorem cx_clo {o : Oper} {a : Act} {w : World} {K : Act → World → Prop} {ρ : Operand → Value} (hρ : a.eval = ρ) (c : Nat) (xs : Array Operand) (tys : Array TypeId) (f : FuncId) (bs cs vs : Array Value)
    (ho : o.op = .call { callee := .value (.tmp c), args := xs, argTypes := tys }) (hc : ρ (.tmp c) = .func (.func f) bs cs) (hxs : xs.map ρ = vs) (eg : ∀ args w, (callFunc f args).run P w = .ok (.enter f args) w)
    (h : Calls P f (bs ++ vs ++ cs) w fun e w' => ∃ v, e = .returned v ∧ K (a.put o.dst v) w') : o.wp P a w K Q := by
  subst hρ
  have hr : (execOp a.eval o).run P w = .ok (.enter f (bs ++ vs ++ cs)) w := by
    have := eg (bs ++ vs ++ cs) w
    rw [Array.append_assoc] at this
    have hc2 : a.tmps[c]?.getD undef = .func (.func f) bs cs := by simpa [Act.eval] using hc
    simp [execOp, ho, resolve, hxs, invoke, Deferred.ofValue, Act.eval, hc2, this, go_sem]
  unfold Oper.wp
  rw [hr, Oper.upon_enter]
  refine h.mono fun e w' ⟨v, he, hv⟩ => ?_
  subst he
  exact hv
/-- A call of a Go function by its name. -/
theorem cx_fun {o : Oper} {a : Act} {w : World} {K : Act → World → Prop} {ρ : Operand → Value} (hρ : a.eval = ρ) (f : FuncId) (xs : Array Operand) (tys : Array TypeId) (vs : Array Value)
    (ho : o.op = .call { callee := .value (.func f), args := xs, argTypes := tys }) (hxs : xs.map ρ = vs) (eg : ∀ args w, (callFunc f args).run P w = .ok (.enter f args) w)
    (h : Calls P f vs w fun e w' => ∃ v, e = .returned v ∧ K (a.put o.dst v) w') : o.wp P a w K Q := by
  subst hρ
  have hr : (execOp a.eval o).run P w = .ok (.enter f vs) w := by
    have := eg vs w
    simp [execOp, ho, resolve, hxs, invoke, Deferred.ofValue, Act.eval, this, go_sem]
  unfold Oper.wp
  rw [hr, Oper.upon_enter]
  refine h.mono fun e w' ⟨v, he, hv⟩ => ?_
  subst he
  exact hv
end
end Go.Proofs.YtlimcimioeepaaaGreatDoor
set_option linter.unusedVariables false
namespace Go.Proofs.YtlimcimioeepaaaGreatDoor
open Go Go.RowKit

section
variable {P : Program}
/-- 'x = v' at a struct variable that is a block of its own. -/
theorem run_store_box {ρ : Operand → Value} {o : Oper} {t : TypeId} (s y : Operand) (ho : o.op = .store t s y) (q : Nat) (old cs : Array Value) (te : TypeId) (w : World) (hs : ρ s = .pointer (some ⟨q, 0, none⟩)) (hy : ρ y = .agg cs)
    (hz : ∀ w, (sizeOf t).run P w = .ok cs.size w) (hq : w.heap[q]? = some (.cells old te (0, 0))) (hl : old.size = cs.size) (h1 : ∀ v ∈ cs.toList, v.oneCell' = true) : (execOp ρ o).run P w = .ok .skip (w.setRow q cs) := by
  have hst := run_storeCells_at (P := P) q 0 te cs.toList 0 old w hq (by simp [hl]) h1
  have e : (old.toList.take (0 + 0) ++ cs.toList ++ old.toList.drop (0 + 0 + cs.toList.length)).toArray = cs := by
    have hl2 : old.toList.length ≤ 0 + 0 + cs.toList.length := by simp [hl]
    rw [List.drop_of_length_le hl2]
    simp
  rw [e] at hst
  have hsv : (storeVar t ⟨q, 0, none⟩ (.agg cs)).run P w = .ok () (w.setRow q cs) := by
    unfold storeVar
    simp only [Sem.run_bind, hz, Result.andThen, Value.cells]
    simp only [ne_eq, not_true_eq_false, if_false]
    exact hst
  simp only [execOp, ho, hs, hy, Instr.storeAt, Instr.sureAddr, Sem.run_bind, Sem.run_pure, Result.andThen, hsv]
theorem setRow_at {w : World} {q : Nat} {old cs : Array Value} {te : TypeId} {fr : Nat × Nat} (hq : w.heap[q]? = some (.cells old te fr)) : (w.setRow q cs).heap[q]? = some (.cells cs te fr) := setRow_heap w q old cs te fr hq
theorem setRow_far (w : World) (q : Nat) (cs : Array Value) {k : Nat} (hk : k ≠ q) : (w.setRow q cs).heap[k]? = w.heap[k]? := setRow_other w q k cs hk
theorem setRow_below {B q : Nat} {w : World} (cs : Array Value) (hB : B ≤ q) : Below B w (w.setRow q cs) := ⟨rfl, rfl, rfl, by simp, fun k hk => setRow_other w q k cs (by omega)⟩
theorem setRow_grown (w : World) (q : Nat) (cs : Array Value) : w.grownBy (w.setRow q cs) (some q) := ⟨rfl, rfl, rfl, by simp, fun k _ hk => setRow_other w q k cs (fun e => hk (by rw [e]))⟩
/-- A step that only stores. -/
theorem ox_skip {Q : Exit → Act → World → Prop} {o : Oper} {a : Act} {w w' : World} {K : Act → World → Prop} (hd : o.dst = none) {ρ : Operand → Value} (hρ : a.eval = ρ) (hr : (execOp ρ o).run P w = .ok .skip w') (hK : K a w') : o.wp P a w K Q := by
  subst hρ
  unfold Oper.wp
  rw [hr, Oper.upon_skip, hd]
  exact hK
/-- One cell read. -/
theorem run_load_cell {ρ : Operand → Value} {o : Oper} {t : TypeId} (s : Operand) (ho : o.op = .load t s) (a : Addr) (v : Value) (w : World) (hs : ρ s = .pointer (some a)) (hn : ∀ w, (isAgg t).run P w = .ok false w) (hc : w.cell? a = some v) : (execOp ρ o).run P w = .ok (.value v) w := by
  have hl : (loadVar t a).run P w = .ok v w := by
    unfold loadVar
    simp [hn, Result.andThen, hc]
  simp only [execOp, ho, hs, Instr.loadAt, Instr.sureAddr, Sem.run_bind, Sem.run_pure, Result.andThen, hl]
/-- A struct read whole. -/
theorem run_load_box {ρ : Operand → Value} {o : Oper} {t : TypeId} (s : Operand) (ho : o.op = .load t s) (q : Nat) (cs : Array Value) (te : TypeId) (fr : Nat × Nat) (w : World) (hs : ρ s = .pointer (some ⟨q, 0, none⟩)) (hn : ∀ w, (isAgg t).run P w = .ok true w) (hz : ∀ w, (sizeOf t).run P w = .ok cs.size w)
    (hq : w.heap[q]? = some (.cells cs te fr)) : (execOp ρ o).run P w = .ok (.value (.agg cs)) w := by
  have h := run_loadCells_list (P := P) w ⟨q, 0, none⟩ cs.toList (fun j v hv => by
    have e : ((⟨q, 0, none⟩ : Addr).add j) = ⟨q, j, none⟩ := by simp [Addr.add]; omega
    rw [e]
    simp [World.cell?, hq]
    simpa using hv)
  have hl : (loadVar t ⟨q, 0, none⟩).run P w = .ok (.agg cs) w := by
    unfold loadVar
    simp only [Sem.run_bind, hn, Result.andThen, if_true, hz]
    have h2 : (loadCells ⟨q, 0, none⟩ cs.size).run P w = .ok cs w := by simpa using h
    simp only [h2, Sem.run_pure]
  simp only [execOp, ho, hs, Instr.loadAt, Instr.sureAddr, Sem.run_bind, Sem.run_pure, Result.andThen, hl]
end
end Go.Proofs.YtlimcimioeepaaaGreatDoor
set_option linter.unusedVariables false
namespace Go.Proofs.YtlimcimioeepaaaGreatDoor
open Go Go.RowKit

section
variable {P : Program} {ops : Array Oper} {Q : Exit → Act → World → Prop}
/-- What the region's text must be (all by the kernel): ds are the slots of the first n operations, cs the chain's places. -/
def chainB2 (ops : Array Oper) (n : Nat) (ds cs : List Nat) : Bool :=
  (ops.size == n || ops.size == n + 1) && ds.length == n && (ops.toList.all fun o : Oper => o.guard.isNone) && backB ops && decide ds.Nodup &&
  ((List.range n).all fun k => (match ops[k]? with | some o => o.dst == some (ds.getD k 0) || (o.dst == none && cs.contains k && decide (1000 ≤ ds.getD k 0)) | none => false)) &&
  (match ops[n]? with | some o => (List.range n).all fun k => o.after.any fun e => e.on == k && Region.binds .any e | none => true) &&
  decide cs.Nodup && (cs.all fun k => decide (k < n)) &&
  ((List.range n).all fun k => (match ops[k]? with | some o => o.dst == none || decide (ds.getD k 0 < 1000) | none => true)) &&
  ((List.range (cs.length - 1)).all fun i => (match ops[cs.getD (i + 1) 0]? with | some o => o.after.any (fun e => e.on == cs.getD i 0 && Region.binds .any e) | none => false))
structure Chain2 (ops : Array Oper) (n : Nat) (ds cs : List Nat) : Prop where
  size : ops.size = n ∨ ops.size = n + 1
  len : ds.length = n
  guard : ∀ (k : Nat) (o : Oper), ops[k]? = some o → o.guard = none
  back : ∀ (i : Nat) (o : Oper), ops[i]? = some o → ∀ e ∈ o.after, e.on < i
  nodup : ds.Nodup
  dst : ∀ (k : Nat) (o : Oper), k < n → ops[k]? = some o → o.dst = some (ds.getD k 0) ∨ (o.dst = none ∧ k ∈ cs ∧ 1000 ≤ ds.getD k 0)
  real : ∀ (k : Nat) (o : Oper), k < n → ops[k]? = some o → o.dst = some (ds.getD k 0) → ds.getD k 0 < 1000
  last : ∀ (o : Oper), ops[n]? = some o → ∀ k, k < n → ∃ e ∈ o.after, e.on = k ∧ Region.binds .any e = true
  once : cs.Nodup
  low : ∀ k ∈ cs, k < n
  next : ∀ i, i + 1 < cs.length → ∀ o, ops[cs.getD (i + 1) 0]? = some o → ∃ e ∈ o.after, e.on = cs.getD i 0 ∧ Region.binds .any e = true
theorem chain_of2 {n : Nat} {ds cs : List Nat} (h : chainB2 ops n ds cs = true) : Chain2 ops n ds cs := by
  unfold chainB2 at h
  simp only [Bool.and_eq_true, Bool.or_eq_true, beq_iff_eq, decide_eq_true_iff] at h
  obtain ⟨⟨⟨⟨⟨⟨⟨⟨⟨⟨h1, h2⟩, h3⟩, h4⟩, h5⟩, h6⟩, h7⟩, h8⟩, h9⟩, h11⟩, h10⟩ := h
  refine ⟨h1, h2, fun k o ho => ?_, back_of h4, h5, fun k o hk ho => ?_, fun k o hk ho hd => ?_, fun o ho k hk => ?_, h8, fun k hk => of_decide_eq_true (List.all_eq_true.1 h9 k hk), fun i hi o ho => ?_⟩
  · have := List.all_eq_true.1 h3 o (by rw [Array.mem_toList_iff]; exact Array.mem_of_getElem? ho)
    exact Option.isNone_iff_eq_none.1 this
  · have := List.all_eq_true.1 h6 k (List.mem_range.2 hk)
    rw [ho] at this
    simpa [and_assoc] using this
  · have := List.all_eq_true.1 h11 k (List.mem_range.2 hk)
    rw [ho] at this
    simpa [hd] using this
  · rw [ho] at h7
    have := List.all_eq_true.1 h7 k (List.mem_range.2 hk)
    obtain ⟨e, he, h8⟩ := Array.any_eq_true'.1 this
    rw [Bool.and_eq_true, beq_iff_eq] at h8
    exact ⟨e, he, h8.1, h8.2⟩
  · have := List.all_eq_true.1 h10 i (List.mem_range.2 (by omega))
    rw [ho] at this
    obtain ⟨e, he, h8⟩ := Array.any_eq_true'.1 this
    rw [Bool.and_eq_true, beq_iff_eq] at h8
    exact ⟨e, he, h8.1, h8.2⟩
set_option maxHeartbeats 2000000 in
theorem wp_region_chain2 (n : Nat) (ds cs : List Nat) {id : Nat} {a0 : Act} {w0 : World} (hm : P.follows .mixedOrders = true) (hG : chainB2 ops n ds cs = true) (hsz : ∀ d ∈ ds, d < a0.tmps.size ∨ 1000 ≤ d) (hbig : a0.tmps.size ≤ 1000)
    (J : Nat → World → Prop) (R : World → World → Prop) (Φ : Nat → Value → World → Prop)
    (hBR : ∀ w w', Below w.heap.size w w' → R w w') (hJ : ∀ j w w', J j w → Below w.heap.size w w' → J j w')
    (hΦ : ∀ k v w w', Φ k v w → R w w' → Φ k v w')
    (h0 : J 0 { w0 with drawn := w0.drawn + 1 })
    (hstep : ∀ (k : Nat) (o : Oper), k < n → k ∉ cs → ops[k]? = some o → ∀ (ρ : Operand → Value) (j : Nat) (w : World), J j w → AtDoor a0 ds ρ → (∀ e ∈ o.after, Region.binds .any e = true → Φ e.on (ρ (.tmp (ds.getD e.on 0))) w) →
      ∃ v w', (execOp ρ o).run P w = .ok (.value v) w' ∧ Φ k v w' ∧ Below w.heap.size w w')
    (hcall : ∀ (i : Nat) (o : Oper), i < cs.length → ops[cs.getD i 0]? = some o → ∀ (a : Act) (w : World), J i w → AtDoor a0 ds a.eval → (∀ e ∈ o.after, Region.binds .any e = true → Φ e.on (a.eval (.tmp (ds.getD e.on 0))) w) →
      ∀ K : Act → World → Prop, (∀ v w', Φ (cs.getD i 0) v w' → R w w' → J (i + 1) w' → (o.dst = none → v = undef) → K (a.put o.dst v) w') → o.wp P a w K Q)
    (hend : ops.size = n → ∀ (vals : Nat → Value) (w : World), J cs.length w → (∀ k, k < n → Φ k (vals (ds.getD k 0)) w) → Q .normal ⟨(fillA a0 ds vals).toArray, a0.defers⟩ w)
    (hlast : ∀ (o : Oper), ops[n]? = some o → ∀ (vals : Nat → Value) (w : World), J cs.length w → (∀ k, k < n → Φ k (vals (ds.getD k 0)) w) →
      o.wp P ⟨(fillA a0 ds vals).toArray, a0.defers⟩ w (fun a' w' => Q .normal a' w') Q) :
    (Code.region id ops true).wp P Q a0 w0 := by
  have G := chain_of2 hG
  have dmem : ∀ {k : Nat}, k < n → ds.getD k 0 ∈ ds := fun {k} hk => fds_mem (by rw [G.len]; exact hk)
  have dinj : ∀ {k j : Nat}, k < n → j < n → ds.getD k 0 = ds.getD j 0 → k = j := fun {k j} hk hj e => fds_inj G.nodup (by rw [G.len]; exact hk) (by rw [G.len]; exact hj) e
  refine wp_region_inv (fun l a w => l.size = ops.size ∧ ((l.getD n false = false ∧ AtDoor a0 ds a.eval ∧ a.tmps.size = a0.tmps.size ∧ a.defers = a0.defers ∧ (∀ k, k < n → l.getD k false = true → Φ k (a.eval (.tmp (ds.getD k 0))) w) ∧
    ∃ j, j ≤ cs.length ∧ (∀ i, i < cs.length → (l.getD (cs.getD i 0) false = true ↔ i < j)) ∧ J j w) ∨ ((∀ k, k ≤ n → l.getD k false = true) ∧ Q .normal a w))) hm ?_ ?_ ?_
  · refine ⟨by rw [Array.size_replicate], .inl ⟨?_, atDoor_start a0 ds, rfl, rfl, fun k hk h => ?_, 0, Nat.zero_le _, fun i hi => ⟨fun h => ?_, fun h => absurd h (Nat.not_lt_zero _)⟩, h0⟩⟩
    · by_cases h : n < ops.size <;> simp [h]
    · exfalso
      by_cases h2 : k < ops.size <;> simp [h2] at h
    · exfalso
      by_cases h2 : cs.getD i 0 < ops.size <;> simp only [Array.getD_eq_getD_getElem?, Array.getElem?_replicate, h2, if_true, if_false, Option.getD_some, Option.getD_none] at h <;> cases h
  · rintro l a w i ⟨hls, hV⟩ hi
    obtain ⟨hun, o, ho, hpre⟩ := mem_ready.1 hi
    have hilt : i < ops.size := (Array.getElem?_eq_some_iff.1 ho).1
    have hil : i < l.size := by rw [hls]; exact hilt
    have hun2 : l.getD i false = false := by
      cases h : l.getD i false with
      | false => rfl
      | true => simp [hil] at h hun; rw [h] at hun; cases hun
    rcases hV with ⟨hnl, hAD, hasz, hadf, hF, j, hj, hjs, hJw⟩ | ⟨hall, _⟩
    · rcases Nat.lt_or_ge i n with hin | hin
      · have hdep : ∀ e ∈ o.after, Region.binds .any e = true → Φ e.on (a.eval (.tmp (ds.getD e.on 0))) w := fun e he hb => hF e.on (Nat.lt_trans (G.back i o ho e he) hin) (hpre e he hb)
        have hnl2 : (l.setIfInBounds i true).getD n false = false := by
          cases h : (l.setIfInBounds i true).getD n false with
          | false => rfl
          | true =>
            rcases listed_set h with h2 | h2
            · omega
            · rw [hnl] at h2; cases h2
        have hun3 : ∀ (a1 : Act), a1.tmps.size = a0.tmps.size → ∀ d : Nat, 1000 ≤ d → a1.eval (.tmp d) = undef := fun a1 h1 d hd => by
          show a1.tmps.getD d undef = undef
          rw [Array.getD_eq_getD_getElem?, Array.getElem?_eq_none (by omega)]
          rfl
        have hfs : ∀ v w', Φ i v w' → R w w' → (o.dst = none → v = undef) → ∀ k, k < n → (l.setIfInBounds i true).getD k false = true → Φ k ((a.put o.dst v).eval (.tmp (ds.getD k 0))) w' := fun v w' hphi hR hnv k hk hkl => by
          rcases G.dst i o hin ho with hd | ⟨hd, hdc, hd2⟩
          · rw [hd]
            by_cases hki : k = i
            · subst hki
              rcases hsz _ (dmem hin) with h3 | h3
              · rw [eval_put_same _ _ _ (by rw [hasz]; exact h3)]
                exact hphi
              · exfalso
                have h4 := G.real k o hin ho hd
                omega
            · rw [eval_put_other _ _ _ _ (fun e => hki (dinj hk hin e))]
              exact hΦ k _ _ _ (hF k hk ((listed_set hkl).resolve_left hki)) hR
          · rw [hd]
            show Φ k (a.eval (.tmp (ds.getD k 0))) w'
            by_cases hki : k = i
            · subst hki
              rw [hun3 a hasz _ hd2, ← hnv hd]
              exact hphi
            · exact hΦ k _ _ _ (hF k hk ((listed_set hkl).resolve_left hki)) hR
        have hsz2 : ∀ v, (a.put o.dst v).tmps.size = a0.tmps.size := fun v => by
          rcases G.dst i o hin ho with hd | ⟨hd, _⟩
          · rw [hd]
            show (a.tmps.setIfInBounds _ _).size = _
            rw [Array.size_setIfInBounds]; exact hasz
          · rw [hd]; exact hasz
        have hdf2 : ∀ v, (a.put o.dst v).defers = a0.defers := fun v => by
          rcases G.dst i o hin ho with hd | ⟨hd, _⟩
          · rw [hd]; exact hadf
          · rw [hd]; exact hadf
        have hAD2 : ∀ v, AtDoor a0 ds (a.put o.dst v).eval := fun v => by
          rcases G.dst i o hin ho with hd | ⟨hd, _⟩
          · rw [hd]; exact hAD.put (dmem hin) v
          · rw [hd]; exact hAD
        refine wpOp_at ho (G.guard i o ho) ?_
        by_cases hic : i ∈ cs
        · obtain ⟨q, hq⟩ := List.mem_iff_getElem?.1 hic
          have hql : q < cs.length := (List.getElem?_eq_some_iff.1 hq).1
          have hqd : cs.getD q 0 = i := by rw [List.getD_eq_getElem?_getD, hq]; rfl
          have h1 : ¬ q < j := fun h => by
            have := (hjs q hql).2 h
            rw [hqd, hun2] at this
            cases this
          have h2 : ¬ j < q := fun h => by
            obtain ⟨e, he, e1, e2⟩ := G.next (q - 1) (by omega) o (by rw [show q - 1 + 1 = q by omega, hqd]; exact ho)
            have h3 := hpre e he e2
            rw [e1] at h3
            have := (hjs (q - 1) (by omega)).1 h3
            omega
          obtain rfl : j = q := by omega
          refine hcall j o hql (by rw [hqd]; exact ho) a w hJw hAD hdep _ (fun v w' hphi hR hJ' hnv => ?_)
          rw [hqd] at hphi
          refine ⟨by rw [Array.size_setIfInBounds]; exact hls, .inl ⟨hnl2, hAD2 v, hsz2 v, hdf2 v, hfs v w' hphi hR hnv, j + 1, hql, fun q hq2 => ?_, hJ'⟩⟩
          rw [getD_set_iff hil, hjs q hq2]
          constructor
          · rintro (e | h)
            · have e2 : q = j := by
                rw [← hqd] at e
                exact fds_inj G.once hq2 hql e
              omega
            · omega
          · intro h
            by_cases e : q = j
            · subst e
              exact .inl hqd
            · exact .inr (by omega)
        · obtain ⟨v, w', hrun, hphi, hrel⟩ := hstep i o hin hic ho a.eval j w hJw hAD hdep
          unfold Oper.wp
          rw [hrun, Oper.upon_value]
          refine ⟨by rw [Array.size_setIfInBounds]; exact hls, .inl ⟨hnl2, hAD2 v, hsz2 v, hdf2 v, hfs v w' hphi (hBR w w' hrel) (fun hd => by
            rcases G.dst i o hin ho with h | ⟨_, h, _⟩
            · rw [hd] at h; cases h
            · exact absurd h hic), j, hj, fun q hq2 => ?_, hJ j w w' hJw hrel⟩⟩
          rw [← hjs q hq2, getD_set_iff hil]
          constructor
          · rintro (e | h)
            · exact absurd (by rw [← e]; exact fds_mem hq2) hic
            · exact h
          · exact .inr
      · have hs := G.size
        obtain rfl : i = n := by omega
        have hall : ∀ k, k < i → l.getD k false = true := fun k hk => by
          obtain ⟨e, he, h1, h2⟩ := G.last o ho k hk
          rw [← h1]
          exact hpre e he h2
        obtain rfl : j = cs.length := by
          rcases Nat.lt_or_ge j cs.length with h | h
          · have := (hjs j h).1 (hall _ (G.low _ (fds_mem h)))
            omega
          · omega
        have hl := hlast o ho (fun t => a.eval (.tmp t)) w hJw (fun k hk => hF k hk (hall k hk))
        rw [← act_fill hAD hasz hadf] at hl
        refine wpOp_at ho (G.guard i o ho) (Oper.wp_mono (fun a' w' hq => ?_) hl)
        refine ⟨by rw [Array.size_setIfInBounds]; exact hls, .inr ⟨fun k hk => (getD_set_iff hil).mpr ?_, hq⟩⟩
        rcases Nat.lt_or_ge k i with h | h
        · exact .inr (hall k h)
        · exact .inl (by omega)
    · exfalso
      have := hall i (by have := G.size; omega)
      rw [hun2] at this
      cases this
  · rintro l a w ⟨hls, hV⟩ hr
    have hall := all_listed hls G.back hr
    rcases hV with ⟨hnl, hAD, hasz, hadf, hF, j, hj, hjs, hJw⟩ | ⟨_, hq⟩
    · rcases G.size with hs | hs
      · obtain rfl : j = cs.length := by
          rcases Nat.lt_or_ge j cs.length with h | h
          · have := (hjs j h).1 (hall _ (by rw [hs]; exact G.low _ (fds_mem h)))
            omega
          · omega
        rw [act_fill hAD hasz hadf]
        exact hend hs (fun t => a.eval (.tmp t)) w hJw fun k hk => hF k hk (hall k (by omega))
      · have := hall n (by omega)
        rw [hnl] at this
        cases this
    · exact hq
end
end Go.Proofs.YtlimcimioeepaaaGreatDoor
