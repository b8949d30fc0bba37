/- A region that draws its order, whose operations read or make new blocks (one of them may let one row grow), and whose last operation waits for all: by facts on what each has yielded.
   As Gather, where the last operation waits for all by way of others, in the seat YtmmogdccjiagnaaDoor.
   General words of memory for layer 11 (as layers 5 and 8 have them, under names of their own) in the seat YtmmogdccjiagnaaDoor: new rows, a store of two slices.
   No statement is proved here. -/
import Derived.Test.YtmmogdccjiagnaaDoorZM1
import Derived.Below
import Derived.Laws.AppendOwn
import Derived.Test.YtmmogdccjiagnaaDoorZM12
import Derived.Laws.Rows
import Derived.Laws.ResultCell
set_option linter.unusedSimpArgs false
set_option linter.unusedVariables false
namespace Go.Proofs.YtmmogdccjiagnaaDoor
open Go Go.RowKit

section
variable {P : Program} {ops : Array Oper} {Q : Exit → Act → World → Prop}
/-- What operands read as, but for the slots ds: as at the region's door. -/
structure AtDoor (a0 : Act) (ds : List Nat) (ρ : Operand → Value) : Prop where
  const : ∀ v, ρ (.const v) = v
  tmp : ∀ t, t ∉ ds → ρ (.tmp t) = a0.eval (.tmp t)
theorem atDoor_start (a0 : Act) (ds : List Nat) : AtDoor a0 ds a0.eval := ⟨fun _ => rfl, fun _ _ => rfl⟩
theorem eval_put_same (a : Act) (d : Nat) (v : Value) (h : d < a.tmps.size) : (a.put (some d) v).eval (.tmp d) = v := by
  show (a.tmps.setIfInBounds d v).getD d undef = v
  simp [h]
theorem eval_put_other (a : Act) (d t : Nat) (v : Value) (h : t ≠ d) : (a.put (some d) v).eval (.tmp t) = a.eval (.tmp t) := by
  show (a.tmps.setIfInBounds d v).getD t undef = a.tmps.getD t undef
  simp [Array.getElem?_setIfInBounds_ne (Ne.symm h)]
theorem AtDoor.put {a0 a : Act} {ds : List Nat} (h : AtDoor a0 ds a.eval) {d : Nat} (hd : d ∈ ds) (v : Value) : AtDoor a0 ds (a.put (some d) v).eval :=
  ⟨fun _ => rfl, fun t ht => (eval_put_other a d t v (fun e => ht (e ▸ hd))).trans (h.tmp t ht)⟩
/-- What the region's text must be (all by the kernel). -/
def gatherB (ops : Array Oper) (n : Nat) (ds : List Nat) : Bool :=
  ops.size == n + 1 && ds.length == n && (ops.toList.all fun o : Oper => o.guard.isNone) && backB ops && decide ds.Nodup &&
  ((List.range n).all fun k => (match ops[k]? with | some o => o.dst == some (ds.getD k 0) | none => false)) &&
  (match ops[n]? with | some o => (List.range n).all fun k => o.after.any fun e => e.on == k && Region.binds .any e | none => false)
structure Gather (ops : Array Oper) (n : Nat) (ds : List Nat) : Prop where
  size : ops.size = n + 1
  len : ds.length = n
  guard : ∀ (k : Nat) (o : Oper), ops[k]? = some o → o.guard = none
  back : ∀ (i : Nat) (o : Oper), ops[i]? = some o → ∀ e ∈ o.after, e.on < i
  nodup : ds.Nodup
  dst : ∀ (k : Nat) (o : Oper), k < n → ops[k]? = some o → o.dst = some (ds.getD k 0)
  last : ∀ (o : Oper), ops[n]? = some o → ∀ k, k < n → ∃ e ∈ o.after, e.on = k ∧ Region.binds .any e = true
theorem gather_of {n : Nat} {ds : List Nat} (h : gatherB ops n ds = true) : Gather ops n ds := by
  unfold gatherB at h
  simp only [Bool.and_eq_true, beq_iff_eq, decide_eq_true_iff] at h
  obtain ⟨⟨⟨⟨⟨⟨h1, h2⟩, h3⟩, h4⟩, h5⟩, h6⟩, h7⟩ := h
  refine ⟨h1, h2, fun k o ho => ?_, back_of h4, h5, fun k o hk ho => ?_, fun o ho k hk => ?_⟩
  · have := List.all_eq_true.1 h3 o (by rw [Array.mem_toList_iff]; exact Array.mem_of_getElem? ho)
    exact Option.isNone_iff_eq_none.1 this
  · have := List.all_eq_true.1 h6 k (List.mem_range.2 hk)
    rw [ho] at this
    simpa using this
  · rw [ho] at h7
    have := List.all_eq_true.1 h7 k (List.mem_range.2 hk)
    obtain ⟨e, he, h8⟩ := Array.any_eq_true'.1 this
    rw [Bool.and_eq_true, beq_iff_eq] at h8
    exact ⟨e, he, h8.1, h8.2⟩
theorem ds_mem {n : Nat} {ds : List Nat} (h : Gather ops n ds) {k : Nat} (hk : k < n) : ds.getD k 0 ∈ ds := by
  have hl : k < ds.length := by rw [h.len]; exact hk
  rw [List.getD_eq_getElem?_getD, List.getElem?_eq_getElem hl]
  exact List.getElem_mem hl
theorem ds_inj {n : Nat} {ds : List Nat} (h : Gather ops n ds) {k j : Nat} (hk : k < n) (hj : j < n) (e : ds.getD k 0 = ds.getD j 0) : k = j := by
  have hl : k < ds.length := by rw [h.len]; exact hk
  have hl2 : j < ds.length := by rw [h.len]; exact hj
  rw [List.getD_eq_getElem?_getD, List.getElem?_eq_getElem hl, List.getD_eq_getElem?_getD, List.getElem?_eq_getElem hl2] at e
  exact (List.getElem_inj h.nodup).mp e
theorem getD_set_iff {l : Array Bool} {i k : Nat} (hi : i < l.size) : (l.setIfInBounds i true).getD k false = true ↔ k = i ∨ l.getD k false = true := by
  constructor
  · exact listed_set
  · rintro (rfl | h)
    · simp [hi]
    · by_cases hik : i = k
      · subst hik; simp [hi]
      · simpa [Array.getElem?_setIfInBounds_ne hik] using h
set_option maxHeartbeats 1000000 in
theorem wp_region_gather (n m : Nat) (ds : List Nat) {id : Nat} {a0 : Act} {w0 : World} (hm : P.follows .mixedOrders = true) (hG : gatherB ops n ds = true) (hsz : ∀ d ∈ ds, d < a0.tmps.size)
    (I J : World → Prop) (R : World → World → Prop) (Φ : Nat → Value → World → Prop)
    (hBR : ∀ w w', Below w.heap.size w w' → R w w') (hI : ∀ w w', I w → R w w' → I w') (hJ : ∀ w w', J w → Below w.heap.size w w' → J w')
    (hΦ : ∀ k v w w', k ≠ m → Φ k v w → R w w' → Φ k v w') (hΦm : ∀ v w w', Φ m v w → Below w.heap.size w w' → Φ m v w')
    (h0 : I { w0 with drawn := w0.drawn + 1 }) (h1 : J { w0 with drawn := w0.drawn + 1 })
    (hstep : ∀ (k : Nat) (o : Oper), k < n → ops[k]? = some o → ∀ (ρ : Operand → Value) (w : World), I w → AtDoor a0 ds ρ → (∀ e ∈ o.after, Region.binds .any e = true → Φ e.on (ρ (.tmp (ds.getD e.on 0))) w) → (k = m → J w) →
      ∃ v w', (execOp ρ o).run P w = .ok (.value v) w' ∧ Φ k v w' ∧ (if k = m then R w w' else Below w.heap.size w w'))
    (hlast : ∀ (o : Oper), ops[n]? = some o → ∀ (a : Act) (w : World), I w → AtDoor a0 ds a.eval → a.tmps.size = a0.tmps.size → a.defers = a0.defers → (∀ k, k < n → Φ k (a.eval (.tmp (ds.getD k 0))) w) →
      o.wp P a w (fun a' w' => Q .normal a' w') Q) :
    (Code.region id ops true).wp P Q a0 w0 := by
  have G := gather_of hG
  refine wp_region_inv (fun l a w => l.size = n + 1 ∧ ((l.getD n false = false ∧ I w ∧ AtDoor a0 ds a.eval ∧ a.tmps.size = a0.tmps.size ∧ a.defers = a0.defers ∧ (∀ k, k < n → l.getD k false = true → Φ k (a.eval (.tmp (ds.getD k 0))) w) ∧ (l.getD m false = false → J w)) ∨ ((∀ k, k ≤ n → l.getD k false = true) ∧ Q .normal a w))) hm ?_ ?_ ?_
  · refine ⟨by rw [Array.size_replicate]; exact G.size, .inl ⟨?_, h0, atDoor_start a0 ds, rfl, rfl, fun k hk h => ?_, fun _ => h1⟩⟩
    · by_cases h : n < ops.size <;> simp [h]
    · exfalso
      by_cases h2 : k < ops.size <;> simp [h2] at h
  · rintro l a w i ⟨hls, hV⟩ hi
    obtain ⟨hun, o, ho, hpre⟩ := mem_ready.1 hi
    have hilt : i < ops.size := (Array.getElem?_eq_some_iff.1 ho).1
    have hil : i < l.size := by rw [hls, ← G.size]; exact hilt
    rcases hV with ⟨hnl, hIw, hAD, hasz, hadf, hF, hJw⟩ | ⟨hall, _⟩
    · rcases Nat.lt_or_ge i n with hin | hin
      · obtain ⟨v, w', hrun, hphi, hrel⟩ := hstep i o hin ho a.eval w hIw hAD (fun e he hb => hF e.on (Nat.lt_trans (G.back i o ho e he) hin) (hpre e he hb)) (fun e => hJw (by
          rw [← e]
          cases h : l.getD i false with
          | false => rfl
          | true => simp [hil] at h hun; rw [h] at hun; cases hun))
        have hR : R w w' := by
          split at hrel
          · exact hrel
          · exact hBR w w' hrel
        refine wpOp_at ho (G.guard i o ho) ?_
        unfold Oper.wp
        rw [hrun, Oper.upon_value, G.dst i o hin ho]
        refine ⟨by rw [Array.size_setIfInBounds]; exact hls, .inl ⟨?_, hI w w' hIw hR, hAD.put (ds_mem G hin) v, ?_, hadf, fun k hk hkl => ?_, fun hml => ?_⟩⟩
        · cases h : (l.setIfInBounds i true).getD n false with
          | false => rfl
          | true =>
            rcases listed_set h with h2 | h2
            · omega
            · rw [hnl] at h2; cases h2
        · show (a.tmps.setIfInBounds _ _).size = _
          rw [Array.size_setIfInBounds]; exact hasz
        · by_cases hki : k = i
          · subst hki
            rw [eval_put_same _ _ _ (by rw [hasz]; exact hsz _ (ds_mem G hin))]
            exact hphi
          · rw [eval_put_other _ _ _ _ (fun e => hki (ds_inj G hk hin e))]
            have hf := hF k hk ((listed_set hkl).resolve_left hki)
            by_cases hkm : k = m
            · subst hkm
              rw [if_neg (fun e => hki e.symm)] at hrel
              exact hΦm _ _ _ hf hrel
            · exact hΦ k _ _ _ hkm hf hR
        · have hmi : i ≠ m := fun e => by
            subst e
            have h2 := (getD_set_iff (k := i) hil).mpr (.inl rfl)
            rw [hml] at h2; cases h2
          rw [if_neg hmi] at hrel
          refine hJ w w' (hJw ?_) hrel
          cases h : l.getD m false with
          | false => rfl
          | true =>
            have h2 := (getD_set_iff (k := m) hil).mpr (.inr h)
            rw [hml] at h2; cases h2
      · obtain rfl : i = n := by have := G.size; omega
        have hall : ∀ k, k < i → l.getD k false = true := fun k hk => by
          obtain ⟨e, he, h1, h2⟩ := G.last o ho k hk
          rw [← h1]
          exact hpre e he h2
        refine wpOp_at ho (G.guard i o ho) (Oper.wp_mono (fun a' w' hq => ?_) (hlast o ho a w hIw hAD hasz hadf (fun k hk => hF k hk (hall k hk))))
        refine ⟨by rw [Array.size_setIfInBounds]; exact hls, .inr ⟨fun k hk => (getD_set_iff hil).mpr ?_, hq⟩⟩
        rcases Nat.lt_or_ge k i with h | h
        · exact .inr (hall k h)
        · exact .inl (by omega)
    · exfalso
      have := hall i (by have := G.size; omega)
      simp [hil] at this hun
      rw [this] at hun
      cases hun
  · rintro l a w ⟨hls, hV⟩ hr
    have hall := all_listed (by rw [hls, G.size]) G.back hr
    rcases hV with ⟨hnl, _⟩ | ⟨_, hq⟩
    · have := hall n (by rw [G.size]; omega)
      rw [hnl] at this
      cases this
    · exact hq
/-- The frame behind: the slots ds hold what was yielded, the others what they held at the door. -/
def fillL (ds : List Nat) (vals : Nat → Value) : Nat → List Value → List Value
  | _, [] => []
  | t, x :: l => (bif ds.contains t then vals t else x) :: fillL ds vals (t + 1) l
theorem fillL_at (ds : List Nat) (vals : Nat → Value) : ∀ (l : List Value) (t i : Nat), (fillL ds vals t l)[i]? = l[i]?.map fun x => bif ds.contains (t + i) then vals (t + i) else x
  | [], t, i => by simp [fillL]
  | x :: l, t, 0 => by simp [fillL]
  | x :: l, t, i + 1 => by
    have := fillL_at ds vals l (t + 1) i
    rw [show t + 1 + i = t + (i + 1) by omega] at this
    simpa [fillL] using this
def fillA (a0 : Act) (ds : List Nat) (vals : Nat → Value) : List Value := fillL ds vals 0 a0.tmps.toList
theorem act_fill {a0 a : Act} {ds : List Nat} (h : AtDoor a0 ds a.eval) (hs : a.tmps.size = a0.tmps.size) (hd : a.defers = a0.defers) : a = ⟨(fillA a0 ds fun t => a.eval (.tmp t)).toArray, a0.defers⟩ := by
  obtain ⟨tmps, defers⟩ := a
  obtain rfl : defers = a0.defers := hd
  congr 1
  apply Array.toList_inj.mp
  apply List.ext_getElem?
  intro t
  unfold fillA
  rw [fillL_at, Nat.zero_add]
  rcases Nat.lt_or_ge t tmps.size with ht | ht
  · have ht0 : t < a0.tmps.toList.length := by simpa [← hs] using ht
    have e1 : (Act.mk tmps a0.defers).eval (.tmp t) = tmps[t] := by
      show tmps.getD t undef = _
      simp [ht]
    rw [List.getElem?_eq_getElem ht0, List.getElem?_eq_getElem (by simpa using ht)]
    simp only [Option.map_some, Array.getElem_toList, Option.some.injEq]
    cases hc : ds.contains t with
    | true => exact e1.symm
    | false =>
      have := h.tmp t (fun q => by rw [List.contains_iff_mem.mpr q] at hc; cases hc)
      rw [e1] at this
      rw [this]
      show a0.tmps.getD t undef = _
      have ht1 : t < a0.tmps.size := by simpa using ht0
      simp [ht1]
  · rw [List.getElem?_eq_none (by simpa using ht), List.getElem?_eq_none (by simpa [← hs] using ht)]
    rfl
theorem wp_region_gather' (n m : Nat) (ds : List Nat) {id : Nat} {a0 : Act} {w0 : World} (hm : P.follows .mixedOrders = true) (hG : gatherB ops n ds = true) (hsz : ∀ d ∈ ds, d < a0.tmps.size)
    (I J : World → Prop) (R : World → World → Prop) (Φ : Nat → Value → World → Prop)
    (hBR : ∀ w w', Below w.heap.size w w' → R w w') (hI : ∀ w w', I w → R w w' → I w') (hJ : ∀ w w', J w → Below w.heap.size w w' → J w')
    (hΦ : ∀ k v w w', k ≠ m → Φ k v w → R w w' → Φ k v w') (hΦm : ∀ v w w', Φ m v w → Below w.heap.size w w' → Φ m v w')
    (h0 : I { w0 with drawn := w0.drawn + 1 }) (h1 : J { w0 with drawn := w0.drawn + 1 })
    (hstep : ∀ (k : Nat) (o : Oper), k < n → ops[k]? = some o → ∀ (ρ : Operand → Value) (w : World), I w → AtDoor a0 ds ρ → (∀ e ∈ o.after, Region.binds .any e = true → Φ e.on (ρ (.tmp (ds.getD e.on 0))) w) → (k = m → J w) →
      ∃ v w', (execOp ρ o).run P w = .ok (.value v) w' ∧ Φ k v w' ∧ (if k = m then R w w' else Below w.heap.size w w'))
    (hlast : ∀ (o : Oper), ops[n]? = some o → ∀ (vals : Nat → Value) (w : World), I w → (∀ k, k < n → Φ k (vals (ds.getD k 0)) w) →
      o.wp P ⟨(fillA a0 ds vals).toArray, a0.defers⟩ w (fun a' w' => Q .normal a' w') Q) :
    (Code.region id ops true).wp P Q a0 w0 :=
  wp_region_gather n m ds hm hG hsz I J R Φ hBR hI hJ hΦ hΦm h0 h1 hstep (fun o ho a w hIw hA hs hd hF => by
    have := hlast o ho (fun t => a.eval (.tmp t)) w hIw hF
    rwa [← act_fill hA hs hd] at this)
end
end Go.Proofs.YtmmogdccjiagnaaDoor
set_option linter.unusedVariables false
namespace Go.Proofs.YtmmogdccjiagnaaDoor
open Go Go.RowKit

section
variable {P : Program} {ops : Array Oper} {Q : Exit → Act → World → Prop}
/-- Operation i waits for k, by at most so many steps. -/
def waitsB (ops : Array Oper) : Nat → Nat → Nat → Bool
  | 0, _, _ => false
  | f + 1, i, k => match ops[i]? with | some o => o.after.any fun e => Region.binds .any e && (e.on == k || waitsB ops f e.on k) | none => false
theorem waits_done {l : Array Bool} (hc : ∀ (i : Nat) (o : Oper), l.getD i false = true → ops[i]? = some o → ∀ e ∈ o.after, Region.binds .any e = true → l.getD e.on false = true) :
    ∀ (f i k : Nat), waitsB ops f i k = true → (∀ (o : Oper), ops[i]? = some o → ∀ e ∈ o.after, Region.binds .any e = true → l.getD e.on false = true) → l.getD k false = true
  | 0, i, k, h, _ => by cases h
  | f + 1, i, k, h, hp => by
    unfold waitsB at h
    split at h
    · rename_i o ho
      obtain ⟨e, he, h2⟩ := Array.any_eq_true'.1 h
      rw [Bool.and_eq_true, Bool.or_eq_true, beq_iff_eq] at h2
      have hd := hp o ho e he h2.1
      rcases h2.2 with h3 | h3
      · rw [← h3]; exact hd
      · exact waits_done hc f e.on k h3 (fun o' ho' e' he' hb' => hc e.on o' hd ho' e' he' hb')
    · cases h
/-- What the region's text must be (all by the kernel). -/
def gatherB2 (ops : Array Oper) (n : Nat) (ds : List Nat) : Bool :=
  ops.size == n + 1 && ds.length == n && (ops.toList.all fun o : Oper => o.guard.isNone) && backB ops && decide ds.Nodup &&
  ((List.range n).all fun k => (match ops[k]? with | some o => o.dst == some (ds.getD k 0) | none => false)) &&
  ((List.range n).all fun k => waitsB ops 8 n k)
structure Gather2 (ops : Array Oper) (n : Nat) (ds : List Nat) : Prop where
  size : ops.size = n + 1
  len : ds.length = n
  guard : ∀ (k : Nat) (o : Oper), ops[k]? = some o → o.guard = none
  back : ∀ (i : Nat) (o : Oper), ops[i]? = some o → ∀ e ∈ o.after, e.on < i
  nodup : ds.Nodup
  dst : ∀ (k : Nat) (o : Oper), k < n → ops[k]? = some o → o.dst = some (ds.getD k 0)
  last : ∀ k, k < n → waitsB ops 8 n k = true
theorem gather_of2 {n : Nat} {ds : List Nat} (h : gatherB2 ops n ds = true) : Gather2 ops n ds := by
  unfold gatherB2 at h
  simp only [Bool.and_eq_true, beq_iff_eq, decide_eq_true_iff] at h
  obtain ⟨⟨⟨⟨⟨⟨h1, h2⟩, h3⟩, h4⟩, h5⟩, h6⟩, h7⟩ := h
  refine ⟨h1, h2, fun k o ho => ?_, back_of h4, h5, fun k o hk ho => ?_, fun k hk => List.all_eq_true.1 h7 k (List.mem_range.2 hk)⟩
  · have := List.all_eq_true.1 h3 o (by rw [Array.mem_toList_iff]; exact Array.mem_of_getElem? ho)
    exact Option.isNone_iff_eq_none.1 this
  · have := List.all_eq_true.1 h6 k (List.mem_range.2 hk)
    rw [ho] at this
    simpa using this
theorem ds_mem2 {n : Nat} {ds : List Nat} (h : Gather2 ops n ds) {k : Nat} (hk : k < n) : ds.getD k 0 ∈ ds := by
  have hl : k < ds.length := by rw [h.len]; exact hk
  rw [List.getD_eq_getElem?_getD, List.getElem?_eq_getElem hl]
  exact List.getElem_mem hl
theorem ds_inj2 {n : Nat} {ds : List Nat} (h : Gather2 ops n ds) {k j : Nat} (hk : k < n) (hj : j < n) (e : ds.getD k 0 = ds.getD j 0) : k = j := by
  have hl : k < ds.length := by rw [h.len]; exact hk
  have hl2 : j < ds.length := by rw [h.len]; exact hj
  rw [List.getD_eq_getElem?_getD, List.getElem?_eq_getElem hl, List.getD_eq_getElem?_getD, List.getElem?_eq_getElem hl2] at e
  exact (List.getElem_inj h.nodup).mp e
set_option maxHeartbeats 1000000 in
theorem wp_region_gather2 (n m : Nat) (ds : List Nat) {id : Nat} {a0 : Act} {w0 : World} (hm : P.follows .mixedOrders = true) (hG : gatherB2 ops n ds = true) (hsz : ∀ d ∈ ds, d < a0.tmps.size)
    (I J : World → Prop) (R : World → World → Prop) (Φ : Nat → Value → World → Prop)
    (hBR : ∀ w w', Below w.heap.size w w' → R w w') (hI : ∀ w w', I w → R w w' → I w') (hJ : ∀ w w', J w → Below w.heap.size w w' → J w')
    (hΦ : ∀ k v w w', k ≠ m → Φ k v w → R w w' → Φ k v w') (hΦm : ∀ v w w', Φ m v w → Below w.heap.size w w' → Φ m v w')
    (h0 : I { w0 with drawn := w0.drawn + 1 }) (h1 : J { w0 with drawn := w0.drawn + 1 })
    (hstep : ∀ (k : Nat) (o : Oper), k < n → ops[k]? = some o → ∀ (ρ : Operand → Value) (w : World), I w → AtDoor a0 ds ρ → (∀ e ∈ o.after, Region.binds .any e = true → Φ e.on (ρ (.tmp (ds.getD e.on 0))) w) → (k = m → J w) →
      ∃ v w', (execOp ρ o).run P w = .ok (.value v) w' ∧ Φ k v w' ∧ (if k = m then R w w' else Below w.heap.size w w'))
    (hlast : ∀ (o : Oper), ops[n]? = some o → ∀ (a : Act) (w : World), I w → AtDoor a0 ds a.eval → a.tmps.size = a0.tmps.size → a.defers = a0.defers → (∀ k, k < n → Φ k (a.eval (.tmp (ds.getD k 0))) w) →
      o.wp P a w (fun a' w' => Q .normal a' w') Q) :
    (Code.region id ops true).wp P Q a0 w0 := by
  have G := gather_of2 hG
  refine wp_region_inv (fun l a w => l.size = n + 1 ∧ ((l.getD n false = false ∧ I w ∧ AtDoor a0 ds a.eval ∧ a.tmps.size = a0.tmps.size ∧ a.defers = a0.defers ∧ (∀ k, k < n → l.getD k false = true → Φ k (a.eval (.tmp (ds.getD k 0))) w) ∧ (l.getD m false = false → J w) ∧ (∀ (i : Nat) (o : Oper), l.getD i false = true → ops[i]? = some o → ∀ e ∈ o.after, Region.binds .any e = true → l.getD e.on false = true)) ∨ ((∀ k, k ≤ n → l.getD k false = true) ∧ Q .normal a w))) hm ?_ ?_ ?_
  · refine ⟨by rw [Array.size_replicate]; exact G.size, .inl ⟨?_, h0, atDoor_start a0 ds, rfl, rfl, fun k hk h => ?_, fun _ => h1, fun k o h => ?_⟩⟩
    · by_cases h : n < ops.size <;> simp [h]
    · exfalso
      by_cases h2 : k < ops.size <;> simp [h2] at h
    · exfalso
      by_cases h2 : k < ops.size <;> simp [h2] at h
  · rintro l a w i ⟨hls, hV⟩ hi
    obtain ⟨hun, o, ho, hpre⟩ := mem_ready.1 hi
    have hilt : i < ops.size := (Array.getElem?_eq_some_iff.1 ho).1
    have hil : i < l.size := by rw [hls, ← G.size]; exact hilt
    rcases hV with ⟨hnl, hIw, hAD, hasz, hadf, hF, hJw, hcl⟩ | ⟨hall, _⟩
    · rcases Nat.lt_or_ge i n with hin | hin
      · obtain ⟨v, w', hrun, hphi, hrel⟩ := hstep i o hin ho a.eval w hIw hAD (fun e he hb => hF e.on (Nat.lt_trans (G.back i o ho e he) hin) (hpre e he hb)) (fun e => hJw (by
          rw [← e]
          cases h : l.getD i false with
          | false => rfl
          | true => simp [hil] at h hun; rw [h] at hun; cases hun))
        have hR : R w w' := by
          split at hrel
          · exact hrel
          · exact hBR w w' hrel
        refine wpOp_at ho (G.guard i o ho) ?_
        unfold Oper.wp
        rw [hrun, Oper.upon_value, G.dst i o hin ho]
        refine ⟨by rw [Array.size_setIfInBounds]; exact hls, .inl ⟨?_, hI w w' hIw hR, hAD.put (ds_mem2 G hin) v, ?_, hadf, fun k hk hkl => ?_, fun hml => ?_, fun k o' hk ho' e he hb => ?_⟩⟩
        · cases h : (l.setIfInBounds i true).getD n false with
          | false => rfl
          | true =>
            rcases listed_set h with h2 | h2
            · omega
            · rw [hnl] at h2; cases h2
        · show (a.tmps.setIfInBounds _ _).size = _
          rw [Array.size_setIfInBounds]; exact hasz
        · by_cases hki : k = i
          · subst hki
            rw [eval_put_same _ _ _ (by rw [hasz]; exact hsz _ (ds_mem2 G hin))]
            exact hphi
          · rw [eval_put_other _ _ _ _ (fun e => hki (ds_inj2 G hk hin e))]
            have hf := hF k hk ((listed_set hkl).resolve_left hki)
            by_cases hkm : k = m
            · subst hkm
              rw [if_neg (fun e => hki e.symm)] at hrel
              exact hΦm _ _ _ hf hrel
            · exact hΦ k _ _ _ hkm hf hR
        · have hmi : i ≠ m := fun e => by
            subst e
            have h2 := (getD_set_iff (k := i) hil).mpr (.inl rfl)
            rw [hml] at h2; cases h2
          rw [if_neg hmi] at hrel
          refine hJ w w' (hJw ?_) hrel
          cases h : l.getD m false with
          | false => rfl
          | true =>
            have h2 := (getD_set_iff (k := m) hil).mpr (.inr h)
            rw [hml] at h2; cases h2
        · refine (getD_set_iff hil).mpr (.inr ?_)
          rcases listed_set hk with h | h
          · subst h
            rw [ho] at ho'
            obtain rfl := Option.some.inj ho'
            exact hpre e he hb
          · exact hcl k o' h ho' e he hb
      · obtain rfl : i = n := by have := G.size; omega
        have hall : ∀ k, k < i → l.getD k false = true := fun k hk => waits_done hcl 8 i k (G.last k hk) (fun o' ho' e he hb => by
          rw [ho] at ho'
          obtain rfl := Option.some.inj ho'
          exact hpre e he hb)
        refine wpOp_at ho (G.guard i o ho) (Oper.wp_mono (fun a' w' hq => ?_) (hlast o ho a w hIw hAD hasz hadf (fun k hk => hF k hk (hall k hk))))
        refine ⟨by rw [Array.size_setIfInBounds]; exact hls, .inr ⟨fun k hk => (getD_set_iff hil).mpr ?_, hq⟩⟩
        rcases Nat.lt_or_ge k i with h | h
        · exact .inr (hall k h)
        · exact .inl (by omega)
    · exfalso
      have := hall i (by have := G.size; omega)
      simp [hil] at this hun
      rw [this] at hun
      cases hun
  · rintro l a w ⟨hls, hV⟩ hr
    have hall := all_listed (by rw [hls, G.size]) G.back hr
    rcases hV with ⟨hnl, _⟩ | ⟨_, hq⟩
    · have := hall n (by rw [G.size]; omega)
      rw [hnl] at this
      cases this
    · exact hq
theorem wp_region_gather2' (n m : Nat) (ds : List Nat) {id : Nat} {a0 : Act} {w0 : World} (hm : P.follows .mixedOrders = true) (hG : gatherB2 ops n ds = true) (hsz : ∀ d ∈ ds, d < a0.tmps.size)
    (I J : World → Prop) (R : World → World → Prop) (Φ : Nat → Value → World → Prop)
    (hBR : ∀ w w', Below w.heap.size w w' → R w w') (hI : ∀ w w', I w → R w w' → I w') (hJ : ∀ w w', J w → Below w.heap.size w w' → J w')
    (hΦ : ∀ k v w w', k ≠ m → Φ k v w → R w w' → Φ k v w') (hΦm : ∀ v w w', Φ m v w → Below w.heap.size w w' → Φ m v w')
    (h0 : I { w0 with drawn := w0.drawn + 1 }) (h1 : J { w0 with drawn := w0.drawn + 1 })
    (hstep : ∀ (k : Nat) (o : Oper), k < n → ops[k]? = some o → ∀ (ρ : Operand → Value) (w : World), I w → AtDoor a0 ds ρ → (∀ e ∈ o.after, Region.binds .any e = true → Φ e.on (ρ (.tmp (ds.getD e.on 0))) w) → (k = m → J w) →
      ∃ v w', (execOp ρ o).run P w = .ok (.value v) w' ∧ Φ k v w' ∧ (if k = m then R w w' else Below w.heap.size w w'))
    (hlast : ∀ (o : Oper), ops[n]? = some o → ∀ (vals : Nat → Value) (w : World), I w → (∀ k, k < n → Φ k (vals (ds.getD k 0)) w) →
      o.wp P ⟨(fillA a0 ds vals).toArray, a0.defers⟩ w (fun a' w' => Q .normal a' w') Q) :
    (Code.region id ops true).wp P Q a0 w0 :=
  wp_region_gather2 n m ds hm hG hsz I J R Φ hBR hI hJ hΦ hΦm h0 h1 hstep (fun o ho a w hIw hA hs hd hF => by
    have := hlast o ho (fun t => a.eval (.tmp t)) w hIw hF
    rwa [← act_fill hA hs hd] at this)
end
end Go.Proofs.YtmmogdccjiagnaaDoor
set_option linter.unusedVariables false
namespace Go.Proofs.YtmmogdccjiagnaaDoor
open Go Go.RowKit

theorem info_partsC {P : Program} {t : TypeId} {z : Value} {s b : Nat} (h : (P.info? t).map (fun i => (i.zero, i.size, i.bytes)) = some (some z, s, b)) : ∃ i, P.info? t = some i ∧ i.zero = some z ∧ i.size = s ∧ i.bytes = b := by
  cases hi : P.info? t with
  | none => rw [hi] at h; cases h
  | some i =>
    rw [hi] at h
    simp at h
    exact ⟨i, rfl, h.1, h.2.1, h.2.2⟩
/-- A row of a variable of another type stays. -/
theorem other_ownC {w w' : World} {base : Nat} {e t : TypeId} {s n g : Nat} {v : Value} {xs : List Value} {cs : Array Value} (h : w.ownsRow base e s v n xs) (hg : w.heap[g]? = some (.cells cs t (0, 0))) (ht : e ≠ t) (hk : ∀ k, k ≠ g → w'.heap[k]? = w.heap[k]?) : w'.ownsRow base e s v n xs := by
  refine ⟨h.1, ?_⟩
  rcases h.2 with hn | ⟨g', cap, cur, rfl, hg', hgg, rest⟩
  · exact .inl hn
  · refine .inr ⟨g', cap, cur, rfl, hg', ?_, rest⟩
    rw [hk g' (fun e1 => by
      subst e1
      rw [hg] at hgg
      injection hgg with hgg
      injection hgg with _ h2 _
      exact ht h2.symm)]
    exact hgg
def NewR (t : TypeId) (w : World) (base : Nat) (v : Value) : Prop := ∃ g, v = .slice (some ⟨g, 0, none⟩) 0 0 ∧ w.heap[g]? = some (.cells #[] t (0, 0)) ∧ base ≤ g
theorem NewR.below {t : TypeId} {w w' : World} {base : Nat} {v : Value} (h : NewR t w base v) (hb : Below w.heap.size w w') : NewR t w' base v := by
  obtain ⟨g, e, hg, hl⟩ := h
  exact ⟨g, e, by rw [hb.block _ (Array.getElem?_eq_some_iff.1 hg).1]; exact hg, hl⟩
theorem newR_here (t : TypeId) (w : World) (base : Nat) (hb : base ≤ w.heap.size) : NewR t (w.alloc (.cells #[] t)) base (.slice (some ⟨w.heap.size, 0, none⟩) 0 0) := ⟨_, rfl, heap_alloc_new w _, hb⟩
theorem row_setC {w : World} {g : Nat} {t : TypeId} {x y : Value} (h : w.heap[g]? = some (.cells #[x, y] t (0, 0))) (a b : Value) : ((w.setCell ⟨g, 0, none⟩ a).setCell ⟨g, 1, none⟩ b).heap[g]? = some (.cells #[a, b] t (0, 0)) := by
  have h1 := heap_setCell_same w g 0 _ _ a h
  have h2 := heap_setCell_same _ g 1 _ _ b h1
  simpa using h2
theorem below_setC {w : World} {B g : Nat} (hg : B ≤ g) (a b : Value) : Below B w ((w.setCell ⟨g, 0, none⟩ a).setCell ⟨g, 1, none⟩ b) := ((Below.refl B w).setCell hg a).setCell hg b
theorem size_setC (w : World) (g : Nat) (a b : Value) : ((w.setCell ⟨g, 0, none⟩ a).setCell ⟨g, 1, none⟩ b).heap.size = w.heap.size := by simp [World.setCell]
theorem other_setC (w : World) (g : Nat) (a b : Value) : ∀ k, k ≠ g → ((w.setCell ⟨g, 0, none⟩ a).setCell ⟨g, 1, none⟩ b).heap[k]? = w.heap[k]? := fun k hk => by rw [heap_setCell_other _ _ _ _ hk, heap_setCell_other _ _ _ _ hk]
/-- A store of two slices into a variable of them. -/
theorem ox_storeC {o : Oper} {a : Act} {x : World} {K : Act → World → Prop} {Q : Exit → Act → World → Prop} {s y : Operand} {g : Nat} {u v u0 v0 : Value} (hop : o.op = .store 27 s y) (hdst : o.dst = none)
    (hs : a.eval s = .pointer (some ⟨g, 0, none⟩)) (hy : a.eval y = .agg #[u, v]) (h1 : ∃ A n c F m d, u = .slice A n c ∧ v = .slice F m d) (hg : x.heap[g]? = some (.cells #[u0, v0] 27 (0, 0)))
    (hK : K a ((x.setCell ⟨g, 0, none⟩ u).setCell ⟨g, 1, none⟩ v)) : o.wp Tryd.prog a x K Q := by
  obtain ⟨A, n, c, F, m, d, rfl, rfl⟩ := h1
  have d0 := cell_of_row x g 0 _ _ _ hg
  have z0 := frozen_of_row x g 0 _ _ hg
  have d1 := cell_of_row x g 1 _ _ _ hg
  have z1 := frozen_of_row x g 1 _ _ hg
  have hg1 := heap_setCell_same x g 0 _ _ (.slice A n c) hg
  have d1' := cell_of_row _ g 1 _ _ _ hg1
  have z1' := frozen_of_row _ g 1 _ _ hg1
  simp at d0 d1 d1'
  have hr : (execOp a.eval o).run Tryd.prog x = .ok .skip ((x.setCell ⟨g, 0, none⟩ (.slice A n c)).setCell ⟨g, 1, none⟩ (.slice F m d)) := by
    simp only [execOp, hop]
    rw [hs, hy]
    simp [go_sem, d0, z0, d1', z1']
  unfold Oper.wp
  rw [hr, Oper.upon_skip, hdst]
  exact hK
/-- A crew of the call's own. -/
theorem own_isC {w : World} {b : Nat} {A : Option Addr} {n c : Nat} {F : Option Addr} {m d : Nat} {O L : List Int} (hu : OwnI w b (.slice A n c) O) (hv : OwnI w b (.slice F m d) L) (hn : O.length = n) (hm : L.length = m) (l1 : n ≤ 400) (l2 : m ≤ 400) : IsC w A n c F m d O L :=
  ⟨hn, hm, l1, l2, hu.ints, hv.ints, fun e => by subst e; exact hu.none_nil, fun e => by subst e; exact hv.none_nil, by
    rcases hu.2 with ⟨hv, hn⟩ | ⟨g, cap, cur, hv, hg, hgg, hle, _⟩
    · injection hv with _ h1 h2
      omega
    · injection hv with _ h1 h2
      omega⟩
/-- .. handed out. -/
structure OwnC (w : World) (b : Nat) (A : Option Addr) (n c : Nat) (F : Option Addr) (m d : Nat) (O L : List Int) : Prop where
  on : OwnI w b (.slice A n c) O
  left : OwnI w b (.slice F m d) L
  hn : O.length = n
  hm : L.length = m
  ln : n ≤ 400
  lm : m ≤ 400
theorem OwnC.isC {w : World} {b : Nat} {A : Option Addr} {n c : Nat} {F : Option Addr} {m d : Nat} {O L : List Int} (h : OwnC w b A n c F m d O L) : IsC w A n c F m d O L := own_isC h.on h.left h.hn h.hm h.ln h.lm
theorem OwnC.next {w w' : World} {b : Nat} {A : Option Addr} {n c : Nat} {F : Option Addr} {m d : Nat} {O L : List Int} (h : OwnC w b A n c F m d O L) (hb : Below w.heap.size w w') : OwnC w' b A n c F m d O L := ⟨own_below h.on hb, own_below h.left hb, h.hn, h.hm, h.ln, h.lm⟩
theorem OwnC.down {w : World} {b b' : Nat} {A : Option Addr} {n c : Nat} {F : Option Addr} {m d : Nat} {O L : List Int} (h : OwnC w b A n c F m d O L) (hb : b' ≤ b) : OwnC w b' A n c F m d O L := ⟨h.on.down hb, h.left.down hb, h.hn, h.hm, h.ln, h.lm⟩
theorem noOwnC (w : World) (b : Nat) : OwnC w b none 0 0 none 0 0 [] [] := ⟨⟨rfl, .inl ⟨rfl, rfl⟩⟩, ⟨rfl, .inl ⟨rfl, rfl⟩⟩, rfl, rfl, by decide, by decide⟩
end Go.Proofs.YtmmogdccjiagnaaDoor
