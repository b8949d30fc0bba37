import Derived.Test.YtlfekmbalgkmeaaGreatDoorYM3
import Derived.Test.YtlfekmbalgkmeaaGreatDoorYM7
import Derived.Deep.AppendLies
import Derived.Orders
import Derived.WalkKit
import Derived.KernelRfl
import Derived.Below
import Derived.Laws.AppendOwn
import Derived.Test.YtlfekmbalgkmeaaGreatDoorChecked
set_option linter.unusedSimpArgs false
set_option linter.unnecessarySimpa false
set_option linter.unusedVariables false
namespace Go.Proofs.YtlfekmbalgkmeaaGreatDoor
open Go.RowKit
end Go.Proofs.YtlfekmbalgkmeaaGreatDoor
namespace Go.Proofs.YtlfekmbalgkmeaaGreatDoor
open Go
section
variable {P: Program} {ops: Array Oper} {Q: Exit -> Act -> World -> Prop}
def unlisted (l: Array Bool): Nat:=l.toList.countP (fun b => !b)
theorem countP_set : ∀ (xs : List Bool) (i : Nat), xs[i]? = some false -> (xs.set i true).countP (fun b => !b) + 1 = xs.countP (fun b => !b)
  | [], i, h => by simp at h
  | x :: xs, 0, h => by
    obtain rfl : x = false := by simpa using h
    simp
  | x :: xs, i + 1, h => by
    have ih := countP_set xs i (by simpa using h)
    simp only [List.set_cons_succ, List.countP_cons]
    omega
theorem unlisted_set {l: Array Bool} {i: Nat} (h: l.getD i true = false): unlisted (l.setIfInBounds i true) + 1 = unlisted l:=by
 have hi: i < l.size:=by
  rcases Nat.lt_or_ge i l.size with h1 | h1
  ·exact h1
  ·simp [Array.getElem?_eq_none h1] at h
 have h0: l[i] = false:=by simpa [hi] using h
 unfold unlisted
 rw [Array.toList_setIfInBounds]
 refine countP_set l.toList i ?_
 rw [Array.getElem?_toList,Array.getElem?_eq_getElem hi,h0]
theorem wpAny_inv (Inv : Array Bool -> Act -> World -> Prop)
    (hstep : ∀ (listed : Array Bool) (a : Act) (w : World) (i : Nat), Inv listed a w -> i ∈ Region.ready .any ops listed -> wpOp P ops Q i (Inv (listed.setIfInBounds i true)) a w)
    (hend : ∀ (listed : Array Bool) (a : Act) (w : World), Inv listed a w -> Region.ready .any ops listed = [] -> Q .normal a w) :
    ∀ (fuel : Nat) (listed : Array Bool) (a : Act) (w : World), unlisted listed <= fuel -> Inv listed a w -> wpAny P .any ops Q fuel listed a w
  | 0, listed, a, w, hf, hI => by
    have hr : Region.ready .any ops listed = [] := by
      rw [List.eq_nil_iff_forall_not_mem]
      intro i hi
      have := unlisted_set (mem_ready.1 hi).1
      omega
    exact ⟨hr, hend _ _ _ hI hr⟩
  | fuel + 1, listed, a, w, hf, hI =>
    ⟨fun hr => hend _ _ _ hI hr, fun i hi => wpOp_mono (fun a' w' hI' => wpAny_inv Inv hstep hend fuel _ a' w' (by have := unlisted_set (mem_ready.1 hi).1; omega) hI') (hstep _ _ _ _ hI hi)⟩
theorem wp_region_inv {id: Nat} {a: Act} {w: World} (Inv: Array Bool -> Act -> World -> Prop) (hm: P.follows .mixedOrders = true)
  (h0: Inv (Array.replicate ops.size false) a { w with drawn:=w.drawn + 1 })
  (hstep: ∀ (listed: Array Bool) (a: Act) (w: World) (i: Nat),Inv listed a w -> i ∈ Region.ready .any ops listed -> wpOp P ops Q i (Inv (listed.setIfInBounds i true)) a w)
  (hend: ∀ (listed: Array Bool) (a: Act) (w: World),Inv listed a w -> Region.ready .any ops listed = [] -> Q .normal a w): (Code.region id ops true).wp P Q a w :=
 wp_region_any hm (wpAny_inv Inv hstep hend _ _ _ _ (by
  unfold unlisted
  refine Nat.le_trans List.countP_le_length ?_
  simp) h0)
theorem all_listed {listed : Array Bool} (hs : listed.size = ops.size) (hb : ∀ (i : Nat) (o : Oper), ops[i]? = some o -> ∀ e ∈ o.after, e.on < i) (hr : Region.ready .any ops listed = []) : ∀ i, i < ops.size -> listed.getD i false = true := by
  intro i
  induction i using Nat.strongRecOn with
  | _ i ih =>
    intro hi
    cases hl : listed.getD i false with
    | true => rfl
    | false =>
      have hi2 : i < listed.size := by omega
      have h1 : listed.getD i true = false := by
        simp [hi2] at hl ⊢
        exact hl
      have h2 : i ∈ Region.ready .any ops listed := mem_ready.2 ⟨h1, ops[i], Array.getElem?_eq_getElem hi, fun e he _ => by
        have h3 := hb i _ (Array.getElem?_eq_getElem hi) e he
        exact ih e.on h3 (by omega)⟩
      rw [hr] at h2
      simp at h2
def backB (ops: Array Oper): Bool:=(List.range ops.size).all fun i => match ops[i]? with
 | some o => o.after.all fun e => decide (e.on < i)
 | none => true
theorem back_of (h: backB ops = true): ∀ (i: Nat) (o: Oper),ops[i]? = some o -> ∀ e ∈ o.after,e.on < i:=by
 intro i o ho e he
 have hi: i < ops.size:=by
  rcases Nat.lt_or_ge i ops.size with h1 | h1
  ·exact h1
  ·rw [Array.getElem?_eq_none h1] at ho; cases ho
 have h1:=List.all_eq_true.1 h i (List.mem_range.2 hi)
 rw [ho] at h1
 exact of_decide_eq_true (Array.all_eq_true'.1 h1 e he)
theorem listed_set {listed: Array Bool} {i k: Nat} (h: (listed.setIfInBounds i true).getD k false = true): k = i \/ listed.getD k false = true:=by
 by_cases hik: i = k
 ·exact .inl hik.symm
 ·right
  simp [Array.getElem?_setIfInBounds_ne hik] at h
  simpa using h
theorem wpOp_at {i: Nat} {o: Oper} {a: Act} {w: World} {K: Act -> World -> Prop} (ho: ops[i]? = some o) (hg: o.guard = none) (h: o.wp P a w K Q): wpOp P ops Q i K a w:=by
 unfold wpOp
 rw [ho]
 simp only [Region.wanted,hg,if_true]
 exact .inl h
end
end Go.Proofs.YtlfekmbalgkmeaaGreatDoor
namespace Go.Proofs.YtlfekmbalgkmeaaGreatDoor
open Go Go.RowKit
section
variable {P: Program} {ops: Array Oper} {Q: Exit -> Act -> World -> Prop}
structure AtDoor (a0: Act) (ds: List Nat) (ρ: Operand -> Value): Prop where
 const: ∀ v,ρ (.const v) = v
 tmp: ∀ t,t ∉ ds -> ρ (.tmp t) = a0.eval (.tmp t)
theorem atDoor_start (a0: Act) (ds: List Nat): AtDoor a0 ds a0.eval:=⟨fun _ => rfl,fun _ _ => rfl⟩
theorem eval_put_same (a: Act) (d: Nat) (v: Value) (h: d < a.tmps.size): (a.put (some d) v).eval (.tmp d) = v:=by
 show (a.tmps.setIfInBounds d v).getD d undef = v
 simp [h]
theorem eval_put_other (a: Act) (d t: Nat) (v: Value) (h: t ≠ d): (a.put (some d) v).eval (.tmp t) = a.eval (.tmp t):=by
 show (a.tmps.setIfInBounds d v).getD t undef = a.tmps.getD t undef
 simp [Array.getElem?_setIfInBounds_ne (Ne.symm h)]
theorem AtDoor.put {a0 a: Act} {ds: List Nat} (h: AtDoor a0 ds a.eval) {d: Nat} (hd: d ∈ ds) (v: Value): AtDoor a0 ds (a.put (some d) v).eval :=
 ⟨fun _ => rfl,fun t ht => (eval_put_other a d t v (fun e => ht (e ▸ hd))).trans (h.tmp t ht)⟩
structure Gather (ops: Array Oper) (n: Nat) (ds: List Nat): Prop where
 size: ops.size = n + 1
 len: ds.length = n
 guard: ∀ (k: Nat) (o: Oper),ops[k]? = some o -> o.guard = none
 back: ∀ (i: Nat) (o: Oper),ops[i]? = some o -> ∀ e ∈ o.after,e.on < i
 nodup: ds.Nodup
 dst: ∀ (k: Nat) (o: Oper),k < n -> ops[k]? = some o -> o.dst = some (ds.getD k 0)
 last: ∀ (o: Oper),ops[n]? = some o -> ∀ k,k < n -> ∃ e ∈ o.after,e.on = k /\ Region.binds .any e = true
theorem getD_set_iff {l: Array Bool} {i k: Nat} (hi: i < l.size): (l.setIfInBounds i true).getD k false = true ↔ k = i \/ l.getD k false = true:=by
 constructor
 ·exact listed_set
 ·rintro (rfl | h)
  ·simp [hi]
  ·by_cases hik: i = k
   ·subst hik; simp [hi]
   ·simpa [Array.getElem?_setIfInBounds_ne hik] using h
def fillL (ds: List Nat) (vals: Nat -> Value): Nat -> List Value -> List Value
 | _,[] => []
 | t,x :: l => (bif ds.contains t then vals t else x) :: fillL ds vals (t + 1) l
theorem fillL_at (ds : List Nat) (vals : Nat -> Value) : ∀ (l : List Value) (t i : Nat), (fillL ds vals t l)[i]? = l[i]?.map fun x => bif ds.contains (t + i) then vals (t + i) else x
  | [], t, i => by simp [fillL]
  | x :: l, t, 0 => by simp [fillL]
  | x :: l, t, i + 1 => by
    have := fillL_at ds vals l (t + 1) i
    rw [show t + 1 + i = t + (i + 1) by omega] at this
    simpa [fillL] using this
def fillA (a0: Act) (ds: List Nat) (vals: Nat -> Value): List Value:=fillL ds vals 0 a0.tmps.toList
theorem act_fill {a0 a : Act} {ds : List Nat} (h : AtDoor a0 ds a.eval) (hs : a.tmps.size = a0.tmps.size) (hd : a.defers = a0.defers) : a = ⟨(fillA a0 ds fun t => a.eval (.tmp t)).toArray, a0.defers⟩ := by
  obtain ⟨tmps, defers⟩ := a
  obtain rfl : defers = a0.defers := hd
  congr 1
  apply Array.toList_inj.mp
  apply List.ext_getElem?
  intro t
  unfold fillA
  rw [fillL_at, Nat.zero_add]
  rcases Nat.lt_or_ge t tmps.size with ht | ht
  · have ht0 : t < a0.tmps.toList.length := by simpa [<- hs] using ht
    have e1 : (Act.mk tmps a0.defers).eval (.tmp t) = tmps[t] := by
      show tmps.getD t undef = _
      simp [ht]
    rw [List.getElem?_eq_getElem ht0, List.getElem?_eq_getElem (by simpa using ht)]
    simp only [Option.map_some, Array.getElem_toList, Option.some.injEq]
    cases hc : ds.contains t with
    | true => exact e1.symm
    | false =>
      have := h.tmp t (fun q => by rw [List.contains_iff_mem.mpr q] at hc; cases hc)
      rw [e1] at this
      rw [this]
      show a0.tmps.getD t undef = _
      have ht1 : t < a0.tmps.size := by simpa using ht0
      simp [ht1]
  · rw [List.getElem?_eq_none (by simpa using ht), List.getElem?_eq_none (by simpa [<- hs] using ht)]
    rfl
end
section
variable {P: Program} {ops: Array Oper} {Q: Exit -> Act -> World -> Prop}
theorem fds_mem {ds: List Nat} {k: Nat} (hk: k < ds.length): ds.getD k 0 ∈ ds:=by
 rw [List.getD_eq_getElem?_getD,List.getElem?_eq_getElem hk]
 exact List.getElem_mem hk
theorem fds_inj {ds: List Nat} (h: ds.Nodup) {k j: Nat} (hk: k < ds.length) (hj: j < ds.length) (e: ds.getD k 0 = ds.getD j 0): k = j:=by
 rw [List.getD_eq_getElem?_getD,List.getElem?_eq_getElem hk,List.getD_eq_getElem?_getD,List.getElem?_eq_getElem hj] at e
 exact (List.getElem_inj h).mp e
theorem fx_val {o: Oper} {a: Act} {w: World} {k: Nat} {Φ: Nat -> Value -> World -> Prop} {K: Act -> World -> Prop} (hK: ∀ v w',Φ k v w' -> Below w.heap.size w w' -> K (a.put o.dst v) w') {ρ: Operand -> Value} (hρ: a.eval = ρ) (v: Value) (hr: (execOp ρ o).run P w = .ok (.value v) w) (hv: Φ k v w): o.wp P a w K Q:=by
 subst hρ
 unfold Oper.wp
 rw [hr,Oper.upon_value]
 exact hK v w hv (Below.refl _ _)
theorem fx_call {o: Oper} {a: Act} {w: World} {k: Nat} {Φ: Nat -> Value -> World -> Prop} {K: Act -> World -> Prop} (hK: ∀ v w',Φ k v w' -> Below w.heap.size w w' -> K (a.put o.dst v) w') {ρ: Operand -> Value} (hρ: a.eval = ρ) (f: FuncId) (xs: Array Operand) (tys: Array TypeId) (vs: Array Value)
  (ho: o.op = .call { callee:=.value (.func f),args:=xs,argTypes:=tys }) (hxs: xs.map ρ = vs) (eg: ∀ args w,(callFunc f args).run P w = .ok (.enter f args) w)
  (h: Calls P f vs w fun e w' => ∃ v,e = .returned v /\ Φ k v w' /\ Below w.heap.size w w'): o.wp P a w K Q:=by
 subst hρ
 have hr: (execOp a.eval o).run P w = .ok (.enter f vs) w:=by
  have:=eg vs w
  simp [execOp,ho,resolve,hxs,invoke,Deferred.ofValue,Act.eval,this,go_sem]
 unfold Oper.wp
 rw [hr,Oper.upon_enter]
 refine h.mono fun e w' ⟨v,he,hv,hb⟩ => ?_
 subst he
 exact hK v w' hv hb
end
end Go.Proofs.YtlfekmbalgkmeaaGreatDoor
