import Derived.Test.YtlfekmbalgkmeaaGreatDoorXM29
import Derived.Test.YtlfekmbalgkmeaaGreatDoorXM30
import Derived.Test.YtlfekmbalgkmeaaGreatDoorXM31
import Derived.Test.YtlfekmbalgkmeaaGreatDoorXM35
import Derived.Test.YtlfekmbalgkmeaaGreatDoorXM36
set_option linter.unusedSimpArgs false
set_option linter.unnecessarySimpa false
set_option linter.unusedVariables false
set_option maxRecDepth 100000
set_option maxHeartbeats 16000000
namespace Go.Proofs.YtlfekmbalgkmeaaGreatDoor
open Go Go.RowKit
structure HeavyAt (S: List Shp) (C: List (List Int)) (i: Nat) (s: Shp) (k u: Nat): Prop where
 cs: C[i]? = some (upto (u: Int) k)
 u0: usedP (S.take i) = (u: Int)
 u1: usedP (S.take (i + 1)) = ((u + k: Nat): Int)
 le: u + k <= 8
 b: (1 <= s.l /\ s.l <= 4096) /\ (1 <= s.t /\ s.t <= 4096) /\ 1 <= s.d /\ s.d <= 4096
 ld: s.l < s.d
 m1: s.t - s.l <= (k: Int) * (s.d - s.l)
 m2: ((k: Int) - 1) * (s.d - s.l) < s.t - s.l
theorem AdmOk.heavyAt {Ts: List Task} {m: Int} {S: List Shp} {C: List (List Int)} {L: List Int} (h: AdmOk Ts m S C L) {i: Nat} {s: Shp} (hs: S[i]? = some s) (hh: heavyS s = true): ∃ k u: Nat,HeavyAt S C i s k u:=by
 have hg:=h.good s (List.mem_of_getElem? hs)
 obtain ⟨p1,p2,p3,p4,p5⟩:=coresS_pos hg
 obtain ⟨q1,q2,q3⟩:=p5 hh
 have hu:=usedP_take h.good i
 have hu2:=usedP_take h.good (i + 1)
 have hn:=usedP_next hs
 rw [if_pos hh] at hn
 have hm:=h.used
 have hm8:=h.may.2.2
 obtain ⟨k,hk⟩: ∃ k: Nat,(k: Int) = coresS s:=⟨(coresS s).toNat,by omega⟩
 obtain ⟨u,hu'⟩: ∃ u: Nat,(u: Int) = usedP (S.take i):=⟨(usedP (S.take i)).toNat,by omega⟩
 obtain ⟨e1,e2,e3⟩:=many_spec p3 q3 q1
 rw [<- q2,<- hk] at e1 e2 e3
 have hp:=p3.le
 obtain ⟨⟨t0,t1⟩,⟨l0,l1⟩,⟨m0,m1⟩,-,d0,d1⟩:=p3
 refine ⟨k,u,?_,hu'.symm,by omega,by omega,⟨⟨by omega,by omega⟩,⟨by omega,by omega⟩,by omega,by omega⟩,q1,e2,e3⟩
 rw [h.at_,atP_at hs,if_pos hh,Int.zero_add,<- hu',<- hk,Int.toNat_natCast]
theorem AdmOk.lightAt {S: List Shp} {i: Nat} {s: Shp} (hs: S[i]? = some s) (hh: heavyS s = false): usedP (S.take (i + 1)) = usedP (S.take i):=by
 have hn:=usedP_next hs
 rw [if_neg (by simp [hh])] at hn
 omega
theorem upto_not (k: Nat): ((k: Int)) ∉ upto 0 k:=fun h => by
 have:=upto_mem.mp h
 omega
section
variable {P: Program} {ops: Array Oper} {Q: Exit -> Act -> World -> Prop}
theorem wp_region_univ2 (ds : List Nat) (wt : List Bool) {id : Nat} {a0 : Act} {w0 : World} (hm : P.follows .mixedOrders = true) (hG : univB ops ds wt = true) (hsz : ∀ d ∈ ds, d < a0.tmps.size \/ 1000 <= d) (hs1 : a0.tmps.size <= 1000)
    (I : World -> Prop) (Φ : Nat -> Value -> World -> Prop) (Pre : Nat -> World -> Prop) (R : Nat -> World -> World -> Prop)
    (hI : ∀ i w w', I w -> R i w w' -> I w') (hΦ : ∀ i k v w w', k ≠ i -> (∀ p : Oper, ops[k]? = some p -> (p.after.any fun e => e.on == i && Region.binds .any e) = false) -> Φ k v w -> R i w w' -> Φ k v w') (hP : ∀ i k w w', k ≠ i -> (∀ p : Oper, ops[i]? = some p -> (p.after.any fun e => e.on == k && Region.binds .any e) = false) -> Pre k w -> R i w w' -> Pre k w')
    (h0 : I { w0 with drawn := w0.drawn + 1 }) (hp0 : ∀ k, Pre k { w0 with drawn := w0.drawn + 1 })
    (hW : ∀ (k : Nat) (o : Oper) (g : Nat) (b : Bool), ops[k]? = some o -> o.guard = some (g, b) -> ∀ v w, Φ g v w -> v = .bool (if wt.getD k true = true then b else !b))
    (hskip : ∀ k, wt.getD k true = false -> ∀ w, R k w w /\ ∀ u, (ds.getD k 0 < 1000 -> u = undef) -> Φ k u w)
    (hstep : ∀ (k : Nat) (o : Oper), ops[k]? = some o -> wt.getD k true = true -> ∀ (a : Act) (w : World), I w -> Pre k w -> AtDoor a0 ds a.eval -> (∀ e ∈ o.after, Region.binds .any e = true -> Φ e.on (a.eval (.tmp (ds.getD e.on 0))) w) ->
      (∀ (j : Nat) (p : Oper), ops[j]? = some p -> (p.after.any fun e => e.on == k && Region.binds .any e) = true -> a.eval (.tmp (ds.getD j 0)) = a0.eval (.tmp (ds.getD j 0))) ->
      ∀ K : Act -> World -> Prop, (∀ v w', (∀ u, (ds.getD k 0 < 1000 -> u = v) -> Φ k u w') -> R k w w' -> K (a.put o.dst v) w') -> o.wp P a w K Q)
    (hend : ∀ (vals : Nat -> Value) (w : World), I w -> (∀ k, k < ds.length -> Φ k (vals (ds.getD k 0)) w) -> Q .normal ⟨(fillA a0 ds vals).toArray, a0.defers⟩ w) :
    (Code.region id ops true).wp P Q a0 w0 := by
  have G := univ_of hG
  refine wp_region_inv (fun l a w => l.size = ds.length /\ I w /\ AtDoor a0 ds a.eval /\ a.tmps.size = a0.tmps.size /\ a.defers = a0.defers /\ (∀ k, k < ds.length -> l.getD k false = true -> Φ k (a.eval (.tmp (ds.getD k 0))) w) /\ (∀ k, k < ds.length -> l.getD k false = false -> Pre k w /\ a.eval (.tmp (ds.getD k 0)) = a0.eval (.tmp (ds.getD k 0))) /\ (∀ (j : Nat) (p : Oper), ops[j]? = some p -> l.getD j false = true -> ∀ e ∈ p.after, Region.binds .any e = true -> l.getD e.on false = true)) hm ?_ ?_ ?_
  · refine ⟨by rw [Array.size_replicate]; exact G.size, h0, atDoor_start a0 ds, rfl, rfl, fun k hk h => ?_, fun k hk _ => ⟨hp0 k, rfl⟩, fun j p _ h => ?_⟩
    · exfalso
      by_cases h2 : k < ops.size <;> simp [h2] at h
    · exfalso
      by_cases h2 : j < ops.size <;> simp [h2] at h
  · rintro l a w i ⟨hls, hIw, hAD, hasz, hadf, hF, hU, hC⟩ hi
    obtain ⟨hun, o, ho, hpre⟩ := mem_ready.1 hi
    have hilt : i < ops.size := (Array.getElem?_eq_some_iff.1 ho).1
    have hin : i < ds.length := by rw [<- G.size]; exact hilt
    have hil : i < l.size := by omega
    have hdep : ∀ e ∈ o.after, Region.binds .any e = true -> Φ e.on (a.eval (.tmp (ds.getD e.on 0))) w := fun e he hb => hF e.on (Nat.lt_trans (G.back i o ho e he hb) hin) (hpre e he hb)
    have hili : l.getD i false = false := by
      cases h : l.getD i false with
      | false => rfl
      | true =>
        exfalso
        simp [hil] at h hun
        rw [h] at hun
        cases hun
    have hnext : ∀ v w', (∀ u, (ds.getD i 0 < 1000 -> u = v) -> Φ i u w') -> R i w w' -> (l.setIfInBounds i true).size = ds.length /\ I w' /\ AtDoor a0 ds (a.put o.dst v).eval /\ (a.put o.dst v).tmps.size = a0.tmps.size /\ (a.put o.dst v).defers = a0.defers /\ (∀ k, k < ds.length -> (l.setIfInBounds i true).getD k false = true -> Φ k ((a.put o.dst v).eval (.tmp (ds.getD k 0))) w') /\ (∀ k, k < ds.length -> (l.setIfInBounds i true).getD k false = false -> Pre k w' /\ (a.put o.dst v).eval (.tmp (ds.getD k 0)) = a0.eval (.tmp (ds.getD k 0))) /\ (∀ (j : Nat) (p : Oper), ops[j]? = some p -> (l.setIfInBounds i true).getD j false = true -> ∀ e ∈ p.after, Region.binds .any e = true -> (l.setIfInBounds i true).getD e.on false = true) := fun v w' hphi hr => by
      have hother : ∀ k, k < ds.length -> k ≠ i -> (a.put o.dst v).eval (.tmp (ds.getD k 0)) = a.eval (.tmp (ds.getD k 0)) := fun k hk hki => by
        rcases G.dst i o ho with ⟨_, hd⟩ | ⟨_, hd⟩
        · rw [hd]
          exact eval_put_other _ _ _ _ (fun e => hki (fds_inj G.nodup hk hin e))
        · rw [hd]; rfl
      have hself : (a.put o.dst v).eval (.tmp (ds.getD i 0)) = v \/ ¬ ds.getD i 0 < 1000 := by
        rcases G.dst i o ho with ⟨h1, hd⟩ | ⟨h1, hd⟩
        · left
          rw [hd]
          refine eval_put_same _ _ _ ?_
          rw [hasz]
          rcases hsz _ (fds_mem hin) with h | h
          · exact h
          · omega
        · right; omega
      refine ⟨by rw [Array.size_setIfInBounds]; exact hls, hI i w w' hIw hr, ?_, ?_, ?_, fun k hk hkl => ?_, fun k hk hkl => ?_, fun j p hp hjl e he hb2 => (getD_set_iff hil).mpr (.inr ?_)⟩
      · rcases G.dst i o ho with ⟨_, hd⟩ | ⟨_, hd⟩
        · rw [hd]; exact hAD.put (fds_mem hin) v
        · rw [hd]; exact hAD
      · rcases G.dst i o ho with ⟨_, hd⟩ | ⟨_, hd⟩
        · rw [hd]
          show (a.tmps.setIfInBounds _ _).size = _
          rw [Array.size_setIfInBounds]; exact hasz
        · rw [hd]; exact hasz
      · rcases G.dst i o ho with ⟨_, hd⟩ | ⟨_, hd⟩ <;> rw [hd] <;> exact hadf
      · by_cases hki : k = i
        · subst hki
          refine hphi _ fun h1 => ?_
          rcases hself with h | h
          · exact h
          · exact absurd h1 h
        · rw [hother k hk hki]
          have hlk := (listed_set hkl).resolve_left hki
          refine hΦ i k _ _ _ hki (fun p hp => ?_) (hF k hk hlk) hr
          cases hany : p.after.any fun e => e.on == i && Region.binds .any e with
          | false => rfl
          | true =>
            obtain ⟨e, he, h8⟩ := Array.any_eq_true'.1 hany
            rw [Bool.and_eq_true, beq_iff_eq] at h8
            have h9 := hC k p hp hlk e he h8.2
            rw [h8.1, hili] at h9
            cases h9
      · have hki : k ≠ i := fun e => by
          have h2 := (getD_set_iff (k := k) hil).mpr (.inl e)
          rw [hkl] at h2; cases h2
        rw [hother k hk hki]
        have hlk : l.getD k false = false := by
          cases h : l.getD k false with
          | false => rfl
          | true =>
            have h2 := (getD_set_iff (k := k) hil).mpr (.inr h)
            rw [hkl] at h2; cases h2
        have h3 := hU k hk hlk
        refine ⟨hP i k w w' hki (fun p hp => ?_) h3.1 hr, h3.2⟩
        cases hany : p.after.any fun e => e.on == k && Region.binds .any e with
        | false => rfl
        | true =>
          obtain ⟨e, he, h8⟩ := Array.any_eq_true'.1 hany
          rw [Bool.and_eq_true, beq_iff_eq] at h8
          rw [ho] at hp
          obtain rfl := Option.some.inj hp
          have h9 := hpre e he h8.2
          rw [h8.1, hlk] at h9
          cases h9
      · rcases (getD_set_iff hil).mp hjl with rfl | h
        · rw [ho] at hp
          obtain rfl := Option.some.inj hp
          exact hpre e he hb2
        · exact hC j p hp h e he hb2
    have hlate : ∀ (j : Nat) (p : Oper), ops[j]? = some p -> (p.after.any fun e => e.on == i && Region.binds .any e) = true -> a.eval (.tmp (ds.getD j 0)) = a0.eval (.tmp (ds.getD j 0)) := fun j p hp hany => by
      obtain ⟨e, he, h8⟩ := Array.any_eq_true'.1 hany
      rw [Bool.and_eq_true, beq_iff_eq] at h8
      refine (hU j (by rw [<- G.size]; exact (Array.getElem?_eq_some_iff.1 hp).1) ?_).2
      cases h : l.getD j false with
      | false => rfl
      | true =>
        have h2 := hC j p hp h e he h8.2
        rw [h8.1, hili] at h2
        cases h2
    unfold wpOp
    rw [ho]
    have hyield : ∀ g b, o.guard = some (g, b) -> yielded ops a.tmps g = some (if wt.getD i true = true then b else !b) := fun g b hg => by
      obtain ⟨hgi, e, he, h1, h2⟩ := G.guard i o g b ho hg
      have hv := hW i o g b ho hg _ _ (by have := hdep e he h2; rwa [h1] at this)
      obtain ⟨og, hog⟩ : ∃ og, ops[g]? = some og := ⟨_, Array.getElem?_eq_getElem (by omega)⟩
      rcases G.dst g og hog with ⟨hd0, hd⟩ | ⟨hd0, hd⟩
      · unfold yielded
        rw [hog, Option.bind_some, hd, Option.bind_some]
        have hlt : ds.getD g 0 < a.tmps.size := by
          rw [hasz]
          rcases hsz _ (fds_mem (show g < ds.length by omega)) with h | h
          · exact h
          · omega
        rw [Array.getElem?_eq_getElem hlt]
        have : a.tmps[ds.getD g 0] = .bool (if wt.getD i true = true then b else !b) := by
          rw [<- hv]
          show _ = a.tmps.getD (ds.getD g 0) undef
          rw [Array.getD_eq_getD_getElem?, Array.getElem?_eq_getElem hlt]
          rfl
        rw [this]
      · exfalso
        rw [eval_far (by rw [hasz]; omega)] at hv
        cases hv
    cases hw : wt.getD i true with
    | true =>
      have hwant : Region.wanted o (yielded ops a.tmps) = true := by
        unfold Region.wanted
        cases hg : o.guard with
        | none => rfl
        | some gb =>
          obtain ⟨g, b⟩ := gb
          show (yielded ops a.tmps g == some b) = true
          rw [hyield g b hg, hw]
          simp
      simp only [hwant, if_true]
      exact .inl (hstep i o ho hw a w hIw (hU i hin hili).1 hAD hdep hlate _ hnext)
    | false =>
      have hwant : Region.wanted o (yielded ops a.tmps) = false := by
        unfold Region.wanted
        cases hg : o.guard with
        | none =>
          have := G.free i o ho hg
          rw [hw] at this
          cases this
        | some gb =>
          obtain ⟨g, b⟩ := gb
          show (yielded ops a.tmps g == some b) = false
          rw [hyield g b hg, hw]
          cases b <;> rfl
      simp only [hwant]
      exact hnext undef w (hskip i hw w).2 (hskip i hw w).1
  · rintro l a w ⟨hls, hIw, hAD, hasz, hadf, hF, _, _⟩ hr
    have hall := all_listed' (by rw [hls, G.size]) G.back hr
    rw [act_fill hAD hasz hadf]
    exact hend (fun t => a.eval (.tmp t)) w hIw fun k hk => hF k hk (hall k (by rw [G.size]; exact hk))
end
theorem grown_set {w: World} {q k: Nat} (x: Value): w.grownBy (w.setCell ⟨q,k,none⟩ x) (some q) :=
 ⟨rfl,rfl,rfl,by simp,fun t _ hne => Below.heap_setCell w ⟨q,k,none⟩ x t (fun e => hne (by rw [e]))⟩
theorem grown_below {w w': World} (h: Below w.heap.size w w'): w.grownBy w' none:=⟨h.os,h.tape,h.output,h.size,fun k hk _ => h.block k hk⟩
def OwnC (w: World) (B: Nat) (v: Value) (L: List Value): Prop:=w.ownsRow B 40 1 v L.length L
def EachC (w: World) (B: Nat) (L: List Value) (C: List (List Int)): Prop:=∀ (k: Nat) x r,L[k]? = some x -> C[k]? = some r -> ∃ F d,x = .slice F r.length d /\ OwnI w B x r
theorem ints_ne: (3: TypeId) ≠ 40:=by decide
theorem plan_ne1: (40: TypeId) ≠ 28:=by decide
theorem plan_ne2: (3: TypeId) ≠ 28:=by decide
theorem plan_ne3: (44: TypeId) ≠ 28:=by decide
theorem EachC.grown {w w': World} {B: Nat} {L: List Value} {C: List (List Int)} {row: Option Nat} (h: EachC w B L C) (hg: w.grownBy w' row) (hr: ∀ e,row = some e -> ∃ cs ty,w.heap[e]? = some (.cells cs ty (0,0)) /\ 3 ≠ ty): EachC w' B L C:=fun k x r hx hc => by
 obtain ⟨F,d,e,hO⟩:=h k x r hx hc
 refine ⟨F,d,e,own_grown hO hg fun g hv e2 => ?_⟩
 obtain ⟨cs,ty,h1,h2⟩:=hr g e2
 exact own_ne hO h1 h2 hv
theorem slices_info17: (Tryz.prog.info? 40).map (fun i => (i.zero,i.size,i.bytes)) = some (some (.slice none 0 0),1,24):=by kernel_rfl
theorem slices_info : ∃ i, Tryz.prog.info? 40 = some i /\ i.zero = some (.slice none 0 0) /\ i.size = 1 /\ i.bytes = 24 := by
  have h := slices_info17
  cases hi : Tryz.prog.info? 40 with
  | none => rw [hi] at h; cases h
  | some i =>
    rw [hi] at h
    simp at h
    exact ⟨i, rfl, h.1, h.2.1, h.2.2⟩
theorem push_list {w : World} {base b j : Nat} {v x : Value} {L : List Value} (hL : L.length = j) (hO : OwnC w base v L) (hb : w.heap[b]? = some (.cells #[x] 40 (0, 0))) (hx : x.oneCell' = true) (hl : j <= 900) (hB : base <= w.heap.size) :
    ∃ F d w', (Builtin.append_ #[26, 26] 26 #[v, .slice (some ⟨b, 0, none⟩) 1 1]).run Tryz.prog w = .ok (.slice F (j + 1) d) w' /\ OwnC w' base (.slice F (j + 1) d) (L ++ [x]) /\ w.grownBy w' v.ownBlock := by
  obtain ⟨i0, hi0, hz0, hz1, hz2⟩ := slices_info
  obtain ⟨v', w', hr, ho, hg, -⟩ := run_append_own (P := Tryz.prog) w base 26 26 40 i0 (.slice none 0 0) 1 24 Tryz.underlying26 hi0 hz0 hz1 hz2 rfl (by decide) v L.length L hO ⟨b, 0, none⟩ 1 1 [x] rfl
    (fun j u hj => by
      match j with
      | 0 =>
        obtain rfl : x = u := by simpa using hj
        rw [addr_add]
        exact cell_of_row _ _ _ _ _ _ hb ▸ rfl
      | j + 1 => simp at hj) (fun u hu => by obtain rfl : u = x := by simpa using hu
                                             exact hx) (by unfold maxLen; omega) (by omega) hB
  have hO' : OwnC w' base v' (L ++ [x]) := by
    unfold OwnC
    rw [List.length_append, List.length_singleton]
    exact ho
  obtain ⟨F, d, rfl⟩ := own_slice ho
  rw [hL] at hr hO'
  exact ⟨F, d, w', hr, hO', hg⟩
structure IPn (wf: World) (B g: Nat) (p1 p2: Value) (vS: Value) (S: List Shp) (L: List Value) (C: List (List Int)) (w: World): Prop where
 bel: Below B wf w
 src: RowV g 28 [p1,p2] w
 shp: OwnS w B vS S
 each: EachC w B L C
theorem IPn.grown {wf w w': World} {B g: Nat} {p1 p2 vS: Value} {S: List Shp} {L: List Value} {C: List (List Int)} {row: Option Nat} (h: IPn wf B g p1 p2 vS S L C w) (hg: w.grownBy w' row) (hB: B <= w.heap.size) (hr: ∀ e,row = some e -> B <= e /\ e ≠ g /\ ∃ cs ty,w.heap[e]? = some (.cells cs ty (0,0)) /\ (ty = 40 \/ ty = 28)): IPn wf B g p1 p2 vS S L C w':=by
 refine ⟨h.bel.grown hg hB (fun e he => (hr e he).1),heap_grown hg h.src (fun e => (hr _ e).2.1 rfl),own_grown h.shp hg fun e hv e2 => ?_,h.each.grown hg fun e he => ?_⟩
 ·obtain ⟨_,_,cs,ty,h1,h2⟩:=hr e e2
  exact own_ne h.shp h1 (by rcases h2 with rfl | rfl <;> decide) hv
 ·obtain ⟨_,_,cs,ty,h1,h2⟩:=hr e he
  exact ⟨cs,ty,h1,by rcases h2 with rfl | rfl <;> decide⟩
section
variable {wf: World} {B g q j: Nat} {vS vG: Value} {G: Option Addr} {m d b off: Nat} {A1: Option Addr} {n1 c1: Nat} {cj: List Int} {S: List Shp} {L: List Value} {C: List (List Int)}
def PhiPn (B g q j: Nat) (vS vG: Value) (G: Option Addr) (m d b off: Nat) (A1: Option Addr) (n1 c1: Nat) (cj: List Int) (L: List Value): Nat -> Value -> World -> Prop
 | 0,v,w => v = .pointer (some ⟨q,1,none⟩)
 | 1,v,w => v = vG
 | 2,v,w => ∃ e,v = .slice (some ⟨e,0,none⟩) 0 0 /\ w.heap[e]? = some (.cells #[] 3 (0,0)) /\ B <= e
 | 3,v,w => v = .pointer (some ⟨g,1,none⟩)
 | 4,v,w => v = .slice G m d
 | 5,v,w => v = .int .i64 j
 | 6,v,w => v = .pointer (some ⟨b,off + j,none⟩)
 | 7,v,w => v = .slice A1 n1 c1
 | 8,v,w => ∃ F k,v = .slice F n1 k /\ OwnI w B (.slice F n1 k) cj
 | 9,v,w => ∃ e F k,v = .slice (some ⟨e,0,none⟩) 1 1 /\ w.heap[e]? = some (.cells #[.slice F n1 k] 40 (0,0)) /\ vG.ownBlock ≠ some e /\ OwnI w B (.slice F n1 k) cj
 | 10,v,w => ∃ F k F1 k1,v = .slice F (j + 1) k /\ OwnC w B (.slice F (j + 1) k) (L ++ [.slice F1 n1 k1]) /\ OwnI w B (.slice F1 n1 k1) cj
 | 11,v,w => v = .pointer (some ⟨q,1,none⟩)
 | 12,v,w => ∃ F k F1 k1,RowV q 28 [vS,.slice F (j + 1) k] w /\ OwnC w B (.slice F (j + 1) k) (L ++ [.slice F1 n1 k1]) /\ OwnI w B (.slice F1 n1 k1) cj
 | _,_,_ => True
def PrePn (B q: Nat) (vS vG: Value) (L: List Value): Nat -> World -> Prop
 | 1,w => RowV q 28 [vS,vG] w
 | 10,w => OwnC w B vG L
 | 12,w => RowV q 28 [vS,vG] w
 | _,_ => True
def RPn (B q: Nat) (vS vG: Value) (L: List Value): Nat -> World -> World -> Prop
 | 10,w,w' => OwnC w B vG L /\ w.grownBy w' vG.ownBlock
 | 12,w,w' => RowV q 28 [vS,vG] w /\ ∃ x,w' = w.setCell ⟨q,1,none⟩ x
 | _,w,w' => Below w.heap.size w w'
theorem rPn_ways {i: Nat} {w w': World} (h: RPn B q vS vG L i w w'): (i = 10 /\ OwnC w B vG L /\ w.grownBy w' vG.ownBlock) \/ (i = 12 /\ RowV q 28 [vS,vG] w /\ ∃ x,w' = w.setCell ⟨q,1,none⟩ x) \/ (i ≠ 10 /\ i ≠ 12 /\ Below w.heap.size w w'):=by
 by_cases h10: i = 10
 ·subst h10; exact .inl ⟨rfl,h⟩
 ·by_cases h12: i = 12
  ·subst h12; exact .inr (.inl ⟨rfl,h⟩)
  ·refine .inr (.inr ⟨h10,h12,?_⟩)
   unfold RPn at h
   split at h
   ·exact absurd rfl h10
   ·exact absurd rfl h12
   ·exact h
theorem rPn_grown {i: Nat} {w w': World} (hq: B <= q) (hqg: q ≠ g) (hgv: ∀ e,vG.ownBlock = some e -> e ≠ g) (h: RPn B q vS vG L i w w'): ∃ row,w.grownBy w' row /\ ∀ e,row = some e -> B <= e /\ e ≠ g /\ ∃ cs ty,w.heap[e]? = some (.cells cs ty (0,0)) /\ (ty = 40 \/ ty = 28):=by
 rcases rPn_ways h with ⟨_,hO,hg⟩ | ⟨_,hR,x,rfl⟩ | ⟨_,_,hb⟩
 ·refine ⟨_,hg,fun e he => ?_⟩
  obtain ⟨h1,cur,h2⟩:=own_at hO he
  exact ⟨h1,hgv e he,cur,_,h2,.inl rfl⟩
 ·refine ⟨_,grown_set x,fun e he => ?_⟩
  injection he with he
  subst he
  exact ⟨hq,hqg,_,_,hR,.inr rfl⟩
 ·exact ⟨none,grown_below hb,fun e he => by cases he⟩
theorem own_step {ty: TypeId} {sz n: Nat} {v: Value} {xs: List Value} {i: Nat} {w w': World} (hO: w.ownsRow B ty sz v n xs) (h1: ty ≠ 40) (h2: ty ≠ 28) (h: RPn B q vS vG L i w w'): w'.ownsRow B ty sz v n xs:=by
 rcases rPn_ways h with ⟨_,hG,hg⟩ | ⟨_,hR,x,rfl⟩ | ⟨_,_,hb⟩
 ·exact own_grown hO hg (fun g hv => own_apart hO hG h1 g hv)
 ·refine own_grown hO (grown_set x) fun g hv e => ?_
  injection e with e
  subst e
  exact own_ne hO hR h2 hv
 ·exact own_below hO hb
theorem phiPn_keep {i k : Nat} {v : Value} {w w' : World} (hki : k ≠ i) (hx : ¬ (k = 12 /\ i = 10)) (hx2 : ¬ (k = 11 /\ i = 10)) (hy : ¬ (k = 12 /\ i = 12)) (h : PhiPn B g q j vS vG G m d b off A1 n1 c1 cj L k v w) (hr : RPn B q vS vG L i w w') : PhiPn B g q j vS vG G m d b off A1 n1 c1 cj L k v w' := by
  have hl : ∀ {e : Nat} {cs : Array Value} {ty : TypeId}, w.heap[e]? = some (.cells cs ty (0, 0)) -> ty ≠ 28 -> (ty = 40 -> vG.ownBlock ≠ some e) -> w'.heap[e]? = some (.cells cs ty (0, 0)) := fun {e cs ty} he hty hne => by
    rcases rPn_ways hr with ⟨_, hG, hg⟩ | ⟨_, hR, x, rfl⟩ | ⟨_, _, hb⟩
    · refine heap_grown hg he fun e2 => ?_
      by_cases h3 : ty = 40
      · exact hne h3 e2
      · exact own_ne hG he (fun z => h3 z.symm) e2
    · refine heap_grown (grown_set x) he fun e2 => ?_
      injection e2 with e2
      subst e2
      unfold RowV at hR
      rw [he] at hR
      injection hR with hR
      injection hR with _ hR
      exact hty hR
    · exact heap_below hb he
  match k, h with
  | 0, h => exact h
  | 1, h => exact h
  | 2, ⟨e, h1, h2, h3⟩ => exact ⟨e, h1, hl h2 plan_ne2 (fun z => absurd z ints_ne), h3⟩
  | 3, h => exact h
  | 4, h => exact h
  | 5, h => exact h
  | 6, h => exact h
  | 7, h => exact h
  | 8, ⟨F, k, h1, h2⟩ => exact ⟨F, k, h1, own_step h2 ints_ne plan_ne2 hr⟩
  | 9, ⟨e, F, k, h1, h2, h3, h4⟩ => exact ⟨e, F, k, h1, hl h2 plan_ne1 (fun _ => h3), h3, own_step h4 ints_ne plan_ne2 hr⟩
  | 10, ⟨F, k, F1, k1, h1, h2, h3⟩ =>
    refine ⟨F, k, F1, k1, h1, ?_, own_step h3 ints_ne plan_ne2 hr⟩
    rcases rPn_ways hr with ⟨rfl, hG, hg⟩ | ⟨_, hR, x, rfl⟩ | ⟨_, _, hb⟩
    · exact absurd rfl hki
    · refine own_grown h2 (grown_set x) fun g hv e => ?_
      injection e with e
      subst e
      exact own_ne h2 hR plan_ne1 hv
    · exact own_below h2 hb
  | 11, h => exact h
  | 12, ⟨F, k, F1, k1, h1, h2, h3⟩ =>
    rcases rPn_ways hr with ⟨rfl, hG, hg⟩ | ⟨rfl, hR, x, rfl⟩ | ⟨_, _, hb⟩
    · exact absurd ⟨rfl, rfl⟩ hx
    · exact absurd rfl hki
    · exact ⟨F, k, F1, k1, heap_below hb h1, own_below h2 hb, own_below h3 hb⟩
  | k + 13, h => exact trivial
end
theorem fresh_int17 {w: World} {base e: Nat} (he: w.heap[e]? = some (.cells #[] 3 (0,0))) (hbe: base <= e) (hbw: base <= w.heap.size) {A: Option Addr} {n c: Nat} {zs: List Int} (hn: zs.length = n) (hl: n <= 1000) {B: Nat} (hI: Ints w B A zs) (hA: A = none -> n = 0 /\ c = 0) :
  ∃ A1 c1 w',(Builtin.append_ #[40,40] 40 #[.slice (some ⟨e,0,none⟩) 0 0,.slice A n c]).run Tryz.prog w = .ok (.slice A1 n c1) w' /\ OwnI w' base (.slice A1 n c1) zs /\ Below w.heap.size w w':=by
 obtain ⟨i0,hi,hz0,hz1,hz2⟩:=int_info
 subst hn
 obtain ⟨v',w',hr,ho,hb⟩:=fresh_append (P:=Tryz.prog) w 40 40 3 i0 (.int .i64 0) 1 8 Tryz.underlying40 hi hz0 hz1 hz2 rfl (by decide) base e he hbe hbw A zs.length c (zs.map (Value.int .i64)) (by simp) hA (fun ad e => by subst e; exact hI.cells) (oneCell_ints zs) (by unfold maxLen; omega) (by omega)
 have ho2: OwnI w' base v' zs:=ho
 obtain ⟨A1,c1,rfl,_⟩:=ho2.slice
 exact ⟨A1,c1,w',hr,ho2,hb⟩
theorem OwnC.lol {w: World} {B j k: Nat} {F: Option Addr} {L: List Value} {C: List (List Int)} (h: OwnC w B (.slice F j k) L) (hL: L.length = j) (hE: EachC w B L C) (hC: C.length = j): Lol w w.heap.size F C /\ (F = none -> j = 0 /\ k = 0):=by
 refine ⟨fun hp => ?_,fun e => ?_⟩
 ·obtain ⟨g,cap,hv,hc,hlt⟩:=World.ownsRow.form h (by omega)
  injection hv with a1 a2 a3
  subst a1
  refine ⟨g,0,rfl,hlt,fun x r hx => ?_⟩
  have hxl: x < L.length:=by have:=(List.getElem?_eq_some_iff.1 hx).1; omega
  have hl: L[x]? = some L[x]:=List.getElem?_eq_getElem hxl
  obtain ⟨F1,d1,e,hO⟩:=hE x _ r hl hx
  obtain ⟨A1,c1,e2,hI,hz⟩:=Ints.cap hO
  refine ⟨A1,c1,?_,hI,hz⟩
  have:=World.ownsRow.cells h (g:=g) rfl x _ hl
  rw [e2] at this
  rw [addr_add] at this
  exact this
 ·subst e
  rcases h.2 with ⟨e,h0⟩ | ⟨g',cap,cur,e,_⟩
  ·injection e with _ e2 e3
   exact ⟨by omega,e3⟩
  ·injection e with e1 _ _; cases e1
theorem plan17_any {A : Option Addr} {n c : Nat} {G : Option Addr} {m d : Nat} {S : List Shp} {C : List (List Int)} (wf : World) (h : IsPl wf A n c G m d S C) (hf : FewP S C) :
    Calls Tryz.prog 17 #[.agg #[.slice A n c, .slice G m d]] wf fun e w' => ∃ A1 c1 G1 d1, e = .returned (.agg #[.slice A1 n c1, .slice G1 m d1]) /\ IsPl w' A1 n c1 G1 m d1 S C /\ Below wf.heap.size wf w' := by
  obtain ⟨g, hg⟩ : ∃ g, g = wf.heap.size := ⟨_, rfl⟩
  obtain ⟨w0, hw0⟩ : ∃ w0, w0 = (wf.alloc (.cells #[.slice A n c, .slice G m d] 28)).alloc (.cells #[.slice none 0 0, .slice none 0 0] 28) := ⟨_, rfl⟩
  have b0 : Below wf.heap.size wf w0 := by rw [hw0]; exact (below_alloc _).trans ((below_alloc _).mono (by simp))
  have r1 : RowV g 28 [.slice A n c, .slice G m d] w0 := by rw [hw0, hg]; exact (RowV.new wf _ _).alloc _
  have r2 : RowV (g + 1) 28 [.slice none 0 0, .slice none 0 0] w0 := by
    have := RowV.new (wf.alloc (.cells #[.slice A n c, .slice G m d] 28)) 28 [.slice none 0 0, .slice none 0 0]
    rw [hw0, hg]
    simpa using this
  have bE : Below w0.heap.size w0 (w0.alloc (.cells #[] 44)) := below_alloc _
  obtain ⟨FS, kS, w1, hr, hO, b1⟩ := fresh_shps (w := w0.alloc (.cells #[] 44)) (base := w0.heap.size) ⟨w0.heap.size, rfl, heap_alloc_new w0 _, Nat.le_refl _⟩ (by simp) (c := c) h.l1 (by have := hf.f1; rw [h.l1] at this; omega) ((h.shp.via b0).via bE) h.z1
  have hs : w0.heap.size = wf.heap.size + 1 + 1 := by rw [hw0]; simp
  have hw1 : w0.heap.size < w1.heap.size := by have := b1.size; simp at this; omega
  have B1 := Lib.hid (show Below wf.heap.size wf w1 from b0.trans ((bE.trans (b1.mono bE.size)).mono b0.size))
  have B01 := bE.trans (b1.mono bE.size)
  have R1 := Lib.hid (show RowV g 28 [.slice A n c, .slice G m d] w1 from r1.below B01 (by rw [hg, hs]; omega))
  have R2 := Lib.hid (show RowV (g + 1) 28 [.slice none 0 0, .slice none 0 0] w1 from r2.below B01 (by rw [hg, hs]; omega))
  have OS := Lib.hid (show OwnS w1 g (.slice FS n kS) S from hO.down (by rw [hg, hs]; omega))
  have HG := Lib.hid (show g = wf.heap.size /\ g + 2 < w1.heap.size from ⟨hg, by rw [hg]; omega⟩)
  have HP := Lib.hid (fun W (b : Below wf.heap.size wf W) => h.via b)
  have HL := Lib.hid (show C.length = m /\ m <= 20 from ⟨h.l2, by have := hf.f2; rw [h.l2] at this; exact this⟩)
  have HF := Lib.hid hf
  have HSl := Lib.hid h.l1
  rw [hs, hw0] at hr
  have HR := Lib.hid hr
  obtain ⟨q, hq⟩ : ∃ q, q = w1.heap.size := ⟨_, rfl⟩
  have HQ := Lib.hid hq
  obtain ⟨w2, hw2⟩ : ∃ w2, w2 = w1.alloc (.cells #[.slice FS n kS, .slice none 0 0] 28) := ⟨_, rfl⟩
  have HW2 := Lib.hid hw2
  have b2 : Below w1.heap.size w1 w2 := by rw [hw2]; exact below_alloc _
  have R3 := Lib.hid (show RowV q 28 [.slice FS n kS, .slice none 0 0] w2 from by rw [hq, hw2]; exact RowV.new w1 _ _)
  have I0 := Lib.hid (show IPn wf g g (.slice A n c) (.slice G m d) (.slice FS n kS) S [] C w2 from ⟨by rw [HG.out.1]; exact B1.out.trans (b2.mono B1.out.size), R1.out.below b2 (by have := HG.out.2; omega), OwnS.below OS.out b2, fun k x r hx => by simp at hx⟩)
  have R2 := Lib.hid (R2.out.below b2 (by have := HG.out.2; omega))
  have HQg := Lib.hid (show g < q /\ g + 1 < q from by have := HG.out.2; omega)
  clear b0 r1 r2 bE b1 hO h hf hs hw1 B01 hw0 hr R1 OS hq hw2 b2
  go_enter Tryz.func17, Tryz.ntmps17
  go_wp2_with (at_builtin; refine wpList_append_plainS rfl _ _ 25 _ _ rfl rfl rfl HR.out ?_)
  go_loopw [4] (fun i wr => ∃ (j : Nat) (F : Option Addr) (k : Nat) (L : List Value), j <= m /\ i = .int .i64 j /\ Hid (L.length = j) /\ Hid (IPn wf g g (.slice A n c) (.slice G m d) (.slice FS n kS) S L C wr) /\ Hid (RowV q 28 [.slice FS n kS, .slice F j k] wr) /\ Hid (OwnC wr g (.slice F j k) L) /\ Hid (RowV (g + 1) 28 [.slice none 0 0, .slice none 0 0] wr)) (fun i _ => m - (intOf i).toNat)
  case atStart => exact ⟨0, none, 0, [], Nat.zero_le _, rfl, Lib.hid rfl, Lib.hid (by rw [<- HW2.out]; exact I0.out), Lib.hid (by rw [<- HW2.out]; exact R3.out), Lib.hid ⟨rfl, .inl ⟨rfl, rfl⟩⟩, Lib.hid (by rw [<- HW2.out]; exact R2.out)⟩
  case round =>
    obtain ⟨j, F, k, L, hj, rfl, HLn, HI, HRq, HOC, HRr⟩ := hrel
    clear I0 R3 R2
    by_cases hlt : j < m
    · have hsrc := HI.out.src
      have p0 := hsrc.cell (j := 0) rfl
      have p1 := hsrc.cell (j := 1) rfl
      rw [HG.out.1] at p0 p1
      have HBl := Lib.hid (show Below wf.heap.size wf wr from by rw [<- HG.out.1]; exact HI.out.bel)
      obtain ⟨b, off, cj, A1, n1, c1, rfl, hbl, hcj, hn1, x1, i1, z1⟩ := (HP.out wr HBl.out).lol.at_ (k := j) (by rw [HL.out.1]; exact hlt)
      have HCJ := Lib.hid hcj
      have HN1 := Lib.hid (show cj.length = n1 /\ n1 <= 12 from ⟨hn1, by have := HF.out.f3 _ (List.mem_of_getElem? hcj); omega⟩)
      have HI1 := Lib.hid (fun W (b' : Below wr.heap.size wr W) => (i1.below b').more b'.size)
      have HZ1 := Lib.hid z1
      have hbw : b < wf.heap.size := by
        obtain ⟨b', off', e, hb', _⟩ := (HP.out wf (Below.refl _ _)).lol (by rw [HL.out.1]; omega)
        injection e with e
        injection e with e1 e2
        omega
      have HX := Lib.hid (fun W (b' : Below g wf W) => show W.cell? ⟨b, off + j, none⟩ = some (.slice A1 n1 c1) from by
        have h1 := HBl.out.cell (p := ⟨b, off + j, none⟩) hbw
        have h2 : W.cell? ⟨b, off + j, none⟩ = wf.cell? ⟨b, off + j, none⟩ := b'.cell (by show b < g; rw [HG.out.1]; exact hbw)
        rw [h2, <- h1]
        exact x1)
      have HIW := Lib.hid (fun W (b' : Below g wf W) => show Ints W g A1 cj from fun hp => by
        obtain ⟨b2, off2, r2, A2, n2, c2, e2, hb2, hr2, hn2, x2, i2, z2⟩ := (HP.out wf (Below.refl _ _)).lol.at_ (k := j) (by rw [HL.out.1]; exact hlt)
        injection e2 with e2
        injection e2 with e3 e4
        subst e3 e4
        have h1 := HBl.out.cell (p := ⟨b, off + j, none⟩) hbw
        rw [x1, x2] at h1
        injection h1 with h1
        injection h1 with a1 a2 a3
        subst a1
        rw [hcj] at hr2
        obtain rfl := Option.some.inj hr2
        rw [HG.out.1]
        exact (i2.below (by rw [<- HG.out.1]; exact b')) hp)
      obtain ⟨vG, hvG⟩ : ∃ v, v = Value.slice F j k := ⟨_, rfl⟩
      obtain ⟨vS, hvS⟩ : ∃ v, v = Value.slice FS n kS := ⟨_, rfl⟩
      have HGv := Lib.hid (show ∀ e, vG.ownBlock = some e -> e ≠ g from fun e he e2 => by
        rw [hvG] at he
        subst e2
        exact own_ne HOC.out HI.out.src plan_ne1 he)
      have hgl : ∀ e, vG.ownBlock = some e -> e < wr.heap.size := fun e he => by
        rw [hvG] at he
        obtain ⟨_, cur, hh⟩ := own_at HOC.out he
        exact (Array.getElem?_eq_some_iff.1 hh).1
      have HGl := Lib.hid hgl
      rw [<- hvG] at HRq HOC
      rw [<- hvS] at HRq HI
      have HVS := Lib.hid hvS
      have hgr : g <= wr.heap.size := by rw [HG.out.1]; exact HBl.out.size
      have HGR := Lib.hid hgr
      clear hsrc hcj hn1 x1 i1 z1 hvG hvS hgl hbl hbw hgr
      go_wp2_with fail
      refine wp_region_univ2 [17, 18, 19, 20, 21, 22, 23, 24, 25, 26, 27, 28, 1000] [] (by kernel_rfl) (by kernel_rfl) (by intro d hd; simp at hd ⊢; omega) (by simp) (fun w => IPn wf g g (.slice A n c) (.slice (some ⟨b, off, none⟩) m d) vS S L C w /\ wr.heap.size <= w.heap.size /\ RowV (g + 1) 28 [.slice none 0 0, .slice none 0 0] w) (PhiPn g g q j vS vG (some ⟨b, off, none⟩) m d b off A1 n1 c1 cj L) (PrePn g q vS vG L) (RPn g q vS vG L) ?hI ?hΦ ?hP ?h0 ?hp0 ?hW ?hskip ?hstep ?hend
      case hI =>
        rintro i w w' ⟨h1, h2, h3⟩ hr
        obtain ⟨row, hg, hrow⟩ := rPn_grown (g := g) (by have := HQg.out; omega) (by have := HQg.out; omega) HGv.out hr
        refine ⟨h1.grown hg (Nat.le_trans HGR.out h2) hrow, Nat.le_trans h2 hg.size, ?_⟩
        rcases rPn_ways hr with ⟨_, hO, hg2⟩ | ⟨_, hR, x, rfl⟩ | ⟨_, _, hb⟩
        · exact heap_grown hg2 h3 (own_ne hO h3 plan_ne1)
        · exact heap_grown (grown_set x) h3 (fun e => by injection e with e; have := HQg.out; omega)
        · exact heap_below hb h3
      case hΦ =>
        intro i x v w w' hki hnw h hr
        refine phiPn_keep hki ?_ ?_ ?_ h hr
        · rintro ⟨rfl, rfl⟩
          have := hnw _ rfl
          simp [Region.binds] at this
        · rintro ⟨rfl, rfl⟩
          have := hnw _ rfl
          simp [Region.binds] at this
        · rintro ⟨rfl, rfl⟩
          exact hki rfl
      case hP =>
        intro i x w w' hki hnw h hr
        have key : ∀ y : Value, RowV q 28 [vS, vG] w -> i ≠ 12 -> RowV q 28 [vS, vG] w' := fun y h hi => by
          rcases rPn_ways hr with ⟨_, hO, hg⟩ | ⟨e, _, _⟩ | ⟨_, _, hb⟩
          · exact heap_grown hg h (own_ne hO h plan_ne1)
          · exact absurd e hi
          · exact heap_below hb h
        match x, hki, h with
        | 0, _, _ => exact trivial
        | 1, _, h =>
          refine key vG h fun e => ?_
          subst e
          have := hnw _ rfl
          simp [Region.binds] at this
        | 2, _, _ => exact trivial
        | 3, _, _ => exact trivial
        | 4, _, _ => exact trivial
        | 5, _, _ => exact trivial
        | 6, _, _ => exact trivial
        | 7, _, _ => exact trivial
        | 8, _, _ => exact trivial
        | 9, _, _ => exact trivial
        | 10, hki, h =>
          rcases rPn_ways hr with ⟨e, _, _⟩ | ⟨e, hR, x, rfl⟩ | ⟨_, _, hb⟩
          · exact absurd e.symm hki
          · subst e
            have := hnw _ rfl
            simp [Region.binds] at this
          · exact own_below h hb
        | 11, _, _ => exact trivial
        | 12, hki, h => exact key vG h (fun e => hki e.symm)
        | x + 13, _, _ => exact trivial
      case h0 => exact ⟨HI.out.grown (grown_below (Below.refl _ _).drew) HGR.out (fun e he => by cases he), Nat.le_refl _, heap_below (Below.refl _ _).drew HRr.out⟩
      case hp0 =>
        intro x
        match x with
        | 0 => exact trivial
        | 1 => exact heap_below (Below.refl _ _).drew HRq.out
        | 2 => exact trivial
        | 3 => exact trivial
        | 4 => exact trivial
        | 5 => exact trivial
        | 6 => exact trivial
        | 7 => exact trivial
        | 8 => exact trivial
        | 9 => exact trivial
        | 10 => exact own_below HOC.out (Below.refl _ _).drew
        | 11 => exact trivial
        | 12 => exact heap_below (Below.refl _ _).drew HRq.out
        | x + 13 => exact trivial
      case hW =>
        intro x o g' b' ho hg
        exfalso
        match x, ho with
        | 0, ho => cases Option.some.inj ho; cases hg
        | 1, ho => cases Option.some.inj ho; cases hg
        | 2, ho => cases Option.some.inj ho; cases hg
        | 3, ho => cases Option.some.inj ho; cases hg
        | 4, ho => cases Option.some.inj ho; cases hg
        | 5, ho => cases Option.some.inj ho; cases hg
        | 6, ho => cases Option.some.inj ho; cases hg
        | 7, ho => cases Option.some.inj ho; cases hg
        | 8, ho => cases Option.some.inj ho; cases hg
        | 9, ho => cases Option.some.inj ho; cases hg
        | 10, ho => cases Option.some.inj ho; cases hg
        | 11, ho => cases Option.some.inj ho; cases hg
        | 12, ho => cases Option.some.inj ho; cases hg
        | x + 13, ho => simp at ho
      case hskip => intro x h; simp at h
      case hstep =>
        rintro x o ho - a w ⟨hI, hsz, hRr⟩ hPre hA hd hl K hK
        obtain ⟨ρ, hρ⟩ : ∃ ρ, a.eval = ρ := ⟨_, rfl⟩
        rw [hρ] at hA hd hl
        have hgw : g <= w.heap.size := Nat.le_trans HGR.out hsz
        match x, ho, hPre, hK with
        | 0, ho, hPre, hK =>
          have hoo := Option.some.inj ho
          subst hoo
          have f3 : ρ (.tmp 3) = .pointer (some ⟨q, 0, none⟩) := (hA.tmp 3 (by decide)).trans (by rw [HQ.out]; rfl)
          exact ux_val hK hρ (by decide) (.pointer (some ⟨q, 1, none⟩)) w (by simp [execOp, f3, go_sem]) rfl (Below.refl _ _)
        | 1, ho, hPre, hK =>
          have hoo := Option.some.inj ho
          subst hoo
          have f0 : ρ (.tmp 17) = .pointer (some ⟨q, 1, none⟩) := hd ⟨0, .data⟩ (by simp) (by rfl)
          have q1 := RowV.cell hPre (j := 1) rfl
          exact ux_val hK hρ (by decide) vG w (by simp [execOp, f0, q1, go_sem]) rfl (Below.refl _ _)
        | 2, ho, hPre, hK =>
          have hoo := Option.some.inj ho
          subst hoo
          exact ux_val hK hρ (by decide) (.slice (some ⟨w.heap.size, 0, none⟩) 0 0) (w.alloc (.cells #[] 3)) (by simp [execOp, go_sem]) ⟨_, rfl, heap_alloc_new w _, hgw⟩ (below_alloc _)
        | 3, ho, hPre, hK =>
          have hoo := Option.some.inj ho
          subst hoo
          have f1 : ρ (.tmp 1) = .pointer (some ⟨g, 0, none⟩) := (hA.tmp 1 (by decide)).trans (by rw [HG.out.1]; rfl)
          exact ux_val hK hρ (by decide) (.pointer (some ⟨g, 1, none⟩)) w (by simp [execOp, f1, go_sem]) rfl (Below.refl _ _)
        | 4, ho, hPre, hK =>
          have hoo := Option.some.inj ho
          subst hoo
          have f3 : ρ (.tmp 20) = .pointer (some ⟨g, 1, none⟩) := hd ⟨3, .data⟩ (by simp) (by rfl)
          have q1 := RowV.cell hI.src (j := 1) rfl
          exact ux_val hK hρ (by decide) (.slice (some ⟨b, off, none⟩) m d) w (by simp [execOp, f3, q1, go_sem]) rfl (Below.refl _ _)
        | 5, ho, hPre, hK =>
          have hoo := Option.some.inj ho
          subst hoo
          have h4 : ρ (.tmp 4) = .int .i64 j := hA.tmp 4 (by decide)
          exact ux_val hK hρ (by decide) (.int .i64 j) w (by simp [execOp, h4, go_sem]) rfl (Below.refl _ _)
        | 6, ho, hPre, hK =>
          have hoo := Option.some.inj ho
          subst hoo
          have f4 : ρ (.tmp 21) = .slice (some ⟨b, off, none⟩) m d := hd ⟨4, .data⟩ (by simp) (by rfl)
          have f5 : ρ (.tmp 22) = .int .i64 j := hd ⟨5, .data⟩ (by simp) (by rfl)
          exact ux_val hK hρ (by decide) (.pointer (some ⟨b, off + j, none⟩)) w (by simp [execOp, f4, f5, hlt, go_sem]) rfl (Below.refl _ _)
        | 7, ho, hPre, hK =>
          have hoo := Option.some.inj ho
          subst hoo
          have f6 : ρ (.tmp 23) = .pointer (some ⟨b, off + j, none⟩) := hd ⟨6, .data⟩ (by simp) (by rfl)
          have q1 := HX.out w hI.bel
          exact ux_val hK hρ (by decide) (.slice A1 n1 c1) w (by simp [execOp, f6, q1, go_sem]) rfl (Below.refl _ _)
        | 8, ho, hPre, hK =>
          have hoo := Option.some.inj ho
          subst hoo
          obtain ⟨e, f2, he, hbe⟩ : PhiPn g g q j vS vG (some ⟨b, off, none⟩) m d b off A1 n1 c1 cj L 2 (ρ (.tmp 19)) w := hd ⟨2, .data⟩ (by simp) (by rfl)
          have f7 : ρ (.tmp 24) = .slice A1 n1 c1 := hd ⟨7, .data⟩ (by simp) (by rfl)
          obtain ⟨F2, k2, w', hr, hO, hb⟩ := fresh_int17 he hbe hgw HN1.out.1 (by have := HN1.out.2; omega) (HIW.out w hI.bel) HZ1.out
          exact ux_val hK hρ (by decide) (.slice F2 n1 k2) w' (exec_append16 (.tmp 19) (.tmp 24) 40 _ _ rfl f2 f7 hr) ⟨F2, k2, rfl, hO⟩ hb
        | 9, ho, hPre, hK =>
          have hoo := Option.some.inj ho
          subst hoo
          obtain ⟨F2, k2, f8, hO⟩ : PhiPn g g q j vS vG (some ⟨b, off, none⟩) m d b off A1 n1 c1 cj L 8 (ρ (.tmp 25)) w := hd ⟨8, .data⟩ (by simp) (by rfl)
          refine ux_val hK hρ (by decide) (.slice (some ⟨w.heap.size, 0, none⟩) 1 1) (w.alloc (.cells #[.slice F2 n1 k2] 40)) (by simp [execOp, f8, go_sem]) ⟨_, F2, k2, rfl, heap_alloc_new w _, fun e => ?_, own_below hO (below_alloc _)⟩ (below_alloc _)
          have := HGl.out _ e
          omega
        | 10, ho, hPre, hK =>
          have hoo := Option.some.inj ho
          subst hoo
          have f1 : ρ (.tmp 18) = vG := hd ⟨1, .data⟩ (by simp) (by rfl)
          obtain ⟨e, F2, k2, f9, he, hne, hO⟩ : PhiPn g g q j vS vG (some ⟨b, off, none⟩) m d b off A1 n1 c1 cj L 9 (ρ (.tmp 26)) w := hd ⟨9, .data⟩ (by simp) (by rfl)
          obtain ⟨F3, k3, w', hr, hO3, hg3⟩ := push_list HLn.out hPre he rfl (by have := HL.out.2; omega) hgw
          exact ux_val hK hρ (by decide) (.slice F3 (j + 1) k3) w' (exec_append16 (.tmp 18) (.tmp 26) 26 _ _ rfl f1 f9 hr) ⟨F3, k3, F2, k2, rfl, hO3, own_grown hO hg3 (fun y hy => own_apart hO hPre ints_ne y hy)⟩ ⟨hPre, hg3⟩
        | 11, ho, hPre, hK =>
          have hoo := Option.some.inj ho
          subst hoo
          have f3 : ρ (.tmp 3) = .pointer (some ⟨q, 0, none⟩) := (hA.tmp 3 (by decide)).trans (by rw [HQ.out]; rfl)
          exact ux_val hK hρ (by decide) (.pointer (some ⟨q, 1, none⟩)) w (by simp [execOp, f3, go_sem]) rfl (Below.refl _ _)
        | 12, ho, hPre, hK =>
          have hoo := Option.some.inj ho
          subst hoo
          have f11 : ρ (.tmp 28) = .pointer (some ⟨q, 1, none⟩) := hd ⟨11, .data⟩ (by simp) (by rfl)
          obtain ⟨F3, k3, F2, k2, f10, hO3, hO2⟩ : PhiPn g g q j vS vG (some ⟨b, off, none⟩) m d b off A1 n1 c1 cj L 10 (ρ (.tmp 27)) w := hd ⟨10, .data⟩ (by simp) (by rfl)
          have q1 := RowV.cell hPre (j := 1) rfl
          have fz := RowV.frozen hPre 1
          have hne : ∀ {ty : TypeId} {sz n : Nat} {v : Value} {xs : List Value}, w.ownsRow g ty sz v n xs -> ty ≠ 28 -> (w.setCell ⟨q, 1, none⟩ (.slice F3 (j + 1) k3)).ownsRow g ty sz v n xs := fun hO hty => own_grown hO (grown_set _) fun y hv e => by
            injection e with e
            subst e
            exact own_ne hO hPre hty hv
          exact ux_skip hK hρ (by decide) (w.setCell ⟨q, 1, none⟩ (.slice F3 (j + 1) k3)) (by simp [execOp, f11, f10, q1, fz, go_sem]) (fun u => ⟨F3, k3, F2, k2, RowV.set hPre 1 _, hne hO3 plan_ne1, hne hO2 plan_ne2⟩) ⟨hPre, _, rfl⟩
        | x + 13, ho, _, _ => simp at ho
      case hend =>
        rintro vals w2 ⟨hI, hsz, hRr⟩ hF
        obtain ⟨F3, k3, F2, k2, hR, hO3, hO2⟩ : PhiPn g g q j vS vG (some ⟨b, off, none⟩) m d b off A1 n1 c1 cj L 12 (vals 1000) w2 := hF 12 (by decide)
        have HE := Lib.hid (show EachC w2 g (L ++ [.slice F2 n1 k2]) C from fun x y r hx hc => by
          by_cases hxj : x < j
          · rw [List.getElem?_append_left (by rw [HLn.out]; exact hxj)] at hx
            exact hI.each x y r hx hc
          · by_cases e : x = j
            · subst e
              rw [List.getElem?_append_right (by rw [HLn.out]; exact Nat.le_refl _), HLn.out, Nat.sub_self] at hx
              obtain rfl : _ = y := by simpa using hx
              rw [HCJ.out] at hc
              obtain rfl := Option.some.inj hc
              exact ⟨F2, k2, by rw [HN1.out.1], hO2⟩
            · rw [List.getElem?_eq_none (by rw [List.length_append, HLn.out]; simp; omega)] at hx
              cases hx)
        have HI3 := Lib.hid (show IPn wf g g (.slice A n c) (.slice (some ⟨b, off, none⟩) m d) vS S (L ++ [.slice F2 n1 k2]) C w2 from ⟨hI.bel, hI.src, hI.shp, HE.out⟩)
        rw [HVS.out] at HI3 hR
        have HR3 := Lib.hid hR
        have HO3 := Lib.hid hO3
        have HRr3 := Lib.hid hRr
        have hj20 : j <= 20 := by have := HL.out.2; omega
        clear hI hsz hRr hF hR hO3 hO2 HI HRq HOC HRr p0 p1 HVS HE HGv HGl
        simp only [fillA, fillL, List.contains_cons, List.contains_nil, Nat.reduceBEq, Bool.or_false, Bool.false_or, Bool.or_true, Bool.true_or, cond_true, cond_false, Nat.zero_add, Nat.reduceAdd]
        go_wp2
        go_roundw
        case rel => exact ⟨j + 1, F3, k3, _, by omega, by go_num, Lib.hid (by rw [List.length_append, HLn.out]; rfl), HI3, HR3, HO3, HRr3⟩
        case measure => simp [intOf]; omega
    · obtain rfl : j = m := by omega
      have hsrc := HI.out.src
      have p1 := hsrc.cell (j := 1) rfl
      rw [HG.out.1] at p1
      have q0 := RowV.cell HRq.out (j := 0) rfl
      have q1 := RowV.cell HRq.out (j := 1) rfl
      rw [HQ.out] at q0 q1
      have r0 := RowV.cell HRr.out (j := 0) rfl
      have r1 := RowV.cell HRr.out (j := 1) rfl
      have z0 := RowV.frozen HRr.out 0
      have z1 := RowV.frozen HRr.out 1
      rw [HG.out.1] at r0 r1 z0 z1
      clear hsrc
      go_wp2_with fail
      refine bodyPost_ret (v := .agg #[.slice FS n kS, .slice F j k]) ?_ rfl ?_
      · refine results_cell_row rfl _ _ (wf.heap.size + 1) 28 #[.slice FS n kS, .slice F j k] (0, 0) _ rfl ?_ Tryz.underlying28 rfl (by kernel_rfl)
        have h1 := (RowV.set HRr.out 0 (.slice FS n kS)).set 1 (.slice F j k)
        rw [HG.out.1] at h1
        exact h1
      · have key : ∀ {ty : TypeId} {sz n1 : Nat} {v : Value} {xs : List Value}, wr.ownsRow g ty sz v n1 xs -> ty ≠ 28 -> ((wr.setCell ⟨g + 1, 0, none⟩ (.slice FS n kS)).setCell ⟨g + 1, 1, none⟩ (.slice F j k)).ownsRow g ty sz v n1 xs := fun hO hty => by
          have o1 := own_grown hO (grown_set (q := g + 1) (k := 0) (.slice FS n kS)) (fun y hv e => by
            injection e with e
            subst e
            exact own_ne hO HRr.out hty hv)
          exact own_grown o1 (grown_set (q := g + 1) (k := 1) (.slice F j k)) (fun y hv e => by
            injection e with e
            subst e
            exact own_ne o1 (RowV.set HRr.out 0 (.slice FS n kS)) hty hv)
        have o1 := key HI.out.shp plan_ne3
        have o2 := key HOC.out plan_ne1
        have o3 : EachC ((wr.setCell ⟨g + 1, 0, none⟩ (.slice FS n kS)).setCell ⟨g + 1, 1, none⟩ (.slice F j k)) g L C := fun x y r hx hc => by
          obtain ⟨F1, d1, e, hO⟩ := HI.out.each x y r hx hc
          exact ⟨F1, d1, e, key hO plan_ne2⟩
        have hb : Below g wf ((wr.setCell ⟨g + 1, 0, none⟩ (.slice FS n kS)).setCell ⟨g + 1, 1, none⟩ (.slice F j k)) := (HI.out.bel.setCell (p := ⟨g + 1, _, none⟩) (Nat.le_succ g) _).setCell (p := ⟨g + 1, _, none⟩) (Nat.le_succ g) _
        obtain ⟨l1, l2⟩ := OwnC.lol o2 HLn.out o3 HL.out.1
        obtain ⟨A', c', e, s1, s2⟩ := OwnS.slice o1
        injection e with e1 e2 e3
        rw [<- HG.out.1]
        exact ⟨FS, kS, F, k, rfl, ⟨HSl.out, HL.out.1, by have s1' := s1; rw [<- e1] at s1'; exact s1', l1, fun z => by rw [e1] at z; have := s2 z; exact ⟨by omega, by omega⟩, l2⟩, hb⟩
end Go.Proofs.YtlfekmbalgkmeaaGreatDoor
