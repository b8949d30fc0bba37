import Derived.Test.YtfpnkcpjhbkgnaaGreatDoorZM19
import Derived.Test.YtfpnkcpjhbkgnaaGreatDoorZStealStep
import Derived.Test.YtfpnkcpjhbkgnaaGreatDoorZM25
set_option linter.unusedSimpArgs false
set_option linter.unusedVariables false
set_option maxRecDepth 100000
set_option maxHeartbeats 16000000
namespace Go.Proofs.YtfpnkcpjhbkgnaaGreatDoor
open Go Go.RowKit
section
variable {P: Program} {ops: Array Oper} {Q: Exit -> Act -> World -> Prop}
theorem wp_region_stored5 (p : Nat) (ds S R : List Nat) (base : Nat) {id : Nat} {a0 : Act} {w0 : World} (hm : P.follows .mixedOrders = true) (hG : storedB ops p ds S = true) (hsz : ∀ d ∈ ds, d < a0.tmps.size \/ 1000 <= d)
    (I : World -> Prop) (Φ : Nat -> Value -> World -> Prop) (Θ : (Nat -> Value) -> World -> Prop)
    (hI : ∀ w w', I w -> Below w.heap.size w w' -> I w') (hΦ : ∀ k v w w', Φ k v w -> Below w.heap.size w w' -> Φ k v w')
    (h0 : I { w0 with drawn := w0.drawn + 1 })
    (hstep : ∀ (k : Nat) (o : Oper), k ≠ p -> k ∉ S -> ops[k]? = some o -> ∀ (a : Act) (w : World), I w -> AtDoor a0 ds a.eval -> (∀ e ∈ o.after, Region.binds .any e = true -> Φ e.on (a.eval (.tmp (ds.getD e.on 0))) w) ->
      ∀ K : Act -> World -> Prop, (∀ v w', Φ k v w' -> Below w.heap.size w w' -> K (a.put o.dst v) w') -> o.wp P a w K Q)
    (hside : ∀ (k : Nat) (o : Oper), k ∈ S -> ops[k]? = some o -> ∀ (ρ : Operand -> Value) (w : World), base <= w.heap.size -> I w -> AtDoor a0 ds ρ -> (∀ e ∈ o.after, Region.binds .any e = true -> e.on ≠ p -> ∃ w1, Φ e.on (ρ (.tmp (ds.getD e.on 0))) w1 /\ (e.on ∈ R -> w1 = w)) ->
      ∃ v w', (execOp ρ o).run P w = .ok (.value v) w' /\ Φ k v w' /\ Below w.heap.size w w')
    (hstore : ∀ (o : Oper), ops[p]? = some o -> ∀ (a : Act) (w : World), I w -> AtDoor a0 ds a.eval -> (∀ k, k < ds.length -> k ≠ p -> k ∉ S -> Φ k (a.eval (.tmp (ds.getD k 0))) w) ->
      ∀ K : Act -> World -> Prop, (∀ w', Θ (fun t => a.eval (.tmp t)) w' -> base <= w'.heap.size -> (∀ k, k ∈ R -> ∀ v, Φ k v w -> Φ k v w') -> K a w') -> o.wp P a w K Q)
    (hΘ : ∀ (f g : Nat -> Value) w, (∀ k, k < ds.length -> k ≠ p -> k ∉ S -> f (ds.getD k 0) = g (ds.getD k 0)) -> Θ f w -> Θ g w)
    (hΘb : ∀ (f : Nat -> Value) w w', Θ f w -> Below w.heap.size w w' -> Θ f w') (hbase : base <= w0.heap.size) (hΘI : ∀ (f : Nat -> Value) w, Θ f w -> I w)
    (hend : ∀ (vals : Nat -> Value) (w : World), Θ vals w -> (∀ k, k < ds.length -> k ≠ p -> ∃ w', Φ k (vals (ds.getD k 0)) w' /\ (k ∈ R -> w' = w)) -> Q .normal ⟨(fillA a0 ds vals).toArray, a0.defers⟩ w) :
    (Code.region id ops true).wp P Q a0 w0 := by
  have G := stored_of hG
  refine wp_region_inv (fun l a w => l.size = ds.length /\ AtDoor a0 ds a.eval /\ a.tmps.size = a0.tmps.size /\ a.defers = a0.defers /\
    (∀ (i : Nat) (o : Oper), l.getD i false = true -> ops[i]? = some o -> ∀ e ∈ o.after, Region.binds .any e = true -> l.getD e.on false = true) /\
    base <= w.heap.size /\
    ((l.getD p false = false /\ I w /\ ∀ k, k < ds.length -> k ≠ p -> l.getD k false = true -> Φ k (a.eval (.tmp (ds.getD k 0))) w) \/
     (l.getD p false = true /\ Θ (fun t => a.eval (.tmp t)) w /\ ∀ k, k < ds.length -> k ≠ p -> l.getD k false = true -> ∃ w', Φ k (a.eval (.tmp (ds.getD k 0))) w' /\ (k ∈ R -> w' = w)))) hm ?_ ?_ ?_
  · have hno : ∀ k, ¬ (Array.replicate ops.size false).getD k false = true := fun k h => by
      by_cases h2 : k < ops.size <;> simp [h2] at h
    refine ⟨by rw [Array.size_replicate]; exact G.size, atDoor_start a0 ds, rfl, rfl, fun k o h => absurd h (hno k), hbase, .inl ⟨?_, h0, fun k hk hkp h => absurd h (hno k)⟩⟩
    cases h : (Array.replicate ops.size false).getD p false with
    | false => rfl
    | true => exact absurd h (hno p)
  · rintro l a w i ⟨hls, hAD, hasz, hadf, hcl, hbw, hV⟩ hi
    obtain ⟨hun, o, ho, hpre⟩ := mem_ready.1 hi
    have hilt : i < ops.size := (Array.getElem?_eq_some_iff.1 ho).1
    have hin : i < ds.length := by rw [<- G.size]; exact hilt
    have hil : i < l.size := by omega
    have hun2 : l.getD i false = false := by
      cases h : l.getD i false with
      | false => rfl
      | true => simp [hil] at h hun; rw [h] at hun; cases hun
    have hcl2 : ∀ (k : Nat) (o' : Oper), (l.setIfInBounds i true).getD k false = true -> ops[k]? = some o' -> ∀ e ∈ o'.after, Region.binds .any e = true -> (l.setIfInBounds i true).getD e.on false = true := fun k o' hk ho' e he hb => by
      refine (getD_set_iff hil).mpr (.inr ?_)
      rcases listed_set hk with h | h
      · subst h
        rw [ho] at ho'
        obtain rfl := Option.some.inj ho'
        exact hpre e he hb
      · exact hcl k o' h ho' e he hb
    have hls2 : (l.setIfInBounds i true).size = ds.length := by rw [Array.size_setIfInBounds]; exact hls
    refine wpOp_at ho (G.guard i o ho) ?_
    by_cases hip : i = p
    · subst hip
      rcases hV with ⟨hnl, hIw, hF⟩ | ⟨hnl, _⟩
      · have hall : ∀ k, k < ds.length -> k ≠ i -> k ∉ S -> l.getD k false = true := fun k hk hkp hkS => waits_done hcl 12 i k (G.last k hk hkp hkS) (fun o' ho' e he hb => by
          rw [ho] at ho'
          obtain rfl := Option.some.inj ho'
          exact hpre e he hb)
        refine hstore o ho a w hIw hAD (fun k hk hkp hkS => hF k hk hkp (hall k hk hkp hkS)) _ fun w' hT hbw' hkeep => ?_
        refine ⟨hls2, hAD, hasz, hadf, hcl2, hbw', .inr ⟨(getD_set_iff hil).mpr (.inl rfl), hT, fun k hk hkp hkl => ?_⟩⟩
        have hf := hF k hk hkp ((listed_set hkl).resolve_left hkp)
        by_cases hkS : k ∈ R
        · exact ⟨w', hkeep k hkS _ hf, fun _ => rfl⟩
        · exact ⟨w, hf, fun h => absurd h hkS⟩
      · rw [hun2] at hnl; cases hnl
    · obtain ⟨hd, hdl⟩ := G.dst i o hip ho
      have hdm := fds_mem hin
      have hdz : ds.getD i 0 < a.tmps.size := by
        rcases hsz _ hdm with h | h
        · rw [hasz]; exact h
        · omega
      have hpl : ∀ b, l.getD p false = b -> (l.setIfInBounds i true).getD p false = b := fun b hb => by
        cases h : (l.setIfInBounds i true).getD p false with
        | true =>
          rcases listed_set h with h2 | h2
          · exact absurd h2.symm hip
          · rw [<- hb, h2]
        | false =>
          cases b with
          | false => rfl
          | true =>
            have := (getD_set_iff (k := p) hil).mpr (.inr hb)
            rw [h] at this; cases this
      have hsz2 : ∀ v, (a.put (some (ds.getD i 0)) v).tmps.size = a0.tmps.size := fun v => by
        show (a.tmps.setIfInBounds _ _).size = _
        rw [Array.size_setIfInBounds]; exact hasz
      rcases hV with ⟨hnl, hIw, hF⟩ | ⟨hnl, hT, hF⟩
      · have hdep : ∀ e ∈ o.after, Region.binds .any e = true -> Φ e.on (a.eval (.tmp (ds.getD e.on 0))) w := fun e he hb => hF e.on (Nat.lt_trans (G.back i o ho e he hb) hin) (fun h => by
          have := hpre e he hb
          rw [h, hnl] at this; cases this) (hpre e he hb)
        have hnext : ∀ v w', Φ i v w' -> Below w.heap.size w w' -> (l.setIfInBounds i true).size = ds.length /\ AtDoor a0 ds (a.put (some (ds.getD i 0)) v).eval /\ (a.put (some (ds.getD i 0)) v).tmps.size = a0.tmps.size /\ (a.put (some (ds.getD i 0)) v).defers = a0.defers /\
            (∀ (k : Nat) (o' : Oper), (l.setIfInBounds i true).getD k false = true -> ops[k]? = some o' -> ∀ e ∈ o'.after, Region.binds .any e = true -> (l.setIfInBounds i true).getD e.on false = true) /\ base <= w'.heap.size /\
            (((l.setIfInBounds i true).getD p false = false /\ I w' /\ ∀ k, k < ds.length -> k ≠ p -> (l.setIfInBounds i true).getD k false = true -> Φ k ((a.put (some (ds.getD i 0)) v).eval (.tmp (ds.getD k 0))) w') \/
             ((l.setIfInBounds i true).getD p false = true /\ Θ (fun t => (a.put (some (ds.getD i 0)) v).eval (.tmp t)) w' /\ ∀ k, k < ds.length -> k ≠ p -> (l.setIfInBounds i true).getD k false = true -> ∃ w'', Φ k ((a.put (some (ds.getD i 0)) v).eval (.tmp (ds.getD k 0))) w'' /\ (k ∈ R -> w'' = w'))) := fun v w' hphi hb => by
          refine ⟨hls2, hAD.put hdm v, hsz2 v, hadf, hcl2, Nat.le_trans hbw hb.size, .inl ⟨hpl _ hnl, hI w w' hIw hb, fun k hk hkp hkl => ?_⟩⟩
          by_cases hki : k = i
          · subst hki
            rw [eval_put_same _ _ _ hdz]
            exact hphi
          · rw [eval_put_other _ _ _ _ (fun e => hki (fds_inj G.nodup hk hin e))]
            exact hΦ k _ _ _ (hF k hk hkp ((listed_set hkl).resolve_left hki)) hb
        by_cases hiS : i ∈ S
        · obtain ⟨v, w', hr, hphi, hbel⟩ := hside i o hiS ho a.eval w hbw hIw hAD (fun e he hb _ => ⟨w, hdep e he hb, fun _ => rfl⟩)
          unfold Oper.wp
          rw [hr, Oper.upon_value, hd]
          exact hnext v w' hphi hbel
        · refine hstep i o hip hiS ho a w hIw hAD hdep _ fun v w' hphi hb => ?_
          rw [hd]
          exact hnext v w' hphi hb
      · have hall : ∀ k, k < ds.length -> k ≠ p -> k ∉ S -> l.getD k false = true := fun k hk hkp hkS => by
          obtain ⟨op, hop⟩ : ∃ op, ops[p]? = some op := ⟨_, Array.getElem?_eq_getElem (by rw [G.size]; exact G.lt)⟩
          exact waits_done hcl 12 p k (G.last k hk hkp hkS) (fun o' ho' e he hb => hcl p o' hnl ho' e he hb)
        have hiS : i ∈ S := Classical.byContradiction fun h => by
          have := hall i hin hip h
          rw [hun2] at this; cases this
        obtain ⟨v, w', hr, hphi, hbel⟩ := hside i o hiS ho a.eval w hbw (hΘI _ _ hT) hAD (fun e he hb hep => by
          have he2 := hpre e he hb
          have hlt := Nat.lt_trans (G.back i o ho e he hb) hin
          exact hF e.on hlt hep he2)
        unfold Oper.wp
        rw [hr, Oper.upon_value, hd]
        refine ⟨hls2, hAD.put hdm v, hsz2 v, hadf, hcl2, Nat.le_trans hbw hbel.size, .inr ⟨hpl _ hnl, ?_, fun k hk hkp hkl => ?_⟩⟩
        · refine hΘb _ w w' (hΘ _ _ w (fun k hk hkp hkS => ?_) hT) hbel
          exact (eval_put_other _ _ _ _ (fun e => hkS (by rw [fds_inj G.nodup hk hin e]; exact hiS))).symm
        · by_cases hki : k = i
          · subst hki
            rw [eval_put_same _ _ _ hdz]
            exact ⟨w', hphi, fun _ => rfl⟩
          · rw [eval_put_other _ _ _ _ (fun e => hki (fds_inj G.nodup hk hin e))]
            obtain ⟨w1, h1, h2⟩ := hF k hk hkp ((listed_set hkl).resolve_left hki)
            by_cases hkS : k ∈ R
            · obtain rfl := h2 hkS
              exact ⟨w', hΦ k _ _ _ h1 hbel, fun _ => rfl⟩
            · exact ⟨w1, h1, fun h => absurd h hkS⟩
  · rintro l a w ⟨hls, hAD, hasz, hadf, hcl, hbw, hV⟩ hr
    have hall := all_listed' (by rw [hls, G.size]) G.back hr
    have hp := hall p (by rw [G.size]; exact G.lt)
    rcases hV with ⟨hnl, _⟩ | ⟨_, hT, hF⟩
    · rw [hp] at hnl; cases hnl
    · rw [act_fill hAD hasz hadf]
      exact hend (fun t => a.eval (.tmp t)) w hT fun k hk hkp => hF k hk hkp (hall k (by rw [G.size]; exact hk))
end
def PhiRt (b gb m c f: Nat) (ad: GAd) (t0: Tkr): Nat -> Value -> World -> Prop
 | 0,v,w => v = .pointer (some ⟨gb,3,none⟩)
 | 1,v,w => v = .slice (some ⟨ad.gT,0,none⟩) m ad.cT
 | 2,v,w => v = .int .i64 c
 | 3,v,w => v = .pointer (some ⟨ad.gT,6 * c,none⟩)
 | 4,v,w => v = vT t0
 | 5,v,w => v = .pointer (some ⟨gb,4,none⟩)
 | 6,v,w => v = .slice (some ⟨ad.gF,0,none⟩) m ad.cF
 | 7,v,w => v = .int .i64 c
 | 8,v,w => v = .pointer (some ⟨ad.gF,c,none⟩)
 | 9,v,w => v = .int .i64 f
 | 10,v,w => ∃ x,v = .pointer (some ⟨x,0,none⟩) /\ RowV x 70 (cT (newTk false)) w /\ b <= x
 | 11,v,w => True
 | 12,v,w => v = .int .i64 f
 | _,_,_ => True
theorem phiRt_below (b gb m c f: Nat) (ad: GAd) (t0: Tkr): ∀ kq v w w',PhiRt b gb m c f ad t0 kq v w -> Below w.heap.size w w' -> PhiRt b gb m c f ad t0 kq v w':=by
 intro kq v w w' h hb
 match kq,h with
 | 0,h => exact h
 | 1,h => exact h
 | 2,h => exact h
 | 3,h => exact h
 | 4,h => exact h
 | 5,h => exact h
 | 6,h => exact h
 | 7,h => exact h
 | 8,h => exact h
 | 9,h => exact h
 | 10,h => exact (by obtain ⟨x,e,hr,hx⟩:=h; exact ⟨x,e,hr.below hb hr.lt,hx⟩)
 | 11,h => exact h
 | 12,h => exact h
 | kq + 13,h => exact trivial
def ThtRt (b: Nat) (wr: World) (t0: Tkr) (fv: Nat -> Value) (w: World): Prop :=
 Below b wr w /\ ∃ x,fv 5 = .pointer (some ⟨x,0,none⟩) /\ b <= x /\ RowV x 70 (cT t0) w
structure TkFit (g: Gng) (m c: Nat): Prop where
 end_: (g.tk c).end_ = 0
 lt: g.fr c < m
 st: (g.tk c).steal = decide ((g.fr c: Int) ≠ 0)
 busy: g.O.getD c 0 = -1 \/ (g.fr c = 0 /\ g.tk c = newTk false)
theorem GOk.fit {n m: Nat} {E: List (Int × Int)} {L: List Int} {g: Gng} {c: Nat} (h: GOk n m E L g) (hc: c < m): TkFit g m c:=by
 by_cases hf: g.fr c = 0
 ·have ho:=(h.dq c hc).own
  unfold owG at ho
  rw [if_pos hf] at ho
  refine ⟨ho.2.1,h.fr c hc,by rw [ho.1,hf]; rfl,?_⟩
  by_cases hO: g.O.getD c 0 = -1
  ·exact .inl hO
  ·exact .inr (h.busy c hc hO)
 ·have ht:=h.th c hc hf
  refine ⟨ht.2.1,h.fr c hc,by rw [ht.1]; exact (decide_eq_true (by omega)).symm,.inl (Classical.byContradiction fun q => hf (h.busy c hc q).1)⟩
section
variable {base m: Nat} {g: Gng} {L: List Int} {ad: GAd}
theorem rtaker_any {c : Nat} (w : World) (hc : c < m) (hm : m <= 8) (h : IsGng w base m g L ad) (hfit : TkFit g m c) :
    Calls Tryz.prog 114 #[.agg #[.slice (some ⟨ad.gO, 0, none⟩) m ad.cO, ad.vL, .slice (some ⟨ad.gD, 0, none⟩) m ad.cD, .slice (some ⟨ad.gT, 0, none⟩) m ad.cT, .slice (some ⟨ad.gF, 0, none⟩) m ad.cF], .int .i64 c] w fun e w' => e = .returned (.bool true) /\ Below w.heap.size w w' := by
  obtain ⟨w1, hw1⟩ : ∃ w1, w1 = w.alloc (.cells #[.slice (some ⟨ad.gO, 0, none⟩) m ad.cO, ad.vL, .slice (some ⟨ad.gD, 0, none⟩) m ad.cD, .slice (some ⟨ad.gT, 0, none⟩) m ad.cT, .slice (some ⟨ad.gF, 0, none⟩) m ad.cF] 41) := ⟨_, rfl⟩
  have HB1 : Hid (Below w.heap.size w w1) := Lib.hid (by rw [hw1]; exact below_alloc _)
  have HR1 : Hid (RowV w.heap.size 41 (gangC m ad) w1) := Lib.hid (by rw [hw1]; exact RowV.new w _ (gangC m ad))
  have HG1 := Lib.hid (h.below HB1.out)
  have HW1 := Lib.hid hw1
  obtain ⟨t0, ht0⟩ : ∃ t0, t0 = g.tk c := ⟨_, rfl⟩
  obtain ⟨f, hf⟩ : ∃ f, f = g.fr c := ⟨_, rfl⟩
  obtain ⟨q1, q2, q3, q4⟩ := hfit
  rw [<- ht0] at q1 q3 q4
  rw [<- hf] at q2 q3 q4
  have HT0 := Lib.hid ht0
  have HF := Lib.hid hf
  have HE := Lib.hid q1
  have HLT := Lib.hid q2
  have HST := Lib.hid q3
  have HBZ := Lib.hid q4
  have HC := Lib.hid hc
  have CF := Lib.hid (fun W => fresh_any 0 W)
  have e6 : c * 6 = 6 * c := Nat.mul_comm _ _
  clear h hw1 ht0 hf q1 q2 q3 q4 hc
  go_enter Tryz.func114, Tryz.ntmps114
  go_upto_region 1 with fail
  rw [<- HW1.out]
  obtain ⟨gb, hgb⟩ : ∃ gb, gb = w.heap.size := ⟨_, rfl⟩
  rw [<- hgb] at HR1
  have HGB := Lib.hid hgb
  clear hgb
  refine wp_region_stored5 11 [7, 8, 9, 10, 11, 12, 13, 14, 15, 16, 5, 1000, 6] [5, 6, 7, 8, 9, 12] [5, 6, 7, 8, 9, 12] w1.heap.size (by kernel_rfl) (by kernel_rfl) (by intro d hd; simp at hd ⊢; omega) (fun z => Below w1.heap.size w1 z) (PhiRt w1.heap.size gb m c f ad t0) (ThtRt w1.heap.size w1 t0)
    (fun z z' h hb => h.trans (hb.mono h.size)) (phiRt_below w1.heap.size gb m c f ad t0) ((Below.refl _ _).drew) ?hstep ?hside ?hstore ?htheta ?hthetab (Nat.le_refl _) (fun f w h => h.1) ?hend
  case hstep =>
    intro kq o hkp hkS ho a w hI hA hd K hK
    obtain ⟨ρ, hρ⟩ : ∃ ρ, a.eval = ρ := ⟨_, rfl⟩
    rw [hρ] at hA hd
    match kq, hkp, hkS, ho with
    | 0, _, _, ho =>
      have hoo := Option.some.inj ho
      subst hoo
      have hp : ρ (.tmp 2) = .pointer (some ⟨gb, 0, none⟩) := by rw [HGB.out]; exact hA.tmp 2 (by decide)
      exact fx_val hK hρ (.pointer (some ⟨gb, 3, none⟩)) (by simp [execOp, hp, go_sem]) rfl
    | 1, _, _, ho =>
      have hoo := Option.some.inj ho
      subst hoo
      have f0 : (ρ (.tmp 7)) = .pointer (some ⟨gb, 3, none⟩) := hd ⟨0, .data⟩ (by simp) (by rfl)
      have h0 : w.cell? ⟨gb, 3, none⟩ = some (.slice (some ⟨ad.gT, 0, none⟩) m ad.cT) := (HR1.out.below hI HR1.out.lt).cell rfl
      exact fx_val hK hρ (.slice (some ⟨ad.gT, 0, none⟩) m ad.cT) (by simp [execOp, f0, h0, go_sem]) rfl
    | 2, _, _, ho =>
      have hoo := Option.some.inj ho
      subst hoo
      exact fx_val hK hρ (.int .i64 c) (by have h := hA.tmp 1 (by decide); simp [execOp, h, go_sem]) rfl
    | 3, _, _, ho =>
      have hoo := Option.some.inj ho
      subst hoo
      have f1 : (ρ (.tmp 8)) = .slice (some ⟨ad.gT, 0, none⟩) m ad.cT := hd ⟨1, .data⟩ (by simp) (by rfl)
      have f2 : (ρ (.tmp 9)) = .int .i64 c := hd ⟨2, .data⟩ (by simp) (by rfl)
      have hcm : c < m := HC.out
      have hn : ¬ ((m : Int) <= (c : Int)) := by omega
      exact fx_val hK hρ (.pointer (some ⟨ad.gT, 6 * c, none⟩)) (by simp [execOp, f1, f2, hn, hcm, e6, go_sem]) rfl
    | 4, _, _, ho =>
      have hoo := Option.some.inj ho
      subst hoo
      have f3 : (ρ (.tmp 10)) = .pointer (some ⟨ad.gT, 6 * c, none⟩) := hd ⟨3, .data⟩ (by simp) (by rfl)
      have h0 := (HG1.out.below hI).tk HC.out (i := 0) rfl
      have h1 := (HG1.out.below hI).tk HC.out (i := 1) rfl
      have h2 := (HG1.out.below hI).tk HC.out (i := 2) rfl
      have h3 := (HG1.out.below hI).tk HC.out (i := 3) rfl
      have h4 := (HG1.out.below hI).tk HC.out (i := 4) rfl
      have h5 := (HG1.out.below hI).tk HC.out (i := 5) rfl
      simp only [Nat.add_zero] at h0
      rw [<- HT0.out] at h0 h1 h2 h3 h4 h5
      exact fx_val hK hρ (vT t0) (by simp [execOp, f3, h0, h1, h2, h3, h4, h5, vT, go_sem]) rfl
    | 5, _, hkS, _ => exact absurd (by decide) hkS
    | 6, _, hkS, _ => exact absurd (by decide) hkS
    | 7, _, hkS, _ => exact absurd (by decide) hkS
    | 8, _, hkS, _ => exact absurd (by decide) hkS
    | 9, _, hkS, _ => exact absurd (by decide) hkS
    | 10, _, _, ho =>
      have hoo := Option.some.inj ho
      subst hoo
      exact fx_make hK hρ (.pointer (some ⟨w.heap.size, 0, none⟩)) (w.alloc (.cells #[.bool false, .int .i64 0, .int .i64 0, .int .i64 0, .int .i64 0, .int .i64 0] 70)) (by simp [execOp, go_sem]) ⟨w.heap.size, rfl, RowV.new w _ (cT (newTk false)), hI.size⟩ (below_alloc _)
    | 11, hkp, _, _ => exact absurd rfl hkp
    | 12, _, hkS, _ => exact absurd (by decide) hkS
    | kq + 13, _, _, ho => simp at ho
  case hside =>
    intro kq o hkS ho ρ w hbw hI hA hd
    simp only [List.mem_cons, List.not_mem_nil, or_false] at hkS
    rcases hkS with rfl | rfl | rfl | rfl | rfl | rfl
    · have hoo := Option.some.inj ho
      subst hoo
      have hp : ρ (.tmp 2) = .pointer (some ⟨gb, 0, none⟩) := by rw [HGB.out]; exact hA.tmp 2 (by decide)
      exact ⟨.pointer (some ⟨gb, 4, none⟩), w, by simp [execOp, hp, go_sem], rfl, Below.refl _ _⟩
    · have hoo := Option.some.inj ho
      subst hoo
      obtain ⟨w1, f5a, hw1⟩ := hd ⟨5, .data⟩ (by simp) (by rfl) (by decide)
      rw [hw1 (by decide)] at f5a
      have f5 : (ρ (.tmp 12)) = .pointer (some ⟨gb, 4, none⟩) := f5a
      have h0 : w.cell? ⟨gb, 4, none⟩ = some (.slice (some ⟨ad.gF, 0, none⟩) m ad.cF) := (HR1.out.below hI HR1.out.lt).cell rfl
      exact ⟨.slice (some ⟨ad.gF, 0, none⟩) m ad.cF, w, by simp [execOp, f5, h0, go_sem], rfl, Below.refl _ _⟩
    · have hoo := Option.some.inj ho
      subst hoo
      have hp := hA.tmp 1 (by decide)
      exact ⟨.int .i64 c, w, by simp [execOp, hp, go_sem], rfl, Below.refl _ _⟩
    · have hoo := Option.some.inj ho
      subst hoo
      obtain ⟨w1, f6a, hw1⟩ := hd ⟨6, .data⟩ (by simp) (by rfl) (by decide)
      rw [hw1 (by decide)] at f6a
      have f6 : (ρ (.tmp 13)) = .slice (some ⟨ad.gF, 0, none⟩) m ad.cF := f6a
      obtain ⟨w1, f7a, hw1⟩ := hd ⟨7, .data⟩ (by simp) (by rfl) (by decide)
      rw [hw1 (by decide)] at f7a
      have f7 : (ρ (.tmp 14)) = .int .i64 c := f7a
      have hcm : c < m := HC.out
      have hn : ¬ ((m : Int) <= (c : Int)) := by omega
      exact ⟨.pointer (some ⟨ad.gF, c, none⟩), w, by simp [execOp, f6, f7, hn, hcm, go_sem], rfl, Below.refl _ _⟩
    · have hoo := Option.some.inj ho
      subst hoo
      obtain ⟨w1, f8a, hw1⟩ := hd ⟨8, .data⟩ (by simp) (by rfl) (by decide)
      rw [hw1 (by decide)] at f8a
      have f8 : (ρ (.tmp 15)) = .pointer (some ⟨ad.gF, c, none⟩) := f8a
      have h0 := (HG1.out.below hI).fr HC.out
      rw [<- HF.out] at h0
      exact ⟨.int .i64 f, w, by simp [execOp, f8, h0, go_sem], rfl, Below.refl _ _⟩
    · have hoo := Option.some.inj ho
      subst hoo
      obtain ⟨w1, f9a, hw1⟩ := hd ⟨9, .data⟩ (by simp) (by rfl) (by decide)
      rw [hw1 (by decide)] at f9a
      have f9 : (ρ (.tmp 16)) = .int .i64 f := f9a
      exact ⟨.int .i64 f, w, by simp [execOp, f9, go_sem], rfl, Below.refl _ _⟩
  case hstore =>
    intro o ho a w hI hA hF K hK
    have hoo := Option.some.inj ho
    subst hoo
    have f11 := hF 4 (by decide) (by decide) (by decide)
    have f10 := hF 10 (by decide) (by decide) (by decide)
    obtain ⟨ρ, hρ⟩ : ∃ ρ, a.eval = ρ := ⟨_, rfl⟩
    rw [hρ] at f11 f10 hA
    obtain ⟨x, ex, hr, bx⟩ := f10
    replace ex : ρ (.tmp 5) = .pointer (some ⟨x, 0, none⟩) := ex
    replace f11 : ρ (.tmp 11) = vT t0 := f11
    unfold vT at f11
    have q0 := hr.cell (j := 0) rfl
    have z0 := hr.frozen 0
    have q1 := hr.cell (j := 1) rfl
    have z1 := hr.frozen 1
    have q2 := hr.cell (j := 2) rfl
    have z2 := hr.frozen 2
    have q3 := hr.cell (j := 3) rfl
    have z3 := hr.frozen 3
    have q4 := hr.cell (j := 4) rfl
    have z4 := hr.frozen 4
    have q5 := hr.cell (j := 5) rfl
    have z5 := hr.frozen 5
    unfold Oper.wp
    rw [show (execOp a.eval _).run Tryz.prog w = .ok .skip ((((((w.setCell ⟨x, 0, none⟩ (.bool t0.steal)).setCell ⟨x, 1, none⟩ (.int .i64 t0.at_)).setCell ⟨x, 2, none⟩ (.int .i64 t0.top)).setCell ⟨x, 3, none⟩ (.int .i64 t0.bot)).setCell ⟨x, 4, none⟩ (.int .i64 t0.got)).setCell ⟨x, 5, none⟩ (.int .i64 t0.end_)) from by rw [hρ]; simp [execOp, ex, f11, q0, q1, q2, q3, q4, q5, z0, z1, z2, z3, z4, z5, go_sem], Oper.upon_skip]
    have hb6 := (((((hI.setCell (p := ⟨x, 0, none⟩) bx (.bool t0.steal)).setCell (p := ⟨x, 1, none⟩) bx (.int .i64 t0.at_)).setCell (p := ⟨x, 2, none⟩) bx (.int .i64 t0.top)).setCell (p := ⟨x, 3, none⟩) bx (.int .i64 t0.bot)).setCell (p := ⟨x, 4, none⟩) bx (.int .i64 t0.got)).setCell (p := ⟨x, 5, none⟩) bx (.int .i64 t0.end_)
    refine hK _ ⟨hb6, x, by rw [hρ]; exact ex, bx, (((((hr.set 0 _).set 1 _).set 2 _).set 3 _).set 4 _).set 5 _⟩ hb6.size ?_
    intro k hk v hv
    simp only [List.mem_cons, List.not_mem_nil, or_false] at hk
    rcases hk with rfl | rfl | rfl | rfl | rfl | rfl
    · exact (show v = .pointer (some ⟨gb, 4, none⟩) from hv)
    · exact (show v = .slice (some ⟨ad.gF, 0, none⟩) m ad.cF from hv)
    · exact (show v = .int .i64 c from hv)
    · exact (show v = .pointer (some ⟨ad.gF, c, none⟩) from hv)
    · exact (show v = .int .i64 f from hv)
    · exact (show v = .int .i64 f from hv)
  case htheta =>
    intro f g w h hT
    obtain ⟨h1, x, ex, h2⟩ := hT
    have q5 := h 10 (by decide) (by decide) (by decide)
    simp only [List.getD_cons_zero, List.getD_cons_succ] at q5
    exact ⟨h1, x, q5 ▸ ex, h2⟩
  case hthetab =>
    intro f w w' hT hb
    obtain ⟨h1, x, ex, bx, hr⟩ := hT
    exact ⟨h1.trans (hb.mono h1.size), x, ex, bx, hr.below hb hr.lt⟩
  case hend =>
    intro vals w3 hT hF
    obtain ⟨hbl, x, ex, bx, hr⟩ := hT
    obtain ⟨_, e6b, _⟩ := hF 12 (by decide) (by decide)
    replace e6b : vals 6 = .int .i64 f := e6b
    simp only [fillA, fillL, List.contains_cons, List.contains_nil, Nat.reduceBEq, Bool.or_false, Bool.false_or, Bool.or_true, Bool.true_or, cond_true, cond_false, Nat.zero_add, Nat.reduceAdd, ex, e6b]
    clear hF ex e6b
    have hr1 := HR1.out
    rw [HGB.out] at hr1
    have HB3 := Lib.hid (HB1.out.trans (hbl.mono HB1.out.size))
    have HR3 := Lib.hid (hr1.below hbl hr1.lt)
    have HG3 := Lib.hid (HG1.out.below hbl)
    have HX := Lib.hid hr
    have r0 : w3.cell? ⟨w.heap.size, 0, none⟩ = some (.slice (some ⟨ad.gO, 0, none⟩) m ad.cO) := HR3.out.cell rfl
    have x5 : w3.cell? ⟨x, 5, none⟩ = some (.int .i64 t0.end_) := HX.out.cell rfl
    rw [HE.out] at x5
    have x0 : w3.cell? ⟨x, 0, none⟩ = some (.bool t0.steal) := HX.out.cell rfl
    rw [HST.out] at x0
    have o0 := HG3.out.onc HC.out
    obtain ⟨y, hy⟩ : ∃ y, y = g.O.getD c 0 := ⟨_, rfl⟩
    rw [<- hy] at o0
    have HY := Lib.hid hy
    have d1 : decide ((f : Int) < 0) = false := decide_eq_false (by omega)
    have d2 : decide ((m : Int) <= (f : Int)) = false := decide_eq_false (by have := HLT.out; omega)
    have d1' : ¬ ((f : Int) < 0) := by omega
    have d2' : ¬ ((m : Int) <= (f : Int)) := by have := HLT.out; omega
    have hn : ¬ ((m : Int) <= (c : Int)) := by have := HC.out; omega
    clear hbl hr bx hr1 HR1 HGB hy
    by_cases hid : y = -1
    · have d4 : (y == -1) = true := by rw [hid]; rfl
      clear hid
      by_cases hf0 : f = 0
      · have b1 : ((f : Int) != 0) = false := by rw [hf0]; rfl
        rw [decide_eq_false (show ¬ ((f : Int) ≠ 0) from fun q => q (by rw [hf0]; rfl))] at x0
        clear hf0
        go_upto_region 4 with fail
        go_quiet (fail)
        go_wp2
        go_ret
        exact ⟨rfl, below_drewN HB3.out _⟩
      · have b1 : ((f : Int) != 0) = true := bne_iff_ne.mpr (by omega)
        rw [decide_eq_true (show ((f : Int) ≠ 0) by omega)] at x0
        clear hf0
        go_upto_region 4 with fail
        go_quiet (fail)
        go_wp2
        go_ret
        exact ⟨rfl, below_drewN HB3.out _⟩
    · have d4 : (y == -1) = false := by simpa using hid
      obtain ⟨hf0, ht0⟩ := HBZ.out.resolve_left (fun q => hid (HY.out.trans q))
      have b1 : ((f : Int) != 0) = false := by rw [hf0]; rfl
      have b2 : ((f : Int) == 0) = true := by rw [hf0]; rfl
      rw [decide_eq_false (show ¬ ((f : Int) ≠ 0) from fun q => q (by rw [hf0]; rfl))] at x0
      have x1 : w3.cell? ⟨x, 1, none⟩ = some (.int .i64 0) := by have := HX.out.cell (j := 1) rfl; rw [this, ht0]; rfl
      have x2 : w3.cell? ⟨x, 2, none⟩ = some (.int .i64 0) := by have := HX.out.cell (j := 2) rfl; rw [this, ht0]; rfl
      have x3 : w3.cell? ⟨x, 3, none⟩ = some (.int .i64 0) := by have := HX.out.cell (j := 3) rfl; rw [this, ht0]; rfl
      have x4 : w3.cell? ⟨x, 4, none⟩ = some (.int .i64 0) := by have := HX.out.cell (j := 4) rfl; rw [this, ht0]; rfl
      have HTN := Lib.hid ht0
      clear hf0 ht0 hid
      have CF0 : Hid (∀ W, Calls Tryz.prog 144 #[.int .i64 0] W fun e w' => e = .returned (.agg #[.bool false, .int .i64 0, .int .i64 0, .int .i64 0, .int .i64 0, .int .i64 0]) /\ Below W.heap.size W w') := Lib.hid fun W => fresh_any 0 W
      have HX0 : Hid (RowV x 70 (cT (newTk false)) w3) := Lib.hid (by have := HX.out; rw [HTN.out] at this; exact this)
      clear CF
      go_upto_region 4 with fail
      go_region_with (go_at_call 144; refine (CF0.out _).mono ?_; rintro e w' ⟨rfl, hb⟩; (have HQ' : Hid (Below w3.heap.size w3 w') := Lib.hid (((Below.refl _ _).drew).trans hb)); clear hb; (have y0 : w'.cell? ⟨x, 0, none⟩ = some (.bool false) := (HX0.out.below HQ'.out HX0.out.lt).cell rfl); (have y1 : w'.cell? ⟨x, 1, none⟩ = some (.int .i64 0) := (HX0.out.below HQ'.out HX0.out.lt).cell rfl); (have y2 : w'.cell? ⟨x, 2, none⟩ = some (.int .i64 0) := (HX0.out.below HQ'.out HX0.out.lt).cell rfl); (have y3 : w'.cell? ⟨x, 3, none⟩ = some (.int .i64 0) := (HX0.out.below HQ'.out HX0.out.lt).cell rfl); (have y4 : w'.cell? ⟨x, 4, none⟩ = some (.int .i64 0) := (HX0.out.below HQ'.out HX0.out.lt).cell rfl); (have y5 : w'.cell? ⟨x, 5, none⟩ = some (.int .i64 0) := (HX0.out.below HQ'.out HX0.out.lt).cell rfl))
      all_goals go_wp2
      all_goals
        go_ret
        exact ⟨rfl, HB3.out.trans (HQ'.out.mono HB3.out.size)⟩
end
section
variable {base m: Nat} {g: Gng} {L: List Int} {ad: GAd}
theorem rdeque_any (A: Option Addr) (c: Nat) (T B: Int) (w: World) (hT: DTab w) (hq: ChkQ 64 T B) :
  Calls Tryz.prog 113 #[.agg #[.slice A 64 c,.int .i64 T,.int .i64 B]] w fun e w' => e = .returned (.bool true) /\ Below w.heap.size w w':=by
 have CK: Hid (∀ W,DTab W -> Calls Tryz.prog 143 #[.agg #[.slice A 64 c,.int .i64 T,.int .i64 B]] W fun e w' => e = .returned (.int .i64 0) /\ Below W.heap.size W w'):=Lib.hid fun W h => by
  have:=dcheck_any A 64 c T B W (by decide) h
  rw [show chkQE ((64: Nat): Int) T B = 0 from if_pos hq] at this
  exact this
 have HB:=Lib.hid (below_alloc (w:=w) (.cells #[.slice A 64 c,.int .i64 T,.int .i64 B] 86))
 have HT:=Lib.hid (hT.via HB.out)
 clear hT hq
 go_enter Tryz.func113,Tryz.ntmps113
 go_wp2_with (go_at_call 143; refine (CK.out _ HT.out).mono ?_; rintro e w' ⟨rfl,hb⟩; (have HB':=Lib.hid hb); clear hb)
 go_ret
 exact ⟨rfl,HB.out.trans (HB'.out.mono HB.out.size)⟩
theorem GOk.chkQ {n: Nat} {E: List (Int × Int)} (h: GOk n m E L g) {j: Nat} (hj: j < m): ChkQ 64 (g.T j) (g.B j):=by
 have b1:=(h.dq _ hj).bounds
 exact ⟨by decide,b1.1,by omega,by omega,by omega⟩
theorem rgang_any {n: Nat} {E: List (Int × Int)} (w: World) (hok: GOk n m E L g) (h: IsGng w base m g L ad) (hm: m <= 8) (hT: DTab w) :
  Calls Tryz.prog 66 #[.agg #[.slice (some ⟨ad.gO,0,none⟩) m ad.cO,ad.vL,.slice (some ⟨ad.gD,0,none⟩) m ad.cD,.slice (some ⟨ad.gT,0,none⟩) m ad.cT,.slice (some ⟨ad.gF,0,none⟩) m ad.cF]] w fun e w' => e = .returned (.bool true) /\ Below w.heap.size w w':=by
 obtain ⟨w0,hw0⟩: ∃ w0,w0 = w.alloc (.cells #[.slice (some ⟨ad.gO,0,none⟩) m ad.cO,ad.vL,.slice (some ⟨ad.gD,0,none⟩) m ad.cD,.slice (some ⟨ad.gT,0,none⟩) m ad.cT,.slice (some ⟨ad.gF,0,none⟩) m ad.cF] 41):=⟨_,rfl⟩
 have HB0: Hid (Below w.heap.size w w0):=Lib.hid (by rw [hw0]; exact below_alloc _)
 have HR0: Hid (RowV w.heap.size 41 (gangC m ad) w0):=Lib.hid (by rw [hw0]; exact RowV.new w _ (gangC m ad))
 have HG0:=Lib.hid (h.below HB0.out)
 have HT0:=Lib.hid (hT.via HB0.out)
 have HW0:=Lib.hid hw0
 have CQ: Hid (∀ (j: Nat) (A: Option Addr) (c: Nat) (W: World),j < m -> Below w0.heap.size w0 W -> Calls Tryz.prog 113 #[.agg #[.slice A 64 c,.int .i64 (g.T j),.int .i64 (g.B j)]] W fun e w' => e = .returned (.bool true) /\ Below W.heap.size W w'):=Lib.hid fun j A c W hj hb => rdeque_any A c _ _ W (HT0.out.via hb) (hok.chkQ hj)
 have CT:=Lib.hid (fun (c: Nat) (W: World) (hc: c < m) (hb: Below w0.heap.size w0 W) => rtaker_any W hc hm (HG0.out.below hb) (hok.fit hc))
 have HSL: Hid (∀ j,j < m -> ∃ A c,ad.Rv j = .slice A 64 c):=Lib.hid fun j hj => by
  obtain ⟨A,c,hv,_⟩:=(h.ring j hj).slice
  rw [hok.rl j hj] at hv
  exact ⟨A,c,hv⟩
 clear h hw0 hT hok
 go_enter Tryz.func66,Tryz.ntmps66
 go_upto_region 1 with fail
 rw [<- HW0.out]
 have r0: w0.cell? ⟨w.heap.size,0,none⟩ = some (.slice (some ⟨ad.gO,0,none⟩) m ad.cO):=HR0.out.cell rfl
 have r2: w0.cell? ⟨w.heap.size,2,none⟩ = some (.slice (some ⟨ad.gD,0,none⟩) m ad.cD):=HR0.out.cell rfl
 have r3: w0.cell? ⟨w.heap.size,3,none⟩ = some (.slice (some ⟨ad.gT,0,none⟩) m ad.cT):=HR0.out.cell rfl
 have r4: w0.cell? ⟨w.heap.size,4,none⟩ = some (.slice (some ⟨ad.gF,0,none⟩) m ad.cF):=HR0.out.cell rfl
 go_wp2_with fail
 clear r0 r2 r3 r4
 go_loopw [32] (fun v wr => ∃ k: Nat,k <= m /\ v = .int .i64 k /\ Hid (Below w0.heap.size w0 wr)) (fun v _ => m - (intOf v).toNat)
 case atStart => exact ⟨0,Nat.zero_le _,rfl,Lib.hid (Below.refl _ _)⟩
 case round =>
  obtain ⟨k,hk,rfl,HB⟩:=hrel
  by_cases hlt: k < m
  ·have G:=HG0.out.below HB.out
   have c0:=G.dq hlt (i:=0) rfl
   have c1:=G.dq hlt (i:=1) rfl
   have c2:=G.dq hlt (i:=2) rfl
   simp only [Nat.add_zero] at c0
   obtain ⟨A,c,hv⟩:=HSL.out k hlt
   rw [hv] at c0
   have e3: k * 3 = 3 * k:=Nat.mul_comm _ _
   have HLT:=Lib.hid hlt
   have CQ2:=Lib.hid (fun W hb => CQ.out k A c W hlt hb)
   have CT2:=Lib.hid (fun W hb => CT.out k W hlt hb)
   clear G hv
   go_upto_region 7 with fail
   obtain ⟨w5,hw5⟩: ∃ w5,w5 = wr.alloc (.cells #[.slice A 64 c,.int .i64 (g.T k),.int .i64 (g.B k)] 86):=⟨_,rfl⟩
   have HBK: Hid (Below w0.heap.size w0 w5):=Lib.hid (HB.out.trans (by rw [hw5]; exact (below_alloc _).mono HB.out.size))
   have HD5: Hid (RowV wr.heap.size 86 [.slice A 64 c,.int .i64 (g.T k),.int .i64 (g.B k)] w5):=Lib.hid (by rw [hw5]; exact RowV.new wr _ [.slice A 64 c,.int .i64 (g.T k),.int .i64 (g.B k)])
   rw [<- hw5]
   obtain ⟨gd,hgd⟩: ∃ gd,gd = wr.heap.size:=⟨_,rfl⟩
   rw [<- hgd] at HD5 ⊢
   clear hw5 hgd c0 c1 c2
   have d0: w5.cell? ⟨gd,0,none⟩ = some (.slice A 64 c):=HD5.out.cell rfl
   have d1: w5.cell? ⟨gd,1,none⟩ = some (.int .i64 (g.T k)):=HD5.out.cell rfl
   have d2: w5.cell? ⟨gd,2,none⟩ = some (.int .i64 (g.B k)):=HD5.out.cell rfl
   go_wp2_with (first
    | (go_at_call 113; refine (CQ2.out _ HBK.out).mono ?_; rintro e w6 ⟨rfl,hb⟩; (have HB6: Hid (Below w0.heap.size w0 w6):=Lib.hid (HBK.out.trans (hb.mono HBK.out.size))); clear hb; (have R6:=Lib.hid (HR0.out.below HB6.out HR0.out.lt)); (have r0: w6.cell? ⟨w.heap.size,0,none⟩ = some (.slice (some ⟨ad.gO,0,none⟩) m ad.cO):=R6.out.cell rfl); (have r1: w6.cell? ⟨w.heap.size,1,none⟩ = some ad.vL:=R6.out.cell rfl); (have r2: w6.cell? ⟨w.heap.size,2,none⟩ = some (.slice (some ⟨ad.gD,0,none⟩) m ad.cD):=R6.out.cell rfl); (have r3: w6.cell? ⟨w.heap.size,3,none⟩ = some (.slice (some ⟨ad.gT,0,none⟩) m ad.cT):=R6.out.cell rfl); (have r4: w6.cell? ⟨w.heap.size,4,none⟩ = some (.slice (some ⟨ad.gF,0,none⟩) m ad.cF):=R6.out.cell rfl))
    | (go_at_call 114; refine (CT2.out _ HB6.out).mono ?_; rintro e w7 ⟨rfl,hb⟩; (have HB7: Hid (Below w0.heap.size w0 w7):=Lib.hid (HB6.out.trans (hb.mono HB6.out.size))); clear hb))
   go_roundw
   case rel => exact ⟨k + 1,by omega,by go_num,HB7⟩
   case measure => simp [intOf]; omega
  ·obtain rfl: m = k:=by omega
   go_wp2
   go_ret
   exact ⟨rfl,HB0.out.trans (HB.out.mono HB0.out.size)⟩
theorem gcheck_any {n: Nat} {E: List (Int × Int)} {W: List Int} {AW FE: Option Addr} {nW cW mE dE: Nat} (w: World) (hok: GOk n m E L g) (h: IsGng w base m g L ad) (hm: m <= 8) (hT: DTab w) (hg: IsG w AW nW cW FE mE dE W E) (hM: May W E) (hn: W.length = n) :
  Calls Tryz.prog 29 #[.agg #[.slice AW nW cW,.slice FE mE dE],.agg #[.slice (some ⟨ad.gO,0,none⟩) m ad.cO,ad.vL,.slice (some ⟨ad.gD,0,none⟩) m ad.cD,.slice (some ⟨ad.gT,0,none⟩) m ad.cT,.slice (some ⟨ad.gF,0,none⟩) m ad.cF]] w fun e w' => e = .returned (.int .i64 0) /\ Below w.heap.size w w':=by
 obtain ⟨w1,hw1⟩: ∃ w1,w1 = (w.alloc (.cells #[.slice AW nW cW,.slice FE mE dE] 25)).alloc (.cells #[.slice (some ⟨ad.gO,0,none⟩) m ad.cO,ad.vL,.slice (some ⟨ad.gD,0,none⟩) m ad.cD,.slice (some ⟨ad.gT,0,none⟩) m ad.cT,.slice (some ⟨ad.gF,0,none⟩) m ad.cF] 41):=⟨_,rfl⟩
 have hb1: Below w.heap.size w w1:=by rw [hw1]; exact ((Below.refl _ _).alloc (Nat.le_refl _) _).alloc (by simp) _
 have HB1:=Lib.hid hb1
 have HD1: Hid (RowV w.heap.size 25 [.slice AW nW cW,.slice FE mE dE] w1):=Lib.hid (by rw [hw1]; exact (RowV.new w _ [.slice AW nW cW,.slice FE mE dE]).alloc _)
 have HR1: Hid (RowV (w.heap.size + 1) 41 (gangC m ad) w1):=Lib.hid (by
  rw [hw1]
  have:=RowV.new (w.alloc (.cells #[.slice AW nW cW,.slice FE mE dE] 25)) 41 (gangC m ad)
  simpa [gangC,GAd.vO,GAd.vD,GAd.vT,GAd.vF] using this)
 have hG1:=h.below hb1
 have hT1:=hT.via hb1
 have hl: L.length <= 400:=by have:=hok.crew.ln; have:=hok.n64; omega
 obtain ⟨AL,cL,hvL,hC⟩:=hG1.crew hm hl
 have hz: crewE W E g.O L = 0:=crewE_zero.mpr ⟨hM,by rw [hn]; exact hok.crew⟩
 have CC: Hid (Calls Tryz.prog 65 #[.agg #[.slice AW nW cW,.slice FE mE dE],.agg #[.slice (some ⟨ad.gO,0,none⟩) m ad.cO,ad.vL]] w1 fun e w' => e = .returned (.int .i64 0) /\ Below w1.heap.size w1 w'):=Lib.hid (by
  have:=ccheck_any w1 (hg.below hb1) hC
  rw [hz,<- hvL] at this
  exact this)
 have CG:=Lib.hid (fun (W: World) (hb: Below w1.heap.size w1 W) => rgang_any W hok (hG1.below hb) hm (hT1.via hb))
 have HW1:=Lib.hid hw1
 clear h hT hg hM hn hok hG1 hT1 hC hz hvL hw1 hb1
 go_enter Tryz.func29,Tryz.ntmps29
 go_upto_region 1 with fail
 rw [<- HW1.out]
 have p0: w1.cell? ⟨w.heap.size,0,none⟩ = some (.slice AW nW cW):=HD1.out.cell rfl
 have p1: w1.cell? ⟨w.heap.size,1,none⟩ = some (.slice FE mE dE):=HD1.out.cell rfl
 have r0: w1.cell? ⟨w.heap.size + 1,0,none⟩ = some (.slice (some ⟨ad.gO,0,none⟩) m ad.cO):=HR1.out.cell rfl
 have r1: w1.cell? ⟨w.heap.size + 1,1,none⟩ = some ad.vL:=HR1.out.cell rfl
 go_wp2_with (first
  | (go_at_call 65; refine CC.out.mono ?_; rintro e w2 ⟨rfl,hb⟩; (have HB2:=Lib.hid hb); clear hb p0 p1 r0 r1; (have R2:=Lib.hid (HR1.out.below HB2.out HR1.out.lt)); (have r0: w2.cell? ⟨w.heap.size + 1,0,none⟩ = some (.slice (some ⟨ad.gO,0,none⟩) m ad.cO):=R2.out.cell rfl); (have r1: w2.cell? ⟨w.heap.size + 1,1,none⟩ = some ad.vL:=R2.out.cell rfl); (have r2: w2.cell? ⟨w.heap.size + 1,2,none⟩ = some (.slice (some ⟨ad.gD,0,none⟩) m ad.cD):=R2.out.cell rfl); (have r3: w2.cell? ⟨w.heap.size + 1,3,none⟩ = some (.slice (some ⟨ad.gT,0,none⟩) m ad.cT):=R2.out.cell rfl); (have r4: w2.cell? ⟨w.heap.size + 1,4,none⟩ = some (.slice (some ⟨ad.gF,0,none⟩) m ad.cF):=R2.out.cell rfl))
  | (go_at_call 66; refine (CG.out _ HB2.out).mono ?_; rintro e w3 ⟨rfl,hb⟩; (have HB3:=Lib.hid hb); clear hb))
 go_ret
 exact ⟨rfl,HB1.out.trans ((HB2.out.trans (HB3.out.mono HB2.out.size)).mono HB1.out.size)⟩
end
end Go.Proofs.YtfpnkcpjhbkgnaaGreatDoor
