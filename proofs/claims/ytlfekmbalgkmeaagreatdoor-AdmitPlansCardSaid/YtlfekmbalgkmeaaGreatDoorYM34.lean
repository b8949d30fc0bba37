import Derived.Test.YtlfekmbalgkmeaaGreatDoorYM33
import Derived.Test.YtlfekmbalgkmeaaGreatDoorYM30
import Derived.Test.YtlfekmbalgkmeaaGreatDoorYM29
set_option linter.unusedSimpArgs false
set_option linter.unnecessarySimpa false
set_option linter.unusedVariables false
set_option maxRecDepth 100000
set_option maxHeartbeats 16000000
namespace Go.Proofs.YtlfekmbalgkmeaaGreatDoor
open Go Go.RowKit
theorem lightT_next {S: List Shp} {C: List (List Int)} {k: Int} {j: Nat} {s: Shp} {c: List Int} (hs: S[j]? = some s) (hc: C[j]? = some c): (ownT C k (j + 1)).filter (ltT S) = (ownT C k j).filter (ltT S) ++ if LightS s /\ k ∈ c then [j] else []:=by
 rw [ownT_succ hc,List.filter_append]
 congr 1
 by_cases q: k ∈ c
 ·by_cases hh: LightS s <;> simp [List.filter_cons,ltT_at hs,hh,q]
 ·rw [if_neg q,if_neg (fun z => q z.2)]
  rfl
theorem lightT_end {S: List Shp} {C: List (List Int)} {k: Int} {j: Nat} (h: min S.length C.length <= j) (h1: j <= S.length) (h2: j <= C.length): lightQ S C k = (ownT C k j).filter (ltT S):=by
 obtain rfl: j = min S.length C.length:=by omega
 rfl
theorem rlight17_any {A : Option Addr} {n c : Nat} {G : Option Addr} {m d : Nat} {S : List Shp} {C : List (List Int)} (k : Int) (wf : World) (h : IsPl wf A n c G m d S C) (hf : FewP S C) :
    Calls Tryz.prog 23 #[.agg #[.slice A n c, .slice G m d], .int .i64 k] wf fun e w' => ∃ F q d1, e = .returned (.slice F q d1) /\ Below wf.heap.size wf w' /\ ((lightQ S C k).length = q /\ OwnI w' wf.heap.size (.slice F q d1) (nums (lightQ S C k))) := by
  have HPl := Lib.hid (fun W (b : Below wf.heap.size wf W) => h.via b)
  have HF := Lib.hid hf
  have HN := Lib.hid (show (S.length = n /\ n <= 20) /\ C.length = m /\ m <= 20 from ⟨⟨h.l1, by have := hf.f1; rw [h.l1] at this; exact this⟩, h.l2, by have := hf.f2; rw [h.l2] at this; exact this⟩)
  have HRW := Lib.hid (RowV.new wf 28 [.slice A n c, .slice G m d])
  have HB0 := Lib.hid (show Below wf.heap.size wf (wf.alloc (.cells #[.slice A n c, .slice G m d] 28)) from below_alloc _)
  have HLT := Lib.hid (show wf.heap.size < (wf.alloc (.cells #[.slice A n c, .slice G m d] 28)).heap.size by simp)
  have HO0 := Lib.hid (show OwnI ((wf.alloc (.cells #[.slice A n c, .slice G m d] 28)).alloc (.cells #[] 3)) (wf.heap.size + 1) (.slice (some ⟨wf.heap.size + 1, 0, none⟩) 0 0) (nums ((ownT C k 0).filter (ltT S))) from by
    have hs : (wf.alloc (.cells #[.slice A n c, .slice G m d] 28)).heap.size = wf.heap.size + 1 := by simp
    have hh := heap_alloc_new (wf.alloc (.cells #[.slice A n c, .slice G m d] 28)) (.cells #[] 3)
    rw [hs] at hh
    exact ⟨rfl, .inr ⟨wf.heap.size + 1, 0, #[], rfl, Nat.le_refl _, hh, Nat.le_refl _, by simp [maxLen], rfl, rfl⟩⟩)
  have hbE : Below (wf.alloc (.cells #[.slice A n c, .slice G m d] 28)).heap.size (wf.alloc (.cells #[.slice A n c, .slice G m d] 28)) ((wf.alloc (.cells #[.slice A n c, .slice G m d] 28)).alloc (.cells #[] 3)) := below_alloc _
  have HRW := Lib.hid (RowV.below HRW.out hbE HLT.out)
  have HB0 := Lib.hid (HB0.out.trans (hbE.mono HB0.out.size))
  have HLT := Lib.hid (Nat.lt_of_lt_of_le HLT.out hbE.size)
  clear h hf hbE
  go_enter Tryz.func23, Tryz.ntmps23
  go_wp2
  go_loopw [5, 6] (fun ov i wr => ∃ (j q d1 : Nat) (F : Option Addr), j <= n /\ j <= m /\ i = .int .i64 j /\ ov = .slice F q d1 /\ q <= j /\ Hid (((ownT C k j).filter (ltT S)).length = q /\ OwnI wr (wf.heap.size + 1) (.slice F q d1) (nums ((ownT C k j).filter (ltT S)))) /\ Hid (RowV wf.heap.size 28 [.slice A n c, .slice G m d] wr /\ wf.heap.size < wr.heap.size) /\ Hid (Below wf.heap.size wf wr)) (fun _ i _ => n - (intOf i).toNat)
  case atStart => exact ⟨0, 0, 0, _, Nat.zero_le _, Nat.zero_le _, rfl, rfl, Nat.le_refl _, Lib.hid ⟨rfl, HO0.out⟩, Lib.hid ⟨HRW.out, HLT.out⟩, HB0⟩
  case round =>
    obtain ⟨j, q, d1, F, hj, hjm, rfl, rfl, hqj, HO, HRr, HB⟩ := hrel
    clear HRW HB0 HLT HO0
    have r0 := (show RowV wf.heap.size 28 [.slice A n c, .slice G m d] wr from HRr.out.1).cell (j := 0) rfl
    have r1 := HRr.out.1.cell (j := 1) rfl
    have hn20 : n <= 20 := HN.out.1.2
    by_cases hlt : j < n
    · by_cases hlm : j < m
      · have hP := HPl.out _ HB.out
        obtain ⟨b, off, t, lg, mo, dd, pp, rfl, hbg, hek, c0, c1, c2, c3, c4⟩ := hP.shp.at_ (k := j) (by rw [HN.out.1.1]; exact hlt)
        obtain ⟨b2, off2, cr, K, nk, ck, rfl, hb2, hcr, hnk, x1, i1, z1⟩ := hP.lol.at_ (k := j) (by rw [HN.out.2.1]; exact hlm)
        have HEK := Lib.hid hek
        have HCR := Lib.hid hcr
        have hbx : Below wr.heap.size wr (wr.alloc (.cells #[.int .i64 t, .int .i64 lg, .int .i64 mo, .int .i64 dd, .int .i64 pp] 44)) := below_alloc _
        have HBx := Lib.hid hbx
        have HRS := Lib.hid (RowV.new wr 44 [.int .i64 t, .int .i64 lg, .int .i64 mo, .int .i64 dd, .int .i64 pp])
        have CK := Lib.hid (rchk_any ⟨t, lg, mo, dd, pp⟩ (wr.alloc (.cells #[.int .i64 t, .int .i64 lg, .int .i64 mo, .int .i64 dd, .int .i64 pp] 44)))
        obtain ⟨ok, hok⟩ : ∃ y, y = decide (Shp.Ok ⟨t, lg, mo, dd, pp⟩) := ⟨_, rfl⟩
        rw [<- hok] at CK
        have HOKs := Lib.hid hok
        unfold Shp.val at CK
        dsimp only at CK
        have HX := Lib.hid (fun W (b' : Below wr.heap.size wr W) => And.intro ((b'.cell (p := ⟨b2, off2 + j, none⟩) hb2).trans x1) ((i1.below b').more b'.size))
        have HNK := Lib.hid (show cr.length = nk /\ nk <= 12 from ⟨hnk, by have := HF.out.f3 _ (List.mem_of_getElem? hcr); omega⟩)
        clear hP hek hcr hbx hok hnk x1 i1 z1 hb2 hbg
        go_wp2_with fail
        refine CK.out.mono ?_
        rintro e w1 ⟨rfl, b1⟩
        have HB1 := Lib.hid (HBx.out.trans (b1.mono HBx.out.size))
        have HRS := Lib.hid (HRS.out.below b1 (by simp))
        have HBn := Lib.hid (HB.out.trans (HB1.out.mono HB.out.size))
        have HRn := Lib.hid (show RowV wf.heap.size 28 [.slice (some ⟨b, off, none⟩) n c, .slice (some ⟨b2, off2, none⟩) m d] w1 /\ wf.heap.size < w1.heap.size from ⟨HRr.out.1.below HB1.out HRr.out.2, Nat.lt_of_lt_of_le HRr.out.2 HB1.out.size⟩)
        have HOb := Lib.hid ((HO.out.2.below HBx.out).below b1)
        have s0 := (show RowV wr.heap.size 44 [.int .i64 t, .int .i64 lg, .int .i64 mo, .int .i64 dd, .int .i64 pp] w1 from HRS.out).cell (j := 0) rfl
        have s3 := (show RowV wr.heap.size 44 [.int .i64 t, .int .i64 lg, .int .i64 mo, .int .i64 dd, .int .i64 pp] w1 from HRS.out).cell (j := 3) rfl
        have q1 := HRn.out.1.cell (j := 1) rfl
        have y1 := (HX.out w1 HB1.out).1
        clear b1 CK
        cases ok with
        | false =>
          have hL := lightT_next (k := k) HEK.out HCR.out
          rw [if_neg (fun z => of_decide_eq_false HOKs.out.symm z.1.1), List.append_nil] at hL
          have HO2 := Lib.hid hL
          clear hL c0 c1 c2 c3 c4 r0 r1
          go_wp2
          go_roundw
          case rel => exact ⟨j + 1, q, d1, F, by omega, by omega, by go_num, rfl, by omega, Lib.hid (by rw [HO2.out]; exact ⟨HO.out.1, HOb.out⟩), HRn, HBn⟩
          case measure => simp [intOf]; omega
        | true =>
          by_cases hdt : t <= dd
          · have e1 : decide (t <= dd) = true := decide_eq_true hdt
            have HLi := Lib.hid (show LightS ⟨t, lg, mo, dd, pp⟩ from ⟨of_decide_eq_true HOKs.out.symm, hdt⟩)
            obtain ⟨rr, hrr⟩ : ∃ y, y = decide (k ∈ cr) := ⟨_, rfl⟩
            have KHs := Lib.hid (has_any K ck cr k w1 nk HNK.out.1 (by have := HNK.out.2; omega) (HX.out w1 HB1.out).2)
            rw [<- hrr] at KHs
            have HRR := Lib.hid hrr
            clear hrr
            go_wp2_with fail
            refine KHs.out.mono ?_
            rintro e w3 ⟨rfl, rfl⟩
            clear KHs
            cases rr with
            | false =>
              have hL := lightT_next (k := k) HEK.out HCR.out
              rw [if_neg (fun z => of_decide_eq_false HRR.out.symm z.2), List.append_nil] at hL
              have HO2 := Lib.hid hL
              clear hL c0 c1 c2 c3 c4 r0 r1
              go_wp2
              go_roundw
              case rel => exact ⟨j + 1, q, d1, F, by omega, by omega, by go_num, rfl, by omega, Lib.hid (by rw [HO2.out]; exact ⟨HO.out.1, HOb.out⟩), HRn, HBn⟩
              case measure => simp [intOf]; omega
            | true =>
              have hL := lightT_next (k := k) HEK.out HCR.out
              rw [if_pos ⟨HLi.out, of_decide_eq_true HRR.out.symm⟩] at hL
              have HO2 := Lib.hid hL
              have hb1 : wf.heap.size + 1 <= w1.heap.size := HRn.out.2
              have HLN := Lib.hid (show (nums ((ownT C k j).filter (ltT S))).length = q by rw [nums_len]; exact HO.out.1)
              clear hL c0 c1 c2 c3 c4 r0 r1
              go_wp2_with (at_builtin; refine wpList_push rfl _ _ rfl w1 (wf.heap.size + 1) _ (nums ((ownT C k j).filter (ltT S))) (j : Int) q HLN.out (by omega) HOb.out hb1 rfl rfl ?_; intro A' c' w7 hO7 hb7; have HO7 := Lib.hid hO7; have HB7 := Lib.hid hb7; clear hO7 hb7)
              go_roundw
              case rel => exact ⟨j + 1, q + 1, c', A', by omega, by omega, by go_num, rfl, by omega, Lib.hid (by rw [HO2.out, nums_snoc]; exact ⟨by rw [List.length_append, HO.out.1]; rfl, HO7.out⟩), Lib.hid ⟨HRn.out.1.below HB7.out (Nat.lt_succ_self _), Nat.lt_of_lt_of_le HRn.out.2 HB7.out.size⟩, Lib.hid (HBn.out.trans (HB7.out.mono (Nat.le_succ _)))⟩
              case measure => simp [intOf]; omega
          · have e1 : decide (t <= dd) = false := decide_eq_false hdt
            have hL := lightT_next (k := k) HEK.out HCR.out
            rw [if_neg (fun z => hdt z.1.2), List.append_nil] at hL
            have HO2 := Lib.hid hL
            clear hL c0 c1 c2 c3 c4 r0 r1
            go_wp2
            go_roundw
            case rel => exact ⟨j + 1, q, d1, F, by omega, by omega, by go_num, rfl, by omega, Lib.hid (by rw [HO2.out]; exact ⟨HO.out.1, HOb.out⟩), HRn, HBn⟩
            case measure => simp [intOf]; omega
      · have HQ := Lib.hid (lightT_end (S := S) (C := C) (k := k) (j := j) (by rw [HN.out.1.1, HN.out.2.1]; omega) (by rw [HN.out.1.1]; omega) (by rw [HN.out.2.1]; omega))
        go_wp2
        refine bodyPost_ret (v := .slice F q d1) ?_ rfl ⟨F, q, d1, rfl, HB.out, by rw [HQ.out]; exact ⟨HO.out.1, own_less HO.out.2 (Nat.le_succ _)⟩⟩
        simp [results, Tryz.results23, go_sem]
    · have HQ := Lib.hid (lightT_end (S := S) (C := C) (k := k) (j := j) (by rw [HN.out.1.1, HN.out.2.1]; omega) (by rw [HN.out.1.1]; omega) (by rw [HN.out.2.1]; omega))
      go_wp2
      refine bodyPost_ret (v := .slice F q d1) ?_ rfl ⟨F, q, d1, rfl, HB.out, by rw [HQ.out]; exact ⟨HO.out.1, own_less HO.out.2 (Nat.le_succ _)⟩⟩
      simp [results, Tryz.results23, go_sem]
section
variable {P: Program} {ops: Array Oper} {Q: Exit -> Act -> World -> Prop}
theorem wp_region_univ2 (ds : List Nat) (wt : List Bool) {id : Nat} {a0 : Act} {w0 : World} (hm : P.follows .mixedOrders = true) (hG : univB ops ds wt = true) (hsz : ∀ d ∈ ds, d < a0.tmps.size \/ 1000 <= d) (hs1 : a0.tmps.size <= 1000)
    (I : World -> Prop) (Φ : Nat -> Value -> World -> Prop) (Pre : Nat -> World -> Prop) (R : Nat -> World -> World -> Prop)
    (hI : ∀ i w w', I w -> R i w w' -> I w') (hΦ : ∀ i k v w w', k ≠ i -> (∀ p : Oper, ops[k]? = some p -> (p.after.any fun e => e.on == i && Region.binds .any e) = false) -> Φ k v w -> R i w w' -> Φ k v w') (hP : ∀ i k w w', k ≠ i -> (∀ p : Oper, ops[i]? = some p -> (p.after.any fun e => e.on == k && Region.binds .any e) = false) -> Pre k w -> R i w w' -> Pre k w')
    (h0 : I { w0 with drawn := w0.drawn + 1 }) (hp0 : ∀ k, Pre k { w0 with drawn := w0.drawn + 1 })
    (hW : ∀ (k : Nat) (o : Oper) (g : Nat) (b : Bool), ops[k]? = some o -> o.guard = some (g, b) -> ∀ v w, Φ g v w -> v = .bool (if wt.getD k true = true then b else !b))
    (hskip : ∀ k, wt.getD k true = false -> ∀ w, R k w w /\ ∀ u, (ds.getD k 0 < 1000 -> u = undef) -> Φ k u w)
    (hstep : ∀ (k : Nat) (o : Oper), ops[k]? = some o -> wt.getD k true = true -> ∀ (a : Act) (w : World), I w -> Pre k w -> AtDoor a0 ds a.eval -> (∀ e ∈ o.after, Region.binds .any e = true -> Φ e.on (a.eval (.tmp (ds.getD e.on 0))) w) ->
      (∀ (j : Nat) (p : Oper), ops[j]? = some p -> (p.after.any fun e => e.on == k && Region.binds .any e) = true -> a.eval (.tmp (ds.getD j 0)) = a0.eval (.tmp (ds.getD j 0))) ->
      ∀ K : Act -> World -> Prop, (∀ v w', (∀ u, (ds.getD k 0 < 1000 -> u = v) -> Φ k u w') -> R k w w' -> K (a.put o.dst v) w') -> o.wp P a w K Q)
    (hend : ∀ (vals : Nat -> Value) (w : World), I w -> (∀ k, k < ds.length -> Φ k (vals (ds.getD k 0)) w) -> Q .normal ⟨(fillA a0 ds vals).toArray, a0.defers⟩ w) :
    (Code.region id ops true).wp P Q a0 w0 := by
  have G := univ_of hG
  refine wp_region_inv (fun l a w => l.size = ds.length /\ I w /\ AtDoor a0 ds a.eval /\ a.tmps.size = a0.tmps.size /\ a.defers = a0.defers /\ (∀ k, k < ds.length -> l.getD k false = true -> Φ k (a.eval (.tmp (ds.getD k 0))) w) /\ (∀ k, k < ds.length -> l.getD k false = false -> Pre k w /\ a.eval (.tmp (ds.getD k 0)) = a0.eval (.tmp (ds.getD k 0))) /\ (∀ (j : Nat) (p : Oper), ops[j]? = some p -> l.getD j false = true -> ∀ e ∈ p.after, Region.binds .any e = true -> l.getD e.on false = true)) hm ?_ ?_ ?_
  · refine ⟨by rw [Array.size_replicate]; exact G.size, h0, atDoor_start a0 ds, rfl, rfl, fun k hk h => ?_, fun k hk _ => ⟨hp0 k, rfl⟩, fun j p _ h => ?_⟩
    · exfalso
      by_cases h2 : k < ops.size <;> simp [h2] at h
    · exfalso
      by_cases h2 : j < ops.size <;> simp [h2] at h
  · rintro l a w i ⟨hls, hIw, hAD, hasz, hadf, hF, hU, hC⟩ hi
    obtain ⟨hun, o, ho, hpre⟩ := mem_ready.1 hi
    have hilt : i < ops.size := (Array.getElem?_eq_some_iff.1 ho).1
    have hin : i < ds.length := by rw [<- G.size]; exact hilt
    have hil : i < l.size := by omega
    have hdep : ∀ e ∈ o.after, Region.binds .any e = true -> Φ e.on (a.eval (.tmp (ds.getD e.on 0))) w := fun e he hb => hF e.on (Nat.lt_trans (G.back i o ho e he hb) hin) (hpre e he hb)
    have hili : l.getD i false = false := by
      cases h : l.getD i false with
      | false => rfl
      | true =>
        exfalso
        simp [hil] at h hun
        rw [h] at hun
        cases hun
    have hnext : ∀ v w', (∀ u, (ds.getD i 0 < 1000 -> u = v) -> Φ i u w') -> R i w w' -> (l.setIfInBounds i true).size = ds.length /\ I w' /\ AtDoor a0 ds (a.put o.dst v).eval /\ (a.put o.dst v).tmps.size = a0.tmps.size /\ (a.put o.dst v).defers = a0.defers /\ (∀ k, k < ds.length -> (l.setIfInBounds i true).getD k false = true -> Φ k ((a.put o.dst v).eval (.tmp (ds.getD k 0))) w') /\ (∀ k, k < ds.length -> (l.setIfInBounds i true).getD k false = false -> Pre k w' /\ (a.put o.dst v).eval (.tmp (ds.getD k 0)) = a0.eval (.tmp (ds.getD k 0))) /\ (∀ (j : Nat) (p : Oper), ops[j]? = some p -> (l.setIfInBounds i true).getD j false = true -> ∀ e ∈ p.after, Region.binds .any e = true -> (l.setIfInBounds i true).getD e.on false = true) := fun v w' hphi hr => by
      have hother : ∀ k, k < ds.length -> k ≠ i -> (a.put o.dst v).eval (.tmp (ds.getD k 0)) = a.eval (.tmp (ds.getD k 0)) := fun k hk hki => by
        rcases G.dst i o ho with ⟨_, hd⟩ | ⟨_, hd⟩
        · rw [hd]
          exact eval_put_other _ _ _ _ (fun e => hki (fds_inj G.nodup hk hin e))
        · rw [hd]; rfl
      have hself : (a.put o.dst v).eval (.tmp (ds.getD i 0)) = v \/ ¬ ds.getD i 0 < 1000 := by
        rcases G.dst i o ho with ⟨h1, hd⟩ | ⟨h1, hd⟩
        · left
          rw [hd]
          refine eval_put_same _ _ _ ?_
          rw [hasz]
          rcases hsz _ (fds_mem hin) with h | h
          · exact h
          · omega
        · right; omega
      refine ⟨by rw [Array.size_setIfInBounds]; exact hls, hI i w w' hIw hr, ?_, ?_, ?_, fun k hk hkl => ?_, fun k hk hkl => ?_, fun j p hp hjl e he hb2 => (getD_set_iff hil).mpr (.inr ?_)⟩
      · rcases G.dst i o ho with ⟨_, hd⟩ | ⟨_, hd⟩
        · rw [hd]; exact hAD.put (fds_mem hin) v
        · rw [hd]; exact hAD
      · rcases G.dst i o ho with ⟨_, hd⟩ | ⟨_, hd⟩
        · rw [hd]
          show (a.tmps.setIfInBounds _ _).size = _
          rw [Array.size_setIfInBounds]; exact hasz
        · rw [hd]; exact hasz
      · rcases G.dst i o ho with ⟨_, hd⟩ | ⟨_, hd⟩ <;> rw [hd] <;> exact hadf
      · by_cases hki : k = i
        · subst hki
          refine hphi _ fun h1 => ?_
          rcases hself with h | h
          · exact h
          · exact absurd h1 h
        · rw [hother k hk hki]
          have hlk := (listed_set hkl).resolve_left hki
          refine hΦ i k _ _ _ hki (fun p hp => ?_) (hF k hk hlk) hr
          cases hany : p.after.any fun e => e.on == i && Region.binds .any e with
          | false => rfl
          | true =>
            obtain ⟨e, he, h8⟩ := Array.any_eq_true'.1 hany
            rw [Bool.and_eq_true, beq_iff_eq] at h8
            have h9 := hC k p hp hlk e he h8.2
            rw [h8.1, hili] at h9
            cases h9
      · have hki : k ≠ i := fun e => by
          have h2 := (getD_set_iff (k := k) hil).mpr (.inl e)
          rw [hkl] at h2; cases h2
        rw [hother k hk hki]
        have hlk : l.getD k false = false := by
          cases h : l.getD k false with
          | false => rfl
          | true =>
            have h2 := (getD_set_iff (k := k) hil).mpr (.inr h)
            rw [hkl] at h2; cases h2
        have h3 := hU k hk hlk
        refine ⟨hP i k w w' hki (fun p hp => ?_) h3.1 hr, h3.2⟩
        cases hany : p.after.any fun e => e.on == k && Region.binds .any e with
        | false => rfl
        | true =>
          obtain ⟨e, he, h8⟩ := Array.any_eq_true'.1 hany
          rw [Bool.and_eq_true, beq_iff_eq] at h8
          rw [ho] at hp
          obtain rfl := Option.some.inj hp
          have h9 := hpre e he h8.2
          rw [h8.1, hlk] at h9
          cases h9
      · rcases (getD_set_iff hil).mp hjl with rfl | h
        · rw [ho] at hp
          obtain rfl := Option.some.inj hp
          exact hpre e he hb2
        · exact hC j p hp h e he hb2
    have hlate : ∀ (j : Nat) (p : Oper), ops[j]? = some p -> (p.after.any fun e => e.on == i && Region.binds .any e) = true -> a.eval (.tmp (ds.getD j 0)) = a0.eval (.tmp (ds.getD j 0)) := fun j p hp hany => by
      obtain ⟨e, he, h8⟩ := Array.any_eq_true'.1 hany
      rw [Bool.and_eq_true, beq_iff_eq] at h8
      refine (hU j (by rw [<- G.size]; exact (Array.getElem?_eq_some_iff.1 hp).1) ?_).2
      cases h : l.getD j false with
      | false => rfl
      | true =>
        have h2 := hC j p hp h e he h8.2
        rw [h8.1, hili] at h2
        cases h2
    unfold wpOp
    rw [ho]
    have hyield : ∀ g b, o.guard = some (g, b) -> yielded ops a.tmps g = some (if wt.getD i true = true then b else !b) := fun g b hg => by
      obtain ⟨hgi, e, he, h1, h2⟩ := G.guard i o g b ho hg
      have hv := hW i o g b ho hg _ _ (by have := hdep e he h2; rwa [h1] at this)
      obtain ⟨og, hog⟩ : ∃ og, ops[g]? = some og := ⟨_, Array.getElem?_eq_getElem (by omega)⟩
      rcases G.dst g og hog with ⟨hd0, hd⟩ | ⟨hd0, hd⟩
      · unfold yielded
        rw [hog, Option.bind_some, hd, Option.bind_some]
        have hlt : ds.getD g 0 < a.tmps.size := by
          rw [hasz]
          rcases hsz _ (fds_mem (show g < ds.length by omega)) with h | h
          · exact h
          · omega
        rw [Array.getElem?_eq_getElem hlt]
        have : a.tmps[ds.getD g 0] = .bool (if wt.getD i true = true then b else !b) := by
          rw [<- hv]
          show _ = a.tmps.getD (ds.getD g 0) undef
          rw [Array.getD_eq_getD_getElem?, Array.getElem?_eq_getElem hlt]
          rfl
        rw [this]
      · exfalso
        rw [eval_far (by rw [hasz]; omega)] at hv
        cases hv
    cases hw : wt.getD i true with
    | true =>
      have hwant : Region.wanted o (yielded ops a.tmps) = true := by
        unfold Region.wanted
        cases hg : o.guard with
        | none => rfl
        | some gb =>
          obtain ⟨g, b⟩ := gb
          show (yielded ops a.tmps g == some b) = true
          rw [hyield g b hg, hw]
          simp
      simp only [hwant, if_true]
      exact .inl (hstep i o ho hw a w hIw (hU i hin hili).1 hAD hdep hlate _ hnext)
    | false =>
      have hwant : Region.wanted o (yielded ops a.tmps) = false := by
        unfold Region.wanted
        cases hg : o.guard with
        | none =>
          have := G.free i o ho hg
          rw [hw] at this
          cases this
        | some gb =>
          obtain ⟨g, b⟩ := gb
          show (yielded ops a.tmps g == some b) = false
          rw [hyield g b hg, hw]
          cases b <;> rfl
      simp only [hwant]
      exact hnext undef w (hskip i hw w).2 (hskip i hw w).1
  · rintro l a w ⟨hls, hIw, hAD, hasz, hadf, hF, _, _⟩ hr
    have hall := all_listed' (by rw [hls, G.size]) G.back hr
    rw [act_fill hAD hasz hadf]
    exact hend (fun t => a.eval (.tmp t)) w hIw fun k hk => hF k hk (hall k (by rw [G.size]; exact hk))
end
def hT17: Task:=⟨8,6,[(0,0,4),(0,0,4)],[],[],[]⟩
def lT17: Task:=⟨8,8,[(0,0,2)],[],[],[]⟩
theorem hT17Few: FewT hT17:=⟨by decide,by decide,by decide,by decide,by decide⟩
theorem lT17Few: FewT lT17:=⟨by decide,by decide,by decide,by decide,by decide⟩
theorem hT17May: MayT hT17 where
 few:=by unfold ManyT; decide
 time:=by decide
 parts:=by decide
 edges:=⟨by unfold Fits; decide,by decide,by decide⟩
 futures:=⟨fun f hf => by simp [hT17] at hf,by decide⟩
 bars:=fun b hb => by simp [hT17] at hb
theorem lT17May: MayT lT17 where
 few:=by unfold ManyT; decide
 time:=by decide
 parts:=by decide
 edges:=⟨by unfold Fits; decide,by decide,by decide⟩
 futures:=⟨fun f hf => by simp [lT17] at hf,by decide⟩
 bars:=fun b hb => by simp [lT17] at hb
theorem fits2_17: Fits 2 []:=by unfold Fits; decide
theorem fits1_17: Fits 1 []:=by unfold Fits; decide
theorem hT17W: lowW hT17 = [4,4]:=by decide +kernel
theorem hT17E: lowE hT17 = []:=by decide +kernel
theorem lT17W: lowW lT17 = [2]:=by decide +kernel
theorem lT17E: lowE lT17 = []:=by decide +kernel
theorem h17Good: May [4,4] []:=⟨by decide,by decide,by unfold WorkOk; decide,fits2_17,by decide,by decide,acyc_of fits2_17 (by decide)⟩
theorem l17Good: May [2] []:=⟨by decide,by decide,by unfold WorkOk; decide,fits1_17,by decide,by decide,acyc_of fits1_17 (by decide)⟩
theorem h17Ok: LowOk hT17:=⟨hT17May,by rw [hT17W,hT17E]; exact h17Good⟩
theorem l17Ok: LowOk lT17:=⟨lT17May,by rw [lT17W,lT17E]; exact l17Good⟩
theorem h17X: lowX hT17 = 0:=lowX_zero.mpr h17Ok
theorem l17X: lowX lT17 = 0:=lowX_zero.mpr l17Ok
theorem h17Wv: lowWv hT17 = [4,4]:=by unfold lowWv; rw [if_pos h17Ok,hT17W]
theorem h17Ev: lowEv hT17 = []:=by unfold lowEv; rw [if_pos h17Ok,hT17E]
theorem l17Wv: lowWv lT17 = [2]:=by unfold lowWv; rw [if_pos l17Ok,lT17W]
theorem l17Ev: lowEv lT17 = []:=by unfold lowEv; rw [if_pos l17Ok,lT17E]
theorem h17Tot: totalV [4,4] [] = 8:=by unfold totalV; rw [if_pos h17Good]; decide
theorem h17Long: longV [4,4] [] = 4:=by unfold longV; rw [if_pos h17Good]; decide
theorem l17Tot: totalV [2] [] = 2:=by unfold totalV; rw [if_pos l17Good]; decide
theorem l17Long: longV [2] [] = 2:=by unfold longV; rw [if_pos l17Good]; decide
def hS17: Shp:=⟨8,4,4,6,8⟩
def lS17: Shp:=⟨2,2,2,8,8⟩
theorem h17Shape: shapeT hT17 = hS17:=by
 have h: shapeT hT17 = ⟨totalV (lowWv hT17) (lowEv hT17),longV (lowWv hT17) (lowEv hT17),maxL (lowWv hT17),6,8⟩:=if_pos h17Ok
 rw [h,h17Wv,h17Ev,h17Tot,h17Long]
 rfl
theorem l17Shape: shapeT lT17 = lS17:=by
 have h: shapeT lT17 = ⟨totalV (lowWv lT17) (lowEv lT17),longV (lowWv lT17) (lowEv lT17),maxL (lowWv lT17),8,8⟩:=if_pos l17Ok
 rw [h,l17Wv,l17Ev,l17Tot,l17Long]
 rfl
def exT17: List Task:=[lT17,hT17,lT17]
def exS17: List Shp:=[lS17,hS17,lS17]
def exC17: List (List Int):=[[2],[0,1],[2]]
theorem ex17Shapes: shpsT exT17 = exS17:=by simp [shpsT,exT17,exS17,h17Shape,l17Shape]
theorem ex17Low: fstX (exT17.map lowX) = 0:=by simp [exT17,fstX,h17X,l17X]
theorem h17Heavy: heavyS hS17 = true:=by decide +kernel
theorem l17Heavy: heavyS lS17 = false:=by decide +kernel
theorem h17Cores: coresS hS17 = 2:=by decide +kernel
theorem h17Fault: faultS hS17 = 0:=by decide +kernel
theorem l17Fault: faultS lS17 = 0:=by decide +kernel
theorem l17Light: LightS lS17:=by decide +kernel
theorem ex17Good: ∀ s ∈ exS17,faultS s = 0:=fun s hs => by
 simp only [exS17,List.mem_cons,List.not_mem_nil,or_false] at hs
 rcases hs with rfl | rfl | rfl
 ·exact l17Fault
 ·exact h17Fault
 ·exact l17Fault
theorem ex17Used: usedP exS17 = 2:=by simp [exS17,usedP,h17Heavy,l17Heavy,h17Cores]
theorem ex17Lights: lightP exS17 = [lS17,lS17]:=by simp [exS17,lightP,h17Heavy,l17Heavy]
theorem l17May2: MayE [lS17,lS17]:=⟨by decide,fun s hs => by simp at hs; rw [hs]; exact l17Light⟩
theorem l17Fit: FitE [lS17,lS17]:=(fit_two l17Light).mpr (by decide)
theorem l17Ord: ordP [lS17,lS17] = [0,1]:=by decide
theorem l17One: PlcP [lS17,lS17] 1 (some [0,0]):=by
 unfold PlcP
 rw [l17Ord]
 refine .next (c:=0) ⟨by decide,⟨lS17,rfl,?_⟩,fun k hk => by omega⟩ ?_
 ·exact fit_alone l17Light
 refine .next (c:=0) ⟨by decide,⟨lS17,rfl,?_⟩,fun k hk => by omega⟩ (.done _)
 exact l17Fit
theorem l17None: PlcP [lS17,lS17] 0 none:=by
 unfold PlcP
 rw [l17Ord]
 exact .full fun c hc => absurd hc (Nat.not_lt_zero _)
theorem ex17Ok: AdmOk exT17 3 exS17 exC17 [0,0] where
 may:=⟨by decide,by decide,by decide⟩
 low:=ex17Low
 eq:=ex17Shapes.symm
 good:=ex17Good
 used:=by rw [ex17Used]; decide
 plc:=by
  rw [ex17Lights,ex17Used]
  exact .inr ⟨l17May2,by decide,by decide,_,l17One,rfl,rfl⟩
 at_:=by
  rw [ex17Used]
  simp [exS17,exC17,atP,h17Heavy,l17Heavy,h17Cores,upto,List.range_succ]
theorem ex17Adm: AdmA exT17 3 exS17 exC17 0:=ex17Ok.is
theorem ex17Full: AdmA exT17 2 [] [] 171:=by
 refine .inr (.inr (.inr ⟨⟨by decide,by decide,by decide⟩,ex17Low,?_,.inr ⟨?_,[],161,?_,.inr ⟨by decide,rfl,rfl⟩⟩,rfl⟩))
 ·rw [ex17Shapes]
  exact fstX_zero.mpr fun x hx => by
   obtain ⟨s,hs,rfl⟩:=List.mem_map.mp hx
   exact ex17Good s hs
 ·rw [ex17Shapes,ex17Used]; decide
 ·rw [ex17Shapes,ex17Lights,ex17Used]
  exact .inr ⟨l17May2,by decide,by decide,_,l17None,rfl,rfl⟩
theorem ex17Right: RightQ exS17 exC17 3:=ex17Ok.right
theorem ex17Wrong: ¬ RightQ exS17 exC17 2:=fun h => by
 have:=(h.suit 0 lS17 [2] rfl rfl).2.2
 exact absurd this.2.1 (by decide)
theorem ex17H1: heavyQ exS17 exC17 1 = 1:=by decide +kernel
theorem ex17H2: heavyQ exS17 exC17 2 = -1:=by decide +kernel
theorem ex17L2: lightQ exS17 exC17 2 = [0,2]:=by decide +kernel
theorem ex17Few: FewP exS17 exC17:=⟨by decide,by decide,by decide⟩
theorem rises_any {A: Option Addr} {n c: Nat} {zs: List Int} (m: Int) (hm: m <= 1000) (w: World) (hn: zs.length = n) (hl: n <= 100) (hI: Ints w w.heap.size A zs) (r: Bool) (hr: r = true ↔ Rise m 0 zs) :
  Calls Tryz.prog 72 #[.slice A n c,.int .i64 m] w fun e w' => e = .returned (.bool r) /\ w = w':=by
 have HI:=Lib.hid hI
 have HN:=Lib.hid hn
 have HR:=Lib.hid hr
 clear hI hn hr
 go_enter Tryz.func72,Tryz.ntmps72
 go_wp2
 go_loop [5,10] (fun bv iv => ∃ (j: Nat) (b: Int),j <= n /\ 0 <= b /\ b <= 1000 /\ bv = .int .i64 b /\ iv = .int .i64 j /\ Hid (∀ t,Rise m 0 (zs.take j ++ t) ↔ Rise m b t)) (fun _ iv => n - (intOf iv).toNat)
 case atStart => exact ⟨0,0,Nat.zero_le _,Int.le_refl _,by omega,rfl,rfl,Lib.hid (fun t => by simp)⟩
 case round =>
  obtain ⟨j,b,hj,hb0,hb1,rfl,rfl,HP⟩:=hrel
  by_cases hlt: j < n
  ·obtain ⟨bk,off,x,rfl,hbg,hek,d1⟩:=HI.out.at_ (k:=j) (by rw [HN.out]; exact hlt)
   have HX:=Lib.hid hek
   have HS:=Lib.hid (show ∀ t,Rise m 0 (zs.take (j + 1) ++ t) ↔ (b <= x /\ x < m /\ Rise m (x + 1) t) from fun t => by rw [take_one hek,List.append_assoc]; exact HP.out (x :: t))
   have HW:=Lib.hid (show Rise m 0 zs ↔ (b <= x /\ x < m /\ Rise m (x + 1) (zs.drop (j + 1))) by
    conv => lhs; rw [list_cut hek]
    exact HP.out (x :: zs.drop (j + 1)))
   clear hek
   by_cases h1: x < b
   ·have hd: decide (x < b) = true:=decide_eq_true h1
    have HF:=Lib.hid (show r = false by
     cases r with
     | false => rfl
     | true => have:=HW.out.mp (HR.out.mp rfl); omega)
    go_wp2
    go_ret
    rw [HF.out]; exact ⟨rfl,rfl⟩
   ·have hd: decide (x < b) = false:=decide_eq_false h1
    by_cases h2: m <= x
    ·have hd2: decide (m <= x) = true:=decide_eq_true h2
     have HF:=Lib.hid (show r = false by
      cases r with
      | false => rfl
      | true => have:=HW.out.mp (HR.out.mp rfl); omega)
     go_wp2
     go_ret
     rw [HF.out]; exact ⟨rfl,rfl⟩
    ·have hd2: decide (m <= x) = false:=decide_eq_false h2
     have hwr: IntKind.wrap .i64 (x + 1) = x + 1:=IntWalk.i64_in _ (by omega)
     go_wp2
     go_round
     case rel => exact ⟨j + 1,x + 1,by omega,by omega,by omega,rfl,by go_num,Lib.hid (fun t => by rw [HS.out]; exact ⟨fun q => q.2.2,fun q => ⟨by omega,by omega,q⟩⟩)⟩
     case measure => simp [intOf]; omega
  ·obtain rfl: j = n:=by omega
   have HF:=Lib.hid (show r = true by
    refine HR.out.mpr ?_
    have:=(HP.out []).mpr trivial
    rw [List.append_nil,List.take_of_length_le (by rw [HN.out]; exact Nat.le_refl _)] at this
    exact this)
   go_wp2
   go_ret
   rw [HF.out]; exact ⟨rfl,rfl⟩
theorem suits_any {A : Option Addr} {n c : Nat} {zs : List Int} (s : Shp) (m : Int) (hm : m <= 1000) (w : World) (hn : zs.length = n) (hl : n <= 100) (hI : Ints w w.heap.size A zs) (hT : DTab w) (r : Bool) (hr : r = true ↔ SuitQ m s zs) :
    Calls Tryz.prog 41 #[s.val, .slice A n c, .int .i64 m] w fun e w' => e = .returned (.bool r) /\ Below w.heap.size w w' := by
  obtain ⟨t, lg, mo, dd, pp⟩ := s
  have KC := Lib.hid (ccores_any ⟨t, lg, mo, dd, pp⟩ (w.alloc (.cells #[.int .i64 t, .int .i64 lg, .int .i64 mo, .int .i64 dd, .int .i64 pp] 44)) (hT.via (below_alloc _)))
  have HN := Lib.hid hn
  have HR := Lib.hid hr
  have HI := Lib.hid (fun W (b : Below w.heap.size w W) => (hI.below b).more b.size)
  obtain ⟨z, hz⟩ : ∃ z, z = coresS ⟨t, lg, mo, dd, pp⟩ := ⟨_, rfl⟩
  obtain ⟨y, hy⟩ : ∃ y, y = faultS ⟨t, lg, mo, dd, pp⟩ := ⟨_, rfl⟩
  rw [<- hz, <- hy] at KC
  have HZ := Lib.hid hz
  have HY := Lib.hid hy
  unfold Shp.val at KC ⊢
  dsimp only at KC ⊢
  clear hn hI hT hr hz hy
  by_cases h0 : y = 0
  · subst h0
    by_cases h1 : (n : Int) = z
    · obtain ⟨r2, hr2⟩ : ∃ r2 : Bool, r2 = true ↔ Rise m 0 zs := ⟨r, HR.out.trans ⟨fun q => q.2.2, fun q => ⟨HY.out.symm, by rw [HN.out, <- HZ.out]; exact h1, q⟩⟩⟩
      have KR := Lib.hid (fun W (b : Below w.heap.size w W) => rises_any (c := c) m hm W HN.out hl (HI.out W b) r2 hr2)
      have HRR := Lib.hid (show r = r2 by
        cases r with
        | true => exact (hr2.mpr (HR.out.mp rfl).2.2).symm
        | false =>
          cases r2 with
          | false => rfl
          | true => have := HR.out.mpr ⟨HY.out.symm, by rw [HN.out, <- HZ.out]; exact h1, hr2.mp rfl⟩; cases this)
      subst h1
      clear hr2
      go_enter Tryz.func41, Tryz.ntmps41
      go_wp2_with fail
      refine (KC.out).mono ?_
      rintro e w1 ⟨rfl, b1⟩
      have HB1 := Lib.hid ((below_alloc (.cells #[.int .i64 t, .int .i64 lg, .int .i64 mo, .int .i64 dd, .int .i64 pp] 44)).trans (b1.mono (by simp)))
      clear b1 KC
      go_wp2_with fail
      refine (KR.out w1 HB1.out).mono ?_
      rintro e w2 ⟨rfl, rfl⟩
      go_wp2
      refine bodyPost_ret (v := .bool r2) ?_ rfl ⟨by rw [HRR.out], HB1.out⟩
      simp [results, Tryz.results41, go_sem]
    · have hd : decide ((n : Int) = z) = false := decide_eq_false h1
      have hd2 : ((n : Int) == z) = false := by simpa using h1
      have HF := Lib.hid (show r = false by
        cases r with
        | false => rfl
        | true => have := (HR.out.mp rfl).2.1; rw [HN.out, <- HZ.out] at this; exact absurd this h1)
      go_enter Tryz.func41, Tryz.ntmps41
      go_wp2_with fail
      refine (KC.out).mono ?_
      rintro e w1 ⟨rfl, b1⟩
      have HB1 := Lib.hid ((below_alloc (.cells #[.int .i64 t, .int .i64 lg, .int .i64 mo, .int .i64 dd, .int .i64 pp] 44)).trans (b1.mono (by simp)))
      clear b1 KC
      go_wp2
      refine bodyPost_ret (v := .bool false) ?_ rfl ⟨by rw [HF.out], HB1.out⟩
      simp [results, Tryz.results41, go_sem]
  · have hd : decide (y = 0) = false := decide_eq_false h0
    have hd2 : (y == 0) = false := by simpa using h0
    have HF := Lib.hid (show r = false by
      cases r with
      | false => rfl
      | true => have := (HR.out.mp rfl).1; rw [<- HY.out] at this; exact absurd this h0)
    go_enter Tryz.func41, Tryz.ntmps41
    go_wp2_with fail
    refine (KC.out).mono ?_
    rintro e w1 ⟨rfl, b1⟩
    have HB1 := Lib.hid ((below_alloc (.cells #[.int .i64 t, .int .i64 lg, .int .i64 mo, .int .i64 dd, .int .i64 pp] 44)).trans (b1.mono (by simp)))
    clear b1 KC
    go_wp2
    refine bodyPost_ret (v := .bool false) ?_ rfl ⟨by rw [HF.out], HB1.out⟩
    simp [results, Tryz.results41, go_sem]
theorem shpsL_snoc {S: List Shp} {l: List Nat} {x i: Nat} {s: Shp} (hi: l[x]? = some i) (hs: S[i]? = some s): shpsL S (l.take (x + 1)) = shpsL S (l.take x) ++ [s]:=by
 unfold shpsL
 rw [take_one hi,List.filterMap_append]
 simp [hs]
theorem lightQ_len (S: List Shp) (C: List (List Int)) (k: Int): (lightQ S C k).length <= S.length:=by
 have h1:=List.length_filter_le (ltT S) (owns S C k)
 have h2:=ownT_len C k (min S.length C.length)
 unfold lightQ
 unfold owns at h1 ⊢
 omega
theorem lightQ_lt {S: List Shp} {C: List (List Int)} {k: Int} {i: Nat} (h: i ∈ lightQ S C k): i < S.length:=owns_lt (List.mem_filter.mp h).1
def EnoughP (S: List Shp) (C: List (List Int)) (k: Int): Prop:=(heavyQ S C k ≠ -1 /\ (owns S C k).length = 1) \/ (heavyQ S C k = -1 /\ FitE (shpsL S (lightQ S C k)))
theorem isEnough_any {A : Option Addr} {n c : Nat} {G : Option Addr} {m d : Nat} {S : List Shp} {C : List (List Int)} (k : Int) (wf : World) (h : IsPl wf A n c G m d S C) (hf : FewP S C) (hT : DTab wf) (r : Bool) (hr : r = true ↔ EnoughP S C k) :
    Calls Tryz.prog 42 #[.agg #[.slice A n c, .slice G m d], .int .i64 k] wf fun e w' => e = .returned (.bool r) /\ Below wf.heap.size wf w' := by
  obtain ⟨g, hg⟩ : ∃ g, g = wf.heap.size := ⟨_, rfl⟩
  have HGs := Lib.hid hg
  obtain ⟨w0, hw0⟩ : ∃ w0, w0 = wf.alloc (.cells #[.slice A n c, .slice G m d] 28) := ⟨_, rfl⟩
  have HR := Lib.hid (show RowV g 28 [.slice A n c, .slice G m d] w0 from by rw [hg, hw0]; exact h.box)
  have HB := Lib.hid (show Below g wf w0 from by rw [hg, hw0]; exact below_alloc _)
  have HPl := Lib.hid (fun W (b : Below g wf W) => h.via (by rw [<- hg]; exact b))
  have HTB := Lib.hid (fun W (b : Below g wf W) => DTab.via hT (by rw [<- hg]; exact b))
  have KH := Lib.hid (aheavy_any k w0 (HPl.out w0 HB.out) hf (HTB.out w0 HB.out))
  have HF := Lib.hid hf
  have HN := Lib.hid (show S.length = n /\ n <= 20 from ⟨h.l1, by have := hf.f1; rw [h.l1] at this; exact this⟩)
  have HW0 := Lib.hid hw0
  have HRr := Lib.hid hr
  rw [<- hg]
  have q0 := HR.out.cell (j := 0) rfl
  have q1 := HR.out.cell (j := 1) rfl
  rw [hw0, hg] at q0 q1
  clear h hf hT hg hw0 hr
  obtain ⟨hq, hhq⟩ : ∃ hq, hq = heavyQ S C k := ⟨_, rfl⟩
  rw [<- hhq] at KH
  have HHQ := Lib.hid hhq
  clear hhq
  by_cases hm : hq = -1
  · subst hm
    go_enter Tryz.func42, Tryz.ntmps42
    go_wp2_with fail
    rw [<- HW0.out, <- HGs.out]
    refine KH.out.mono ?_
    rintro e w1 ⟨rfl, b1⟩
    have HB1 := Lib.hid (HB.out.trans (b1.mono (Nat.le_of_lt HR.out.lt)))
    have HR1 := Lib.hid (HR.out.below b1 HR.out.lt)
    have q0 := HR1.out.cell (j := 0) rfl
    have q1 := HR1.out.cell (j := 1) rfl
    have KL := Lib.hid (alight_any k w1 (HPl.out w1 HB1.out) HF.out (HTB.out w1 HB1.out))
    clear b1 KH HB HR HW0
    go_wp2_with fail
    refine KL.out.mono ?_
    rintro e w2 ⟨F, q, d1, rfl, b2, hql, hO⟩
    have HB2 := Lib.hid (HB1.out.trans (b2.mono (Nat.le_of_lt HR1.out.lt)))
    have HR2 := Lib.hid (HR1.out.below b2 HR1.out.lt)
    have hgw1 : g + 1 <= w1.heap.size := HR1.out.lt
    have HO2 := Lib.hid (hO.down hgw1)
    have hq20 : q <= 20 := by
      have := lightQ_len S C k
      have h2 := HN.out
      omega
    obtain ⟨l, hl⟩ : ∃ l, l = lightQ S C k := ⟨_, rfl⟩
    rw [<- hl] at HO2 hql
    have HL := Lib.hid hl
    have HQ := Lib.hid hql
    have HLt := Lib.hid (show ∀ i ∈ l, i < n from fun i hi => by rw [hl] at hi; have := lightQ_lt hi; rw [HN.out.1] at this; exact this)
    have HI2 := Lib.hid hO.ints
    obtain ⟨B2, hB2⟩ : ∃ B2, B2 = w2.heap.size := ⟨_, rfl⟩
    have HBB := Lib.hid hB2
    have HIn := Lib.hid (show Ints w2 B2 F (nums l) by rw [hB2, hl]; exact HI2.out)
    have hnil := OwnS.nil w2 B2
    clear b2 hql hO hl KL q0 q1 hgw1 HO2 HI2
    have HNil := Lib.hid hnil
    have HBr := Lib.hid (show Below B2 w2 w2 from Below.refl _ _)
    clear hB2 hnil
    go_wp2
    go_loopw [5, 21] (fun v i wr => ∃ (x : Nat) (F2 : Option Addr) (d2 : Nat), x <= q /\ i = .int .i64 x /\ v = .slice F2 x d2 /\ Hid ((shpsL S (l.take x)).length = x) /\ Hid (OwnS wr B2 (.slice F2 x d2) (shpsL S (l.take x))) /\ Hid (Below B2 w2 wr)) (fun _ i _ => q - (intOf i).toNat)
    case atStart => exact ⟨0, none, 0, Nat.zero_le _, rfl, rfl, Lib.hid (by simp [shpsL]), Lib.hid (by simpa [shpsL] using HNil.out), HBr⟩
    case round =>
      obtain ⟨x, F2, d2, hx, rfl, rfl, HX, HOS, HBe⟩ := hrel
      have HRr' := Lib.hid (HR2.out.below HBe.out (by rw [HBB.out]; exact HR2.out.lt))
      have HBw := Lib.hid (HB2.out.trans (HBe.out.mono (by rw [HBB.out]; exact Nat.le_of_lt HR2.out.lt)))
      have hBs : B2 <= wr.heap.size := by rw [HBB.out]; exact HBe.out.size
      by_cases hlt : x < q
      · obtain ⟨i, hi⟩ : ∃ i, l[x]? = some i := ⟨_, List.getElem?_eq_getElem (by rw [HQ.out]; exact hlt)⟩
        have hin := HLt.out i (List.mem_of_getElem? hi)
        obtain ⟨b1, o1, z1, rfl, hb1, hx1, hc1⟩ := (HIn.out.below HBe.out).at_ (k := x) (by rw [nums_len, HQ.out]; exact hlt)
        rw [nums_at hi] at hx1
        obtain rfl := Option.some.inj hx1
        obtain ⟨b, off, t, lg, mo, dd, pp, rfl, hbg, hek, c0, c1, c2, c3, c4⟩ := (HPl.out wr HBw.out).shp.at_ (k := i) (by rw [HN.out.1]; exact hin)
        have q0 := HRr'.out.cell (j := 0) rfl
        have HSn := Lib.hid (shpsL_snoc hi hek)
        clear hi hx1 hek
        go_wp2_with (at_builtin; refine wpList_pushS rfl _ _ rfl wr B2 _ _ t lg mo dd pp x HX.out (by omega) HOS.out hBs rfl rfl ?_; intro F' d' w3 hO3 hb3; have HO3 := Lib.hid hO3; have HI3 := Lib.hid (HBe.out.trans hb3); clear hO3 hb3)
        go_roundw
        case rel => exact ⟨x + 1, F', d', by omega, by go_num, rfl, Lib.hid (by rw [HSn.out, List.length_append, HX.out]; rfl), Lib.hid (by rw [HSn.out]; exact HO3.out), HI3⟩
        case measure => simp [intOf]; omega
      · obtain rfl : x = q := by omega
        have htk : l.take x = l := List.take_of_length_le (by rw [HQ.out]; exact Nat.le_refl _)
        rw [htk] at HOS HX
        obtain ⟨F2', c2', e2, hS2, _⟩ := HOS.out.slice
        rw [HX.out] at e2
        injection e2 with a1 a2 a3
        subst a1 a3
        have KF := Lib.hid (efits_any (c := d2) r (HRr.out.trans ⟨fun z => by
          rcases z with ⟨z, _⟩ | ⟨_, z⟩
          · exact absurd HHQ.out.symm z
          · rw [HL.out]; exact z, fun z => .inr ⟨HHQ.out.symm, by rw [<- HL.out]; exact z⟩⟩) wr (HTB.out wr HBw.out) HX.out (by omega) hS2)
        clear htk hS2
        go_wp2_with fail
        refine KF.out.mono ?_
        rintro e w3 ⟨rfl, b3⟩
        have HB3 := Lib.hid (HBw.out.trans (b3.mono (by have := HR2.out.lt; rw [<- HBB.out] at this; omega)))
        clear b3
        go_wp2
        refine bodyPost_ret (v := .bool r) ?_ rfl ⟨rfl, HB3.out⟩
        simp [results, Tryz.results42, go_sem]
  · have hd : decide (hq = -1) = false := decide_eq_false hm
    have hd2 : (hq == -1) = false := by simpa using hm
    go_enter Tryz.func42, Tryz.ntmps42
    go_wp2_with fail
    rw [<- HW0.out, <- HGs.out]
    refine KH.out.mono ?_
    rintro e w1 ⟨rfl, b1⟩
    have HB1 := Lib.hid (HB.out.trans (b1.mono (Nat.le_of_lt HR.out.lt)))
    have HR1 := Lib.hid (HR.out.below b1 HR.out.lt)
    have q0 := HR1.out.cell (j := 0) rfl
    have q1 := HR1.out.cell (j := 1) rfl
    have KO := Lib.hid (owners_any k w1 (HPl.out w1 HB1.out) HF.out)
    clear b1 KH HB HR HW0
    go_wp2_with fail
    refine KO.out.mono ?_
    rintro e w2 ⟨F, q, d1, rfl, b2, hql, hO⟩
    have HB2 := Lib.hid (HB1.out.trans (b2.mono (Nat.le_of_lt HR1.out.lt)))
    have HQ := Lib.hid hql
    clear b2 hql hO KO q0 q1
    by_cases h1 : q = 1
    · subst h1
      have HT := Lib.hid (show r = true from HRr.out.mpr (.inl ⟨by rw [<- HHQ.out]; exact hm, HQ.out⟩))
      go_wp2
      refine bodyPost_ret (v := .bool true) ?_ rfl ⟨by rw [HT.out], HB2.out⟩
      simp [results, Tryz.results42, go_sem]
    · have hd3 : decide ((q : Int) = 1) = false := decide_eq_false (by omega)
      have hd4 : ((q : Int) == 1) = false := by simp; omega
      have hd5 : decide (q = 1) = false := decide_eq_false h1
      have hd6 : (q == 1) = false := by simpa using h1
      have HT := Lib.hid (show r = false by
        cases r with
        | false => rfl
        | true =>
          rcases HRr.out.mp rfl with ⟨_, z⟩ | ⟨z, _⟩
          · rw [HQ.out] at z; exact absurd z h1
          · rw [<- HHQ.out] at z; exact absurd z hm)
      go_wp2
      refine bodyPost_ret (v := .bool false) ?_ rfl ⟨by rw [HT.out], HB2.out⟩
      simp [results, Tryz.results42, go_sem]
end Go.Proofs.YtlfekmbalgkmeaaGreatDoor
