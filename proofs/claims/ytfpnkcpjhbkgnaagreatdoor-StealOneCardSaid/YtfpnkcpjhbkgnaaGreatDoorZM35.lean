import Derived.Test.YtfpnkcpjhbkgnaaGreatDoorZM4
import Derived.Test.YtfpnkcpjhbkgnaaGreatDoorZM10
import Derived.Deep.RegionHeld3
import Derived.Test.YtfpnkcpjhbkgnaaGreatDoorZM18
set_option linter.unusedSimpArgs false
set_option linter.unusedVariables false
set_option maxRecDepth 100000
set_option maxHeartbeats 4000000
namespace Go.Proofs.YtfpnkcpjhbkgnaaGreatDoor
open Go.RowKit
section
variable {W: List Int} {E: List (Int × Int)}
theorem longV_is (hM: May W E): IsLong W E (longV W E):=by
 unfold longV
 rw [if_pos hM]
 exact long_is hM.fits hM.acyc (fun z hz => (hM.work z hz).1)
theorem longV_total (hM: May W E): longV W E <= W.sum /\ 0 <= longV W E:=by
 have h:=longV_is hM
 rcases h.2 with ⟨hw,h0⟩ | ⟨p,hp,hi,he⟩
 ·rw [h0,hw]
  exact ⟨Int.le_refl _,Int.le_refl _⟩
 ·rw [<- he]
  exact ⟨wsum_le (fun z hz => (hM.work z hz).1) (hp.nodup hM.acyc) hi,wsum_pos hM.work p⟩
theorem May.erase (hM: May W E) (k: Nat): May W (E.eraseIdx k):=by
 have hs: ∀ e ∈ E.eraseIdx k,e ∈ E:=fun e he => (List.eraseIdx_sublist E k).mem he
 exact ⟨hM.nodes,Nat.le_trans (List.eraseIdx_sublist E k).length_le hM.edges,hM.work,fun e he => hM.fits e (hs e he),fun e he => hM.apart e (hs e he),hM.once.sublist (List.eraseIdx_sublist E k),hM.acyc.mono fun a b h => hs _ h⟩
end
def busyR (r: List Int): Nat:=r.countP (fun x => x != -1)
theorem busyR_succ {r: List Int} {k: Nat} {x: Int} (h: r[k]? = some x): busyR (r.take (k + 1)) = busyR (r.take k) + if x = -1 then 0 else 1:=by
 unfold busyR
 rw [take_snoc' h,List.countP_append,List.countP_singleton]
 by_cases e: x = -1
 ·simp [e]
 ·simp [e]
theorem busyT_succ {t: List (List Int)} {k: Nat} {r: List Int} (h: t[k]? = some r): busyT (t.take (k + 1)) = busyT (t.take k) + busyR r:=by
 unfold busyT busyR
 rw [take_snoc' h,List.flatten_append,List.countP_append]
 simp
open Classical in
noncomputable def boundV (W: List Int) (E: List (Int × Int)) (need: List Int) (cores: Int): Int:=if May W E /\ FormOk W need cores then (need.sum + (cores - 1) * longV need E) / cores else 0
theorem need_may {W: List Int} {E: List (Int × Int)} {need: List Int} {cores: Int} (hM: May W E) (hF: FormOk W need cores): May need E :=
 ⟨by rw [hF.1]; exact hM.nodes,hM.edges,fun z hz => ⟨by have:=(hF.2.1 z hz).1; omega,(hF.2.1 z hz).2⟩,by rw [hF.1]; exact hM.fits,hM.apart,hM.once,hM.acyc⟩
section
variable {A: Option Addr} {n c: Nat} {F: Option Addr} {m d: Nat} {W: List Int} {E: List (Int × Int)} {N: Option Addr} {nn nc: Nat} {need: List Int} {T: Option Addr} {tn tc: Nat} {t: List (List Int)}
theorem busy_any (w: World) (ht: t.length = tn) (hl: tn <= 400) (hr: ∀ r ∈ t,r.length <= 400) (hT: Trc w w.heap.size T t) :
  Calls Tryz.prog 32 #[.slice T tn tc] w fun e w' => e = .returned (.int .i64 (busyT t)) /\ w' = w:=by
 have HT:=Lib.hid hT
 have HL:=Lib.hid ht
 have HRL:=Lib.hid hr
 obtain ⟨r,hr2⟩: ∃ r,r = busyT t:=⟨_,rfl⟩
 rw [<- hr2]
 have HR:=Lib.hid hr2
 clear hT ht hr hr2
 go_enter Tryz.func32,Tryz.ntmps32
 go_wp2
 go_loop [3,10] (fun s v => ∃ i b: Nat,i <= tn /\ v = .int .i64 i /\ s = .int .i64 b /\ b <= 400 * i /\ Hid (b = busyT (t.take i))) (fun _ v => tn - (intOf v).toNat)
 case atStart => exact ⟨0,0,Nat.zero_le _,rfl,rfl,by omega,Lib.hid (by simp [busyT])⟩
 case round =>
  obtain ⟨i,b,hi,rfl,rfl,hb,HBI⟩:=hrel
  by_cases hlt: i < tn
  ·obtain ⟨bt,ot,row,A1,n1,c1,rfl,hbt,hrow,hn1,hcell,hints,hnil⟩:=HT.out.at_ (k:=i) (by rw [HL.out]; exact hlt)
   have HI1:=Lib.hid hints
   have HN1:=Lib.hid hn1
   have HTS:=Lib.hid (busyT_succ hrow)
   have h400: n1 <= 400:=by rw [<- hn1]; exact HRL.out row (List.mem_of_getElem? hrow)
   clear hints hrow hn1 hnil
   go_wp2
   go_loop [3,16] (fun s v => ∃ k q: Nat,k <= n1 /\ v = .int .i64 k /\ s = .int .i64 q /\ q <= 400 * i + k /\ Hid (q = b + busyR (row.take k))) (fun _ v => n1 - (intOf v).toNat)
   case atStart => exact ⟨0,b,Nat.zero_le _,rfl,rfl,by omega,Lib.hid (by simp [busyR])⟩
   case round =>
    obtain ⟨k,q,hk,rfl,rfl,hq,HQ⟩:=hrel
    by_cases hlt2: k < n1
    ·obtain ⟨bk,off,x,rfl,hbk,hxk,hcx⟩:=HI1.out.at_ (k:=k) (by rw [HN1.out]; exact hlt2)
     have HRS:=Lib.hid (busyR_succ hxk)
     clear hxk
     by_cases hx: x = -1
     ·subst hx
      have HQ2: Hid (q = b + busyR (row.take (k + 1))):=Lib.hid (by rw [HRS.out,if_pos rfl]; exact HQ.out)
      go_wp2
      go_round
      case rel => exact ⟨k + 1,q,by omega,by go_num,rfl,by omega,HQ2⟩
      case measure => simp [intOf]; omega
     ·have HQ2: Hid (q + 1 = b + busyR (row.take (k + 1))):=Lib.hid (by rw [HRS.out,if_neg hx]; have:=HQ.out; omega)
      have hne: (x == -1) = false:=by simpa using hx
      clear hx
      go_wp2
      go_round
      case rel => exact ⟨k + 1,q + 1,by omega,by go_num,by go_num,by omega,HQ2⟩
      case measure => simp [intOf]; omega
    ·obtain rfl: k = n1:=by omega
     have HQ2: Hid (q = busyT (t.take (i + 1))):=Lib.hid (by
      have h1:=HQ.out
      rw [List.take_of_length_le (by rw [HN1.out]; omega)] at h1
      rw [HTS.out,<- HBI.out]; exact h1)
     go_wp2
     go_round
     case rel => exact ⟨i + 1,q,by omega,by go_num,rfl,by omega,HQ2⟩
     case measure => simp [intOf]; omega
  ·obtain rfl: i = tn:=by omega
   have hrv: r = b:=by rw [HR.out,HBI.out,List.take_of_length_le (by rw [HL.out]; omega)]
   subst hrv
   go_wp2
   go_ret
   exact ⟨rfl,rfl⟩
structure BxB (w: World) (g: Nat) (A: Option Addr) (n c: Nat) (F: Option Addr) (m d: Nat) (x: World): Prop where
 bel: Below w.heap.size w x
 p0: x.cell? ⟨g,0,none⟩ = some (.slice A n c)
 p1: x.cell? ⟨g,1,none⟩ = some (.slice F m d)
theorem BxB.next {w x y: World} {g: Nat} (h: BxB w g A n c F m d x) (b: Below x.heap.size x y): BxB w g A n c F m d y :=
 ⟨h.bel.trans (b.mono h.bel.size),(b.cell (World.block_lt_of_cell? _ _ h.p0)).trans h.p0,(b.cell (World.block_lt_of_cell? _ _ h.p1)).trans h.p1⟩
theorem BxB.cells {w x: World} {g: Nat} (h: BxB w g A n c F m d x): x.cell? ⟨g,0,none⟩ = some (.slice A n c) /\ x.cell? ⟨g,1,none⟩ = some (.slice F m d):=⟨h.p0,h.p1⟩
theorem BxB.start {w w1: World} (h: Below w.heap.size w w1) (A: Option Addr) (n c: Nat) (F: Option Addr) (m d: Nat): BxB w w1.heap.size A n c F m d (w1.alloc (.cells #[.slice A n c,.slice F m d] 25)) :=
 ⟨h.trans ((below_alloc _).mono h.size),by rw [World.cell?_alloc_at _ _ _ _ rfl]; rfl,by rw [World.cell?_alloc_at _ _ _ _ rfl]; rfl⟩
theorem bxB_bel {p: Prop} {w x: World} {g: Nat} (h: p /\ Hid (BxB w g A n c F m d x)): Below w.heap.size w x:=h.2.out.bel
theorem bxB_n {p: Prop} {w x y: World} {g: Nat} (h: p /\ Hid (BxB w g A n c F m d x)) (b: Below x.heap.size x y): BxB w g A n c F m d y:=h.2.out.next b
theorem bound_any (cores: Int) (w: World) (h: IsG w A n c F m d W E) (hn: need.length = nn) (hl: nn <= 400) (hI: Ints w w.heap.size N need) (hN: N = none -> nn = 0 /\ nc = 0) :
  Calls Tryz.prog 22 #[.agg #[.slice A n c,.slice F m d],.slice N nn nc,.int .i64 cores] w fun e w' => e = .returned (.int .i64 (boundV W E need cores)) /\ Below w.heap.size w w':=by
 have H:=Lib.hid h
 obtain ⟨w0,hw0⟩: ∃ w0,w0 = w.alloc (.cells #[.slice A n c,.slice F m d] 25):=⟨_,rfl⟩
 have HW0:=Lib.hid hw0
 have HB0: Hid (Below w.heap.size w w0):=Lib.hid (by rw [hw0]; exact below_alloc _)
 have HS0: Hid (w.heap.size < w0.heap.size):=Lib.hid (by rw [hw0]; simp)
 have P0: Hid (w0.cell? ⟨w.heap.size,0,none⟩ = some (.slice A n c)):=Lib.hid (by rw [hw0,World.cell?_alloc_at _ _ _ _ rfl]; rfl)
 have P1: Hid (w0.cell? ⟨w.heap.size,1,none⟩ = some (.slice F m d)):=Lib.hid (by rw [hw0,World.cell?_alloc_at _ _ _ _ rfl]; rfl)
 have hS: IsS w N nn nc none 0 0 need []:=⟨hn,rfl,hl,by omega,fun r hr => by simp at hr,hI,Trc.nil_ _ _ _,hN,fun _ => ⟨rfl,rfl⟩⟩
 have HS:=Lib.hid hS
 have C0:=Lib.hid (scheck_any cores _ (h.below HB0.out) (hS.below HB0.out))
 obtain ⟨r,hr⟩: ∃ r,r = boundV W E need cores:=⟨_,rfl⟩
 rw [<- hr]
 have HRR:=Lib.hid hr
 clear h hS hr hw0 hn hI
 by_cases hz: schedE W E need cores [] = 0
 ·rw [hz] at C0
  obtain ⟨k,rfl,hok⟩:=schedE_zero.mp hz
  have hM:=need_may hok.may hok.form
  have HM:=Lib.hid hM
  have hk1: 1 <= k:=by have:=hok.form.2.2.1; omega
  have hk2: k <= 8:=by have:=hok.form.2.2.2; omega
  have hlo:=longV_total hM
  have hsum:=sum_le need hM.work
  have hnn: nn <= 64:=by
   have h1:=hM.nodes
   have h2:=HS.out.hn
   omega
  have HRV: Hid (r = (need.sum + ((k: Int) - 1) * longV need E) / k):=Lib.hid (by
   rw [HRR.out]
   unfold boundV
   rw [if_pos ⟨hok.may,hok.form⟩])
  have HG: Hid (∀ W',IsG w0 A n c F m d W E -> W' = w0 -> IsG W' N nn nc F m d need E):=Lib.hid (fun W' h e => by
   subst e
   exact ⟨HS.out.hn,h.hm,by omega,h.lm,(HS.out.ints.below HB0.out).more HB0.out.size,h.pairs,HS.out.hN,h.hF,h.tab⟩)
  have HGW: Hid (∀ W',Below w.heap.size w W' -> IsG W' N nn nc F m d need E):=Lib.hid (fun W' hb => by
   have h:=H.out.below hb
   exact ⟨HS.out.hn,h.hm,by omega,h.lm,(HS.out.ints.below hb).more hb.size,h.pairs,HS.out.hN,h.hF,h.tab⟩)
  have CT:=Lib.hid (fun W' (h: IsG W' N nn nc F m d need E) => total_done W' h)
  have CL:=Lib.hid (fun W' (h: IsG W' N nn nc F m d need E) => long_done W' h)
  have htv: totalV need E = need.sum:=by unfold totalV; rw [if_pos hM]
  rw [htv] at CT
  obtain ⟨s,hs⟩: ∃ s,s = need.sum:=⟨_,rfl⟩
  obtain ⟨L,hL⟩: ∃ L,L = longV need E:=⟨_,rfl⟩
  rw [<- hs] at CT HRV hsum hlo
  rw [<- hL] at CL HRV hlo
  have hs2: s <= 64000:=by
   have h2:=HS.out.hn
   omega
  obtain ⟨hl1,hl2⟩:=hlo
  clear hz hok hM hs hL htv hsum HG
  go_enter Tryz.func22,Tryz.ntmps22
  go_wp2_with fail
  rw [<- HW0.out]
  refine C0.out.mono ?_
  rintro e w1 ⟨rfl,b⟩
  have HB1:=Lib.hid (HB0.out.trans (b.mono HB0.out.size))
  have q0:=(b.cell HS0.out).trans P0.out
  have q1:=(b.cell HS0.out).trans P1.out
  have HS1:=Lib.hid (Nat.lt_of_lt_of_le HS0.out b.size)
  clear b C0
  go_wp2
  have B2:=Lib.hid (BxB.start HB1.out N nn nc F m d)
  obtain ⟨g,hg⟩: ∃ g,g = w1.heap.size:=⟨_,rfl⟩
  obtain ⟨w2,hw2⟩: ∃ w2,w2 = w1.alloc (.cells #[.slice N nn nc,.slice F m d] 25):=⟨_,rfl⟩
  rw [<- hw2,<- hg] at B2
  rw [<- hw2,<- hg]
  have B2d:=Lib.hid (B2.out.next (Below.refl w2.heap.size w2).drew)
  have hk0: (k: Int) ≠ 0:=by omega
  have hk0n: ¬ k = 0:=by omega
  have hk0b: ((k: Int) == 0) = false:=by simpa using hk0n
  have hmul: 0 <= ((k: Int) - 1) * L:=Int.mul_nonneg (by omega) hl2
  have hmul2: ((k: Int) - 1) * L <= 7 * 64000:=Int.mul_le_mul (by omega) (by omega) hl2 (by omega)
  clear q0 q1 hw2 hg
  go_region_held3 (fun x => (x.cell? ⟨g,0,none⟩ = some (.slice N nn nc) /\ x.cell? ⟨g,1,none⟩ = some (.slice F m d)) /\ Hid (BxB w g N nn nc F m d x))
   (first | exact ⟨B2d.out.cells,B2d⟩ | exact ⟨HB.out.cells,HB⟩)
   (first
    | (go_at_call 37; refine (CT.out _ (HGW.out _ (bxB_bel (by assumption)))).mono ?_; rintro e x1 ⟨rfl,b⟩; have HB:=Lib.hid (bxB_n (by assumption) b); clear b)
    | (go_at_call 59; refine (CL.out _ (HGW.out _ (bxB_bel (by assumption)))).mono ?_; rintro e x1 ⟨rfl,b⟩; have HB:=Lib.hid (bxB_n (by assumption) b); clear b))
  go_wp2
  go_ret
  refine ⟨?_,HB.out.bel⟩
  have e1:=IntWalk.i64_in ((k: Int) - 1) (by omega)
  have e2:=IntWalk.i64_in (((k: Int) - 1) * L) (by omega)
  have e3:=IntWalk.i64_in (s + ((k: Int) - 1) * L) (by omega)
  have e4:=IntWalk.i64_quo (s + ((k: Int) - 1) * L) k ⟨by omega,by omega,by omega⟩
  rw [HRV.out]
  show Ending.returned (Value.int .i64 (IntKind.i64.wrap ((IntKind.i64.wrap (s + IntKind.i64.wrap (IntKind.i64.wrap ((k: Int) - 1) * L))).tdiv (k: Int)))) = _
  rw [e1,e2,e3,e4]
 ·obtain ⟨z,hz2⟩: ∃ z,z = schedE W E need cores []:=⟨_,rfl⟩
  obtain rfl: r = 0:=by
   rw [HRR.out]
   unfold boundV
   rw [if_neg]
   rintro ⟨h1,h2⟩
   refine hz ?_
   obtain ⟨k,rfl⟩: ∃ k: Nat,cores = (k: Int):=⟨cores.toNat,by have:=h2.2.2; omega⟩
   exact schedE_zero.mpr ⟨k,rfl,h1,h2,⟨fun r hr => by simp at hr,fun i hi => by simp at hi⟩⟩
  rw [<- hz2] at C0 hz
  have hne: (z == 0) = false:=by simpa using hz
  clear hz hz2 HRR
  go_enter Tryz.func22,Tryz.ntmps22
  go_wp2_with fail
  rw [<- HW0.out]
  refine C0.out.mono ?_
  rintro e w1 ⟨rfl,b⟩
  have HB1:=Lib.hid (HB0.out.trans (b.mono HB0.out.size))
  clear b C0
  go_wp2
  go_ret
  exact ⟨rfl,HB1.out⟩
end
end Go.Proofs.YtfpnkcpjhbkgnaaGreatDoor
namespace Go.Proofs.YtfpnkcpjhbkgnaaGreatDoor
open Go Go.RowKit
section
variable {P: Program} {ops: Array Oper} {Q: Exit -> Act -> World -> Prop}
theorem wp_region_late0 (ds : List Nat) (wt : List Bool) {id : Nat} {a0 : Act} {w0 : World} (hm : P.follows .mixedOrders = true) (hG : factsB ops ds wt = true) (hsz : ∀ d ∈ ds, d < a0.tmps.size)
    (I : World -> Prop) (Φ : Nat -> Value -> World -> Prop)
    (hI : ∀ w w', I w -> Below w.heap.size w w' -> I w') (hΦ : ∀ k v w w', Φ k v w -> Below w.heap.size w w' -> Φ k v w')
    (h0 : I { w0 with drawn := w0.drawn + 1 })
    (hW : ∀ (k : Nat) (o : Oper) (g : Nat) (b : Bool), ops[k]? = some o -> o.guard = some (g, b) -> ∀ v w, Φ g v w -> v = .bool (if wt.getD k true = true then b else !b))
    (hskip : ∀ k, wt.getD k true = false -> ∀ w, Φ k undef w)
    (hstep : ∀ (k : Nat) (o : Oper), ops[k]? = some o -> wt.getD k true = true -> ∀ (a : Act) (w : World), I w -> AtDoor a0 ds a.eval -> (∀ e ∈ o.after, Region.binds .any e = true -> Φ e.on (a.eval (.tmp (ds.getD e.on 0))) w) ->
      (∀ (j : Nat) (p : Oper), ops[j]? = some p -> (p.after.any fun e => e.on == k && Region.binds .any e) = true -> a.eval (.tmp (ds.getD j 0)) = a0.eval (.tmp (ds.getD j 0))) ->
      ∀ K : Act -> World -> Prop, (∀ v w', Φ k v w' -> Below w.heap.size w w' -> K (a.put o.dst v) w') -> o.wp P a w K Q)
    (hend : ∀ (vals : Nat -> Value) (w : World), I w -> (∀ k, k < ds.length -> Φ k (vals (ds.getD k 0)) w) -> Q .normal ⟨(fillA a0 ds vals).toArray, a0.defers⟩ w) :
    (Code.region id ops true).wp P Q a0 w0 := by
  have G := facts_of hG
  refine wp_region_inv (fun l a w => l.size = ds.length /\ I w /\ AtDoor a0 ds a.eval /\ a.tmps.size = a0.tmps.size /\ a.defers = a0.defers /\ (∀ k, k < ds.length -> l.getD k false = true -> Φ k (a.eval (.tmp (ds.getD k 0))) w) /\ (∀ k, k < ds.length -> l.getD k false = false -> a.eval (.tmp (ds.getD k 0)) = a0.eval (.tmp (ds.getD k 0))) /\ (∀ (j : Nat) (p : Oper), ops[j]? = some p -> l.getD j false = true -> ∀ e ∈ p.after, Region.binds .any e = true -> l.getD e.on false = true)) hm ?_ ?_ ?_
  · refine ⟨by rw [Array.size_replicate]; exact G.size, h0, atDoor_start a0 ds, rfl, rfl, fun k hk h => ?_, fun k hk _ => rfl, fun j p _ h => ?_⟩
    · exfalso
      by_cases h2 : k < ops.size <;> simp [h2] at h
    · exfalso
      by_cases h2 : j < ops.size <;> simp [h2] at h
  · rintro l a w i ⟨hls, hIw, hAD, hasz, hadf, hF, hU, hC⟩ hi
    obtain ⟨hun, o, ho, hpre⟩ := mem_ready.1 hi
    have hilt : i < ops.size := (Array.getElem?_eq_some_iff.1 ho).1
    have hin : i < ds.length := by rw [<- G.size]; exact hilt
    have hil : i < l.size := by omega
    have hdep : ∀ e ∈ o.after, Region.binds .any e = true -> Φ e.on (a.eval (.tmp (ds.getD e.on 0))) w := fun e he hb => hF e.on (Nat.lt_trans (G.back i o ho e he) hin) (hpre e he hb)
    have hnext : ∀ v w', Φ i v w' -> Below w.heap.size w w' -> (l.setIfInBounds i true).size = ds.length /\ I w' /\ AtDoor a0 ds (a.put o.dst v).eval /\ (a.put o.dst v).tmps.size = a0.tmps.size /\ (a.put o.dst v).defers = a0.defers /\ (∀ k, k < ds.length -> (l.setIfInBounds i true).getD k false = true -> Φ k ((a.put o.dst v).eval (.tmp (ds.getD k 0))) w') /\ (∀ k, k < ds.length -> (l.setIfInBounds i true).getD k false = false -> (a.put o.dst v).eval (.tmp (ds.getD k 0)) = a0.eval (.tmp (ds.getD k 0))) /\ (∀ (j : Nat) (p : Oper), ops[j]? = some p -> (l.setIfInBounds i true).getD j false = true -> ∀ e ∈ p.after, Region.binds .any e = true -> (l.setIfInBounds i true).getD e.on false = true) := fun v w' hphi hb => by
      rw [G.dst i o ho]
      refine ⟨by rw [Array.size_setIfInBounds]; exact hls, hI w w' hIw hb, hAD.put (fds_mem hin) v, ?_, hadf, fun k hk hkl => ?_, fun k hk hkl => ?_, fun j p hp hjl e he hb2 => (getD_set_iff hil).mpr (.inr ?_)⟩
      · show (a.tmps.setIfInBounds _ _).size = _
        rw [Array.size_setIfInBounds]; exact hasz
      · by_cases hki : k = i
        · subst hki
          rw [eval_put_same _ _ _ (by rw [hasz]; exact hsz _ (fds_mem hin))]
          exact hphi
        · rw [eval_put_other _ _ _ _ (fun e => hki (fds_inj G.nodup hk hin e))]
          exact hΦ k _ _ _ (hF k hk ((listed_set hkl).resolve_left hki)) hb
      · have hki : k ≠ i := fun e => by
          have h2 := (getD_set_iff (k := k) hil).mpr (.inl e)
          rw [hkl] at h2; cases h2
        rw [eval_put_other _ _ _ _ (fun e => hki (fds_inj G.nodup hk hin e))]
        refine hU k hk ?_
        cases h : l.getD k false with
        | false => rfl
        | true =>
          have h2 := (getD_set_iff (k := k) hil).mpr (.inr h)
          rw [hkl] at h2; cases h2
      · rcases (getD_set_iff hil).mp hjl with rfl | h
        · rw [ho] at hp
          obtain rfl := Option.some.inj hp
          exact hpre e he hb2
        · exact hC j p hp h e he hb2
    have hlate : ∀ (j : Nat) (p : Oper), ops[j]? = some p -> (p.after.any fun e => e.on == i && Region.binds .any e) = true -> a.eval (.tmp (ds.getD j 0)) = a0.eval (.tmp (ds.getD j 0)) := fun j p hp hany => by
      obtain ⟨e, he, h8⟩ := Array.any_eq_true'.1 hany
      rw [Bool.and_eq_true, beq_iff_eq] at h8
      refine hU j (by rw [<- G.size]; exact (Array.getElem?_eq_some_iff.1 hp).1) ?_
      cases h : l.getD j false with
      | false => rfl
      | true =>
        have h2 := hC j p hp h e he h8.2
        rw [h8.1] at h2
        exfalso
        simp [hil] at h2 hun
        rw [h2] at hun
        cases hun
    unfold wpOp
    rw [ho]
    have hyield : ∀ g b, o.guard = some (g, b) -> yielded ops a.tmps g = some (if wt.getD i true = true then b else !b) := fun g b hg => by
      obtain ⟨hgi, e, he, h1, h2⟩ := G.guard i o g b ho hg
      have hv := hW i o g b ho hg _ _ (by have := hdep e he h2; rwa [h1] at this)
      obtain ⟨og, hog⟩ : ∃ og, ops[g]? = some og := ⟨_, Array.getElem?_eq_getElem (by omega)⟩
      unfold yielded
      rw [hog, Option.bind_some, G.dst g og hog, Option.bind_some]
      have hlt : ds.getD g 0 < a.tmps.size := by rw [hasz]; exact hsz _ (fds_mem (by omega))
      rw [Array.getElem?_eq_getElem hlt]
      have : a.tmps[ds.getD g 0] = .bool (if wt.getD i true = true then b else !b) := by
        rw [<- hv]
        show _ = a.tmps.getD (ds.getD g 0) undef
        rw [Array.getD_eq_getD_getElem?, Array.getElem?_eq_getElem hlt]
        rfl
      rw [this]
    cases hw : wt.getD i true with
    | true =>
      have hwant : Region.wanted o (yielded ops a.tmps) = true := by
        unfold Region.wanted
        cases hg : o.guard with
        | none => rfl
        | some gb =>
          obtain ⟨g, b⟩ := gb
          show (yielded ops a.tmps g == some b) = true
          rw [hyield g b hg, hw]
          simp
      simp only [hwant, if_true]
      exact .inl (hstep i o ho hw a w hIw hAD hdep hlate _ hnext)
    | false =>
      have hwant : Region.wanted o (yielded ops a.tmps) = false := by
        unfold Region.wanted
        cases hg : o.guard with
        | none =>
          have := G.free i o ho hg
          rw [hw] at this
          cases this
        | some gb =>
          obtain ⟨g, b⟩ := gb
          show (yielded ops a.tmps g == some b) = false
          rw [hyield g b hg, hw]
          cases b <;> rfl
      simp only [hwant]
      exact hnext undef w (hskip i hw w) (Below.refl _ _)
  · rintro l a w ⟨hls, hIw, hAD, hasz, hadf, hF, _, _⟩ hr
    have hall := all_listed (by rw [hls, G.size]) G.back hr
    rw [act_fill hAD hasz hadf]
    exact hend (fun t => a.eval (.tmp t)) w hIw fun k hk => hF k hk (hall k (by rw [G.size]; exact hk))
theorem wp_region_late (ds: List Nat) (wt: List Bool) (gv: List (Nat × Bool)) {id: Nat} {a0: Act} {w0: World} (hm: P.follows .mixedOrders = true) (hG: factsB ops ds wt = true) (hgB: guardsB ops wt gv = true) (hsz: ∀ d ∈ ds,d < a0.tmps.size)
  (I: World -> Prop) (Φ: Nat -> Value -> World -> Prop)
  (hI: ∀ w w',I w -> Below w.heap.size w w' -> I w') (hΦ: ∀ k v w w',Φ k v w -> Below w.heap.size w w' -> Φ k v w')
  (h0: I { w0 with drawn:=w0.drawn + 1 })
  (hgv: ∀ p ∈ gv,∀ v w,Φ p.1 v w -> v = .bool p.2)
  (hskip: ∀ k,wt.getD k true = false -> ∀ w,Φ k undef w)
  (hstep: ∀ (k: Nat) (o: Oper),ops[k]? = some o -> wt.getD k true = true -> ∀ (a: Act) (w: World),I w -> AtDoor a0 ds a.eval -> (∀ e ∈ o.after,Region.binds .any e = true -> Φ e.on (a.eval (.tmp (ds.getD e.on 0))) w) ->
   (∀ (j: Nat) (p: Oper),ops[j]? = some p -> (p.after.any fun e => e.on == k && Region.binds .any e) = true -> a.eval (.tmp (ds.getD j 0)) = a0.eval (.tmp (ds.getD j 0))) ->
   ∀ K: Act -> World -> Prop,(∀ v w',Φ k v w' -> Below w.heap.size w w' -> K (a.put o.dst v) w') -> o.wp P a w K Q)
  (hend: ∀ (vals: Nat -> Value) (w: World),I w -> (∀ k,k < ds.length -> Φ k (vals (ds.getD k 0)) w) -> Q .normal ⟨(fillA a0 ds vals).toArray,a0.defers⟩ w) :
  (Code.region id ops true).wp P Q a0 w0 :=
 wp_region_late0 ds wt hm hG hsz I Φ hI hΦ h0 (fun k o g b ho hg v w hv => by
  have hk: k < ops.size:=(Array.getElem?_eq_some_iff.1 ho).1
  have:=List.all_eq_true.1 hgB k (List.mem_range.2 hk)
  rw [ho] at this
  simp only [hg] at this
  obtain ⟨p,hp,h2⟩:=List.any_eq_true.1 this
  rw [Bool.and_eq_true,beq_iff_eq,beq_iff_eq] at h2
  rw [<- h2.2]
  exact hgv p hp v w (by rw [h2.1]; exact hv)) hskip hstep hend
end
end Go.Proofs.YtfpnkcpjhbkgnaaGreatDoor
