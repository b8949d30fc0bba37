import Derived.Test.YtfpnkcpjhbkgnaaGreatDoorZM30
import Derived.Test.YtfpnkcpjhbkgnaaGreatDoorZM31
import Derived.Test.YtfpnkcpjhbkgnaaGreatDoorZStealCopied
import Derived.Test.YtfpnkcpjhbkgnaaGreatDoorZM29
import Derived.Test.YtfpnkcpjhbkgnaaGreatDoorZM26
import Derived.Test.YtfpnkcpjhbkgnaaGreatDoorZM21
import Derived.StillTailTactics
import Derived.BigRegion
import Derived.Test.YtfpnkcpjhbkgnaaGreatDoorZShelf
import Derived.Test.YtfpnkcpjhbkgnaaGreatDoorZM3
import Derived.Test.YtfpnkcpjhbkgnaaGreatDoorZM1
import Derived.Test.YtfpnkcpjhbkgnaaGreatDoorZM27
set_option linter.unusedSimpArgs false
set_option linter.unusedVariables false
set_option maxRecDepth 100000
set_option maxHeartbeats 16000000
namespace Go.Proofs.YtfpnkcpjhbkgnaaGreatDoor
open Go Go.RowKit
theorem gg_info: (Tryz.prog.info? 41).map (·.size) = some 5:=by kernel_rfl
theorem load_gg {w: World} {q: Nat} {cs: List Value} (h: RowV q 41 cs w) (hl: cs.length = 5): (loadVar 41 ⟨q,0,none⟩).run Tryz.prog w = .ok (.agg cs.toArray) w :=
 run_loadVar_row _ q _ _ _ _ _ h Tryz.underlying41 rfl (by rw [gg_info]; simp [hl])
theorem results_cellG {fn: Func} {p u t: Tmp} {ty: TypeId} (h: fn.results = #[.cell p ty,.tmp u,.tmp t]) (tmps: Array Value) (P: Program) (w: World) :
  (results fn tmps).run P w = ((asAddr (tmps.getD p undef)).run P w).andThen fun a w₁ => ((loadVar ty a).run P w₁).andThen fun v w₂ => .ok (.tuple #[v,tmps.getD u undef,tmps.getD t undef]) w₂:=by
 simp only [results,h]
 simp [Sem.run_bind,Result.andThen]
theorem ret_g2 {fn: Func} {p u t: Tmp} (h: fn.results = #[.cell p 41,.tmp u,.tmp t]) {tmps: Array Value} {w: World} {q: Nat} {cs: List Value} {x y: Value} (hp: tmps.getD p undef = .pointer (some ⟨q,0,none⟩)) (hu: tmps.getD u undef = x) (ht: tmps.getD t undef = y) (h1: RowV q 41 cs w) (l1: cs.length = 5) :
  (results fn tmps).run Tryz.prog w = .ok (.tuple #[.agg cs.toArray,x,y]) w:=by
 rw [results_cellG h,hp,hu,ht]
 simp [asAddr,load_gg h1 l1,Result.andThen]
section
variable {base m: Nat} {g: Gng} {L: List Int} {ad: GAd} {picks: List Int} {AP: Option Addr} {nP cP: Nat}
theorem IsGng.los {w: World} (h: IsGng w base m g L ad): base <= ad.gO /\ base <= ad.gD /\ base <= ad.gF /\ base <= ad.gT :=
 ⟨(rowN_lt h.onF.1).1,(rowN_lt h.dqs).1,(rowN_lt h.onF.2).1,(rowN_lt h.tks).1⟩
theorem gcalm_any {E: List (Int × Int)} {W: List Int} {AW FE: Option Addr} {nW cW mE dE: Nat} (w: World) (hok: GOk W.length m E L g) (h0: ∀ c,c < m -> (g.tk c).at_ = 0) (h: IsGng w base m g L ad) (hT: DTab w) (hg: IsG w AW nW cW FE mE dE W E) (hM: May W E)
  (hp: picks.length = nP) (hp2: nP <= 1000) (hP: Ints w w.heap.size AP picks) :
  Calls Tryz.prog 24 #[.agg #[.slice AW nW cW,.slice FE mE dE],.agg #[.slice (some ⟨ad.gO,0,none⟩) m ad.cO,ad.vL,.slice (some ⟨ad.gD,0,none⟩) m ad.cD,.slice (some ⟨ad.gT,0,none⟩) m ad.cT,.slice (some ⟨ad.gF,0,none⟩) m ad.cF],.slice AP nP cP] w fun e w' =>
   ∃ a',e = .returned (.tuple #[.agg (gangC m a').toArray,.int .i64 (lenC m g picks: Nat),.int .i64 0]) /\ IsGng w' w.heap.size m (calmG m g picks) L a' /\ Below w.heap.size w w':=by
 have hm8: m <= 8:=by rw [<- hok.ol]; exact hok.crew.hi
 have hm1:=hok.m1
 have hll: L.length <= 1000:=by have:=hok.crew.ln; have:=hok.n64; omega
 have hrl: ∀ j,j < m -> (g.R j).length <= 1000:=fun j hj => by rw [hok.rl j hj]; decide
 obtain ⟨w1,hw1⟩: ∃ w1,w1 = ((w.alloc (.cells #[.slice AW nW cW,.slice FE mE dE] 25)).alloc (.cells #[.slice (some ⟨ad.gO,0,none⟩) m ad.cO,ad.vL,.slice (some ⟨ad.gD,0,none⟩) m ad.cD,.slice (some ⟨ad.gT,0,none⟩) m ad.cT,.slice (some ⟨ad.gF,0,none⟩) m ad.cF] 41)).alloc (.cells #[.slice none 0 0,.slice none 0 0,.slice none 0 0,.slice none 0 0,.slice none 0 0] 41):=⟨_,rfl⟩
 have hb1: Below w.heap.size w w1:=by rw [hw1]; exact (((Below.refl _ _).alloc (Nat.le_refl _) _).alloc (by simp) _).alloc (by simp; omega) _
 have HB1:=Lib.hid hb1
 have HD1: Hid (RowV w.heap.size 25 [.slice AW nW cW,.slice FE mE dE] w1):=Lib.hid (by rw [hw1]; exact ((RowV.new w _ [.slice AW nW cW,.slice FE mE dE]).alloc _).alloc _)
 have HR1: Hid (RowV (w.heap.size + 1) 41 (gangC m ad) w1):=Lib.hid (by
  rw [hw1]
  have:=(RowV.new (w.alloc (.cells #[.slice AW nW cW,.slice FE mE dE] 25)) 41 (gangC m ad)).alloc (.cells #[.slice none 0 0,.slice none 0 0,.slice none 0 0,.slice none 0 0,.slice none 0 0] 41)
  simpa [gangC,GAd.vO,GAd.vD,GAd.vT,GAd.vF] using this)
 have HZ1: Hid (RowV (w.heap.size + 1 + 1) 41 [.slice none 0 0,.slice none 0 0,.slice none 0 0,.slice none 0 0,.slice none 0 0] w1):=Lib.hid (by
  rw [hw1]
  have:=RowV.new ((w.alloc (.cells #[.slice AW nW cW,.slice FE mE dE] 25)).alloc (.cells #[.slice (some ⟨ad.gO,0,none⟩) m ad.cO,ad.vL,.slice (some ⟨ad.gD,0,none⟩) m ad.cD,.slice (some ⟨ad.gT,0,none⟩) m ad.cT,.slice (some ⟨ad.gF,0,none⟩) m ad.cF] 41)) 41 [.slice none 0 0,.slice none 0 0,.slice none 0 0,.slice none 0 0,.slice none 0 0]
  simpa using this)
 have hG1:=h.below hb1
 have hg1:=hg.below hb1
 have hT1:=hT.via hb1
 have hP1:=hP.below hb1
 have CC:=Lib.hid (gcheck_any w1 hok hG1 hm8 hT1 hg1 hM rfl)
 have CP:=Lib.hid (fun (W': World) (hb: Below w1.heap.size w1 W') => scopied_any (vW:=.slice AW nW cW) (vE:=.slice FE mE dE) W' hm1 hm8 hll hrl (hG1.below hb))
 have CM: Hid (∀ (W2 W3: World) (gw: Nat) (a2: GAd),Below w1.heap.size w1 W2 -> Below W2.heap.size W2 W3 -> IsWk W3 W2.heap.size gw m g L a2 (.slice AW nW cW) (.slice FE mE dE) ->
   Calls Tryz.prog 40 #[.pointer (some ⟨gw,0,none⟩),.slice AP nP cP] W3 fun e w' => e = .returned (.tuple #[.int .i64 (lenC m g picks: Nat),.int .i64 0]) /\ ∃ Rv',IsWk w' W2.heap.size gw m (calmG m g picks) L { a2 with Rv:=Rv' } (.slice AW nW cW) (.slice FE mE dE) /\ Kp [a2.gO,a2.gD,a2.gF,a2.gT] W3 w'):=Lib.hid fun W2 W3 gw a2 hb2 hb3 hwk => by
  have hb13:=hb2.trans (hb3.mono hb2.size)
  have hg2:=hg1.below hb2
  exact calm_any W3 hok h0 hM (hT1.via hb13) ((IsGrS.of hg2).below hb3) hp hp2 ((hP1.below (hb13.mono hb1.size)).more (Nat.le_trans hb1.size hb2.size)) hwk
 have HW1:=Lib.hid hw1
 clear h hT hg hM hok hG1 hg1 hT1 hP1 hw1 hb1 hP hp hp2 h0 hrl hll hm1 hm8
 go_enter Tryz.func24,Tryz.ntmps24
 go_upto_region 1 with fail
 rw [<- HW1.out]
 have p0: w1.cell? ⟨w.heap.size,0,none⟩ = some (.slice AW nW cW):=HD1.out.cell rfl
 have p1: w1.cell? ⟨w.heap.size,1,none⟩ = some (.slice FE mE dE):=HD1.out.cell rfl
 have r0: w1.cell? ⟨w.heap.size + 1,0,none⟩ = some (.slice (some ⟨ad.gO,0,none⟩) m ad.cO):=HR1.out.cell rfl
 have r1: w1.cell? ⟨w.heap.size + 1,1,none⟩ = some ad.vL:=HR1.out.cell rfl
 have r2: w1.cell? ⟨w.heap.size + 1,2,none⟩ = some (.slice (some ⟨ad.gD,0,none⟩) m ad.cD):=HR1.out.cell rfl
 have r3: w1.cell? ⟨w.heap.size + 1,3,none⟩ = some (.slice (some ⟨ad.gT,0,none⟩) m ad.cT):=HR1.out.cell rfl
 have r4: w1.cell? ⟨w.heap.size + 1,4,none⟩ = some (.slice (some ⟨ad.gF,0,none⟩) m ad.cF):=HR1.out.cell rfl
 go_upto_region 4 with (go_at_call 29; refine CC.out.mono ?_; rintro e w2 ⟨rfl,hb⟩; (have HB2:=Lib.hid hb); clear hb p0 p1 r0 r1 r2 r3 r4 CC)
 have R2:=Lib.hid (HR1.out.below HB2.out HR1.out.lt)
 have D2:=Lib.hid (HD1.out.below HB2.out HD1.out.lt)
 have p0: w2.cell? ⟨w.heap.size,0,none⟩ = some (.slice AW nW cW):=D2.out.cell rfl
 have p1: w2.cell? ⟨w.heap.size,1,none⟩ = some (.slice FE mE dE):=D2.out.cell rfl
 have r0: w2.cell? ⟨w.heap.size + 1,0,none⟩ = some (.slice (some ⟨ad.gO,0,none⟩) m ad.cO):=R2.out.cell rfl
 have r1: w2.cell? ⟨w.heap.size + 1,1,none⟩ = some ad.vL:=R2.out.cell rfl
 have r2: w2.cell? ⟨w.heap.size + 1,2,none⟩ = some (.slice (some ⟨ad.gD,0,none⟩) m ad.cD):=R2.out.cell rfl
 have r3: w2.cell? ⟨w.heap.size + 1,3,none⟩ = some (.slice (some ⟨ad.gT,0,none⟩) m ad.cT):=R2.out.cell rfl
 have r4: w2.cell? ⟨w.heap.size + 1,4,none⟩ = some (.slice (some ⟨ad.gF,0,none⟩) m ad.cF):=R2.out.cell rfl
 go_upto_region 5 with (go_at_call 60; refine (CP.out _ HB2.out).mono ?_; rintro e w3 ⟨gw,a2,rfl,hwk,hb⟩; (have HB3:=Lib.hid hb); (have HWK:=Lib.hid hwk); clear hb hwk p0 p1 r0 r1 r2 r3 r4 CP)
 go_upto_region 8 with (go_at_call 40; refine (CM.out _ _ _ _ HB2.out HB3.out HWK.out).mono ?_; rintro e w4 ⟨rfl,Rv',hwk,hkp⟩; (have HW4:=Lib.hid hwk); (have HK4:=Lib.hid hkp); clear hwk hkp CM)
 have hs2: w.heap.size + 1 + 1 < w2.heap.size:=Nat.lt_of_lt_of_le HZ1.out.lt HB2.out.size
 have hlo:=HWK.out.gng.los
 have HZ4: Hid (RowV (w.heap.size + 1 + 1) 41 [.slice none 0 0,.slice none 0 0,.slice none 0 0,.slice none 0 0,.slice none 0 0] w4):=Lib.hid (HK4.out.row (((HZ1.out.below HB2.out HZ1.out.lt)).below HB3.out hs2) (by simp; omega))
 have HB4: Hid (Below w.heap.size w w4):=Lib.hid (HB1.out.trans ((HB2.out.trans ((HB3.out.trans (HK4.out.below (by simp; omega) HB3.out.size)).mono HB2.out.size)).mono HB1.out.size))
 have HLO:=Lib.hid hs2
 have s0: w4.cell? ⟨gw,0,none⟩ = some (.slice (some ⟨a2.gO,0,none⟩) m a2.cO):=HW4.out.row.cell rfl
 obtain ⟨AL2,cL2,hvL2,_⟩:=HW4.out.gng.left.slice
 replace hvL2: a2.vL = .slice AL2 L.length cL2:=hvL2
 have s1: w4.cell? ⟨gw,1,none⟩ = some a2.vL:=HW4.out.row.cell rfl
 rw [hvL2] at s1
 have HVL2:=Lib.hid hvL2
 have s2: w4.cell? ⟨gw,2,none⟩ = some (.slice (some ⟨a2.gD,0,none⟩) m a2.cD):=HW4.out.row.cell rfl
 have s3: w4.cell? ⟨gw,3,none⟩ = some (.slice (some ⟨a2.gT,0,none⟩) m a2.cT):=HW4.out.row.cell rfl
 have s4: w4.cell? ⟨gw,4,none⟩ = some (.slice (some ⟨a2.gF,0,none⟩) m a2.cF):=HW4.out.row.cell rfl
 have z0:=HZ4.out.frozen 0
 have z1:=HZ4.out.frozen 1
 have z2:=HZ4.out.frozen 2
 have z3:=HZ4.out.frozen 3
 have z4:=HZ4.out.frozen 4
 have t0:=HZ4.out.cell (j:=0) rfl
 have t1:=HZ4.out.cell (j:=1) rfl
 have t2:=HZ4.out.cell (j:=2) rfl
 have t3:=HZ4.out.cell (j:=3) rfl
 have t4:=HZ4.out.cell (j:=4) rfl
 clear hs2 hlo hvL2
 go_wp2_with fail
 have hs2:=HLO.out
 have f0:=HW4.out.gng.far HZ4.out (by decide) (by decide) (by decide) 0 (.slice (some ⟨a2.gO,0,none⟩) m a2.cO)
 have f1:=f0.far (HZ4.out.set 0 _) (by decide) (by decide) (by decide) 1 (.slice AL2 L.length cL2)
 have f2:=f1.far ((HZ4.out.set 0 _).set 1 _) (by decide) (by decide) (by decide) 2 (.slice (some ⟨a2.gD,0,none⟩) m a2.cD)
 have f3:=f2.far (((HZ4.out.set 0 _).set 1 _).set 2 _) (by decide) (by decide) (by decide) 3 (.slice (some ⟨a2.gT,0,none⟩) m a2.cT)
 have f4:=f3.far ((((HZ4.out.set 0 _).set 1 _).set 2 _).set 3 _) (by decide) (by decide) (by decide) 4 (.slice (some ⟨a2.gF,0,none⟩) m a2.cF)
 have hle: w.heap.size <= w.heap.size + 1 + 1:=by omega
 have hb5:=((((HB4.out.setCell (p:=⟨w.heap.size + 1 + 1,0,none⟩) hle (.slice (some ⟨a2.gO,0,none⟩) m a2.cO)).setCell (p:=⟨w.heap.size + 1 + 1,1,none⟩) hle (.slice AL2 L.length cL2)).setCell (p:=⟨w.heap.size + 1 + 1,2,none⟩) hle (.slice (some ⟨a2.gD,0,none⟩) m a2.cD)).setCell (p:=⟨w.heap.size + 1 + 1,3,none⟩) hle (.slice (some ⟨a2.gT,0,none⟩) m a2.cT)).setCell (p:=⟨w.heap.size + 1 + 1,4,none⟩) hle (.slice (some ⟨a2.gF,0,none⟩) m a2.cF)
 refine bodyPost_ret (ret_g2 (cs:=[.slice (some ⟨a2.gO,0,none⟩) m a2.cO,.slice AL2 L.length cL2,.slice (some ⟨a2.gD,0,none⟩) m a2.cD,.slice (some ⟨a2.gT,0,none⟩) m a2.cT,.slice (some ⟨a2.gF,0,none⟩) m a2.cF]) rfl rfl rfl rfl (((((HZ4.out.set 0 _).set 1 _).set 2 _).set 3 _).set 4 _) rfl) rfl ⟨{ a2 with Rv:=Rv' },?_,f4.down (by omega),hb5⟩
 show Ending.returned (.tuple #[.agg #[.slice (some ⟨a2.gO,0,none⟩) m a2.cO,.slice AL2 L.length cL2,.slice (some ⟨a2.gD,0,none⟩) m a2.cD,.slice (some ⟨a2.gT,0,none⟩) m a2.cT,.slice (some ⟨a2.gF,0,none⟩) m a2.cF],.int .i64 (lenC m g picks: Nat),.int .i64 0]) = Ending.returned (.tuple #[.agg #[.slice (some ⟨a2.gO,0,none⟩) m a2.cO,a2.vL,.slice (some ⟨a2.gD,0,none⟩) m a2.cD,.slice (some ⟨a2.gT,0,none⟩) m a2.cT,.slice (some ⟨a2.gF,0,none⟩) m a2.cF],.int .i64 (lenC m g picks: Nat),.int .i64 0])
 rw [HVL2.out]
end
structure RowsC (B gO: Nat) (FL: Option Addr) (n m cO cL: Nat) (O L: List Int) (w: World): Prop where
 rO: OwnI w B (.slice (some ⟨gO,0,none⟩) n cO) O
 rL: OwnI w B (.slice FL m cL) L
 ne: 0 < m -> ∃ gL,FL = some ⟨gL,0,none⟩ /\ gO ≠ gL
theorem RowsC.next {B gO: Nat} {FL: Option Addr} {n m cO cL: Nat} {O L: List Int} {w w': World} (h: RowsC B gO FL n m cO cL O L w) (hb: Below w.heap.size w w'): RowsC B gO FL n m cO cL O L w':=⟨own_below h.rO hb,own_below h.rL hb,h.ne⟩
theorem StC.rows {hb g gO: Nat} {FL: Option Addr} {n m cO cL: Nat} {O L: List Int} {w: World} (h: StC hb g gO FL n m cO cL O L w): RowsC hb gO FL n m cO cL O L w:=⟨h.rO,h.rL,h.ne⟩
theorem RowsC.isC {B gO: Nat} {FL: Option Addr} {n m cO cL: Nat} {O L: List Int} {w: World} (h: RowsC B gO FL n m cO cL O L w) (l1: n <= 400) (l2: m <= 400): IsC w (some ⟨gO,0,none⟩) n cO FL m cL O L :=
 own_isC h.rO h.rL h.rO.len_eq h.rL.len_eq l1 l2
def ThCo (wf: World) (n m: Nat) (O L: List Int) (f: Nat -> Value) (w: World): Prop:=∃ gO FL cO cL,Below wf.heap.size wf w /\ StC wf.heap.size (wf.heap.size + 1) gO FL n m cO cL O L w
theorem ThCo.below {wf w w': World} {n m: Nat} {O L: List Int} {f: Nat -> Value} (h: ThCo wf n m O L f w) (hb: Below w.heap.size w w'): ThCo wf n m O L f w':=by
 obtain ⟨gO,FL,cO,cL,h1,h2⟩:=h
 exact ⟨gO,FL,cO,cL,h1.trans (hb.mono h1.size),h2.next hb⟩
def PhiCo (sb hb: Nat) (A: Option Addr) (n c: Nat) (F: Option Addr) (m d: Nat) (O L: List Int): Nat -> Value -> World -> Prop
 | 0,v,w => v = .pointer (some ⟨sb,0,none⟩)
 | 1,v,w => v = .slice A n c
 | 2,v,w => OwnI w hb v O
 | 3,v,w => v = .pointer (some ⟨sb,1,none⟩)
 | 4,v,w => v = .slice F m d
 | 5,v,w => OwnI w hb v L
 | 6,v,w => GBc hb n m O L v w
 | 7,v,w => True
 | _,_,_ => True
theorem phiCo_below (sb hb: Nat) (A: Option Addr) (n c: Nat) (F: Option Addr) (m d: Nat) (O L: List Int): ∀ kq v w w',PhiCo sb hb A n c F m d O L kq v w -> Below w.heap.size w w' -> PhiCo sb hb A n c F m d O L kq v w':=by
 intro kq v w w' h hb'
 match kq,h with
 | 0,h => exact h
 | 1,h => exact h
 | 2,h => exact own_below h hb'
 | 3,h => exact h
 | 4,h => exact h
 | 5,h => exact own_below h hb'
 | 6,h => exact GBc.below h hb'
 | 7,h => exact h
 | kq + 8,h => exact trivial
section
variable {A': Option Addr} {n' c': Nat} {F': Option Addr} {m' d': Nat} {O L: List Int}
theorem copied_any (wf : World) (hk : IsC wf A' n' c' F' m' d' O L) (hn0 : 0 < n') :
    Calls Tryz.prog 121 #[.agg #[.slice A' n' c', .slice F' m' d']] wf fun e w' => ∃ gO cO FL cL, e = .returned (.agg #[.slice (some ⟨gO, 0, none⟩) n' cO, .slice FL m' cL]) /\ RowsC wf.heap.size gO FL n' m' cO cL O L w' /\ Below wf.heap.size wf w' := by
  obtain ⟨w0, hw0⟩ : ∃ w0, w0 = (wf.alloc (.cells #[.slice A' n' c', .slice F' m' d'] 37)).alloc (.cells #[.slice none 0 0, .slice none 0 0] 37) := ⟨_, rfl⟩
  have B0 : Hid (BxK wf A' n' c' F' m' d' O L w0 /\ w0.heap[wf.heap.size + 1]? = some (.cells #[.slice none 0 0, .slice none 0 0] 37 (0, 0))) := Lib.hid (by
    have h1 := BxK.start hk
    obtain ⟨v1, hv1⟩ : ∃ v1, v1 = wf.alloc (.cells #[.slice A' n' c', .slice F' m' d'] 37) := ⟨_, rfl⟩
    have s1 : v1.heap.size = wf.heap.size + 1 := by rw [hv1]; simp
    rw [<- hv1] at h1 hw0
    have h2 := heap_alloc_new v1 (.cells #[.slice none 0 0, .slice none 0 0] 37)
    rw [s1, <- hw0] at h2
    exact ⟨h1.next (by rw [hw0]; exact below_alloc _), h2⟩)
  have HW := Lib.hid hw0
  clear hk hw0
  go_enter Tryz.func121, Tryz.ntmps121
  go_wp2_with fail
  rw [<- HW.out]
  clear HW
  refine wp_region_stored3 7 [3, 4, 5, 6, 7, 8, 9, 1000] [] wf.heap.size 2 5 (by kernel_rfl) (by kernel_rfl) (by intro d hd; simp at hd ⊢; omega) (fun x => BxK wf A' n' c' F' m' d' O L x /\ (Below wf.heap.size wf x /\ x.heap[wf.heap.size + 1]? = some (.cells #[.slice none 0 0, .slice none 0 0] 37 (0, 0)))) (PhiCo wf.heap.size wf.heap.size A' n' c' F' m' d' O L) (ThCo wf n' m' O L) (fun u v _ => 0 < m' -> ApartV u v) (by decide) (fun o ho => by have hoo := Option.some.inj ho; subst hoo; exact ⟨⟨2, .chain⟩, by simp, rfl, by rfl⟩) (fun u v w w' h hb => h)
    (fun x y h hb => ⟨h.1.next hb, h.2.1.trans (hb.mono h.2.1.size), by rw [hb.block _ (Array.getElem?_eq_some_iff.1 h.2.2).1]; exact h.2.2⟩) (phiCo_below wf.heap.size wf.heap.size A' n' c' F' m' d' O L) (⟨B0.out.1.next (Below.refl _ _).drew, B0.out.1.bel.drew, by exact B0.out.2⟩) ?hstep ?hside ?hstore ?htheta ?hthetab B0.out.1.bel.size ?hend
  case hstep =>
    intro kq o hkp hkS ho a w hI hA hd hps K hK
    obtain ⟨ρ, hρ⟩ : ∃ ρ, a.eval = ρ := ⟨_, rfl⟩
    rw [hρ] at hA hd hps hK
    match kq, hkp, hkS, ho with
    | 0, _, _, ho =>
      have hoo := Option.some.inj ho
      subst hoo
      have hK := fun v w' h b => hK v w' h b (fun e => absurd e (by decide))
      exact fx_val hK hρ (.pointer (some ⟨wf.heap.size, 0, none⟩)) (by have h := hA.tmp 1 (by decide); simp [execOp, h, go_sem]) rfl
    | 1, _, _, ho =>
      have hoo := Option.some.inj ho
      subst hoo
      have f0 : (ρ (.tmp 3)) = .pointer (some ⟨wf.heap.size, 0, none⟩) := hd ⟨0, .data⟩ (by simp) (by rfl)
      have hK := fun v w' h b => hK v w' h b (fun e => absurd e (by decide))
      exact fx_val hK hρ _ (by have h0 := hI.1.c0; simp [execOp, f0, h0, go_sem]) rfl
    | 2, _, _, ho =>
      have hoo := Option.some.inj ho
      subst hoo
      have f1 : (ρ (.tmp 4)) = .slice A' n' c' := hd ⟨1, .data⟩ (by simp) (by rfl)
      have hK := fun v w' h b => hK v w' h b (fun e => absurd e (by decide))
      exact fx_call hK hρ 41 _ _ #[.slice A' n' c'] rfl (by simp only [List.map_toArray, List.map_cons, List.map_nil, f1]) (eg_of Tryz.func41 (by kernel_rfl) rfl) ((clone_i _ _ _ _ O (hI.1.k).hn (by have := (hI.1.k).ln; omega) (hI.1.k).on (hI.1.k).hA).mono fun e w' ⟨A1, c1, he, ho, hb⟩ => ⟨_, he, ho.down hI.2.1.size, hb⟩)
    | 3, _, _, ho =>
      have hoo := Option.some.inj ho
      subst hoo
      have hK := fun v w' h b => hK v w' h b (fun e => absurd e (by decide))
      exact fx_val hK hρ (.pointer (some ⟨wf.heap.size, 1, none⟩)) (by have h := hA.tmp 1 (by decide); simp [execOp, h, go_sem]) rfl
    | 4, _, _, ho =>
      have hoo := Option.some.inj ho
      subst hoo
      have f3 : (ρ (.tmp 6)) = .pointer (some ⟨wf.heap.size, 1, none⟩) := hd ⟨3, .data⟩ (by simp) (by rfl)
      have hK := fun v w' h b => hK v w' h b (fun e => absurd e (by decide))
      exact fx_val hK hρ _ (by have h0 := hI.1.c1; simp [execOp, f3, h0, go_sem]) rfl
    | 5, _, _, ho =>
      have hoo := Option.some.inj ho
      subst hoo
      have f4 : (ρ (.tmp 7)) = .slice F' m' d' := hd ⟨4, .data⟩ (by simp) (by rfl)
      have f2 := hd ⟨2, .chain⟩ (by simp) (by rfl)
      exact fx_call (k := 5) (Φ := fun _ v w' => OwnI w' wf.heap.size v L /\ (0 < m' -> ApartV (ρ (.tmp 5)) v)) (fun v w' h b => hK v w' h.1 b (fun _ => h.2)) hρ 41 _ _ #[.slice F' m' d'] rfl (by simp only [List.map_toArray, List.map_cons, List.map_nil, f4]) (eg_of Tryz.func41 (by kernel_rfl) rfl) ((clone_i _ _ _ _ L (hI.1.k).hm (by have := (hI.1.k).lm; omega) (hI.1.k).left (hI.1.k).hF).mono fun e w' ⟨A1, c1, he, ho, hb⟩ => ⟨_, he, ⟨ho.down hI.2.1.size, fun _ b e1 e2 => by have h1 := (OwnI.blockLt f2 b e1).2; have h2 := (ho.blockLt b e2).1; omega⟩, hb⟩)
    | 6, _, _, ho =>
      have hoo := Option.some.inj ho
      subst hoo
      have f2 : OwnI w wf.heap.size (ρ (.tmp 5)) O := hd ⟨2, .data⟩ (by simp) (by rfl)
      have f5 : OwnI w wf.heap.size (ρ (.tmp 8)) L := hd ⟨5, .data⟩ (by simp) (by rfl)
      have hK := fun v w' h b => hK v w' h b (fun e => absurd e (by decide))
      have hap := hps ⟨5, .data⟩ (by simp) (by rfl) rfl
      obtain ⟨A1, a1, g2, _⟩ := OwnI.slice f2
      obtain ⟨A2, a2, g5, _⟩ := OwnI.slice f5
      rw [(hI.1.k).hn] at g2
      rw [(hI.1.k).hm] at g5
      exact fx_val hK hρ (.agg #[.slice A1 n' a1, .slice A2 m' a2]) (by simp [execOp, g2, g5, go_sem]) ⟨A1, a1, A2, a2, rfl, g2 ▸ f2, g5 ▸ f5, fun hm => g2 ▸ g5 ▸ hap hm⟩
    | 7, hkp, _, _ => exact absurd rfl hkp
    | kq + 8, _, _, ho => simp at ho
  case hside =>
    intro kq o hkS ho ρ w hbw hA hd
    exact absurd hkS (by simp)
  case hstore =>
    intro o ho a w hI hA hF hps K hK
    have hoo := Option.some.inj ho
    subst hoo
    refine stC (slot := 2) rfl rfl rfl (show GNc wf.heap.size _ w from ⟨wf.heap.size + 1, hA.tmp 2 (by decide), by omega, hI.2.2⟩) (hF 6 (by decide) (by decide) (by decide)) hn0 hI.2.1 (fun w' h1 h2 h3 => hK w' ?_ ?_ (fun k hk => absurd hk (by simp)))
    · obtain ⟨g, gO, FL, cO, cL, e, r⟩ := h1
      replace e := (hA.tmp 2 (by decide)).symm.trans e
      exact ⟨gO, FL, cO, cL, by have e2 : wf.heap.size + 1 = g := (by injection e with e; injection e with e; injection e with e); subst e2; exact ⟨r.1, r.2.2⟩⟩
    · exact h2
  case htheta =>
    intro f g w h hT
    exact hT
  case hthetab =>
    intro f w w' hT hb
    exact ThCo.below hT hb
  case hend =>
    intro vals w1 hT hF
    obtain ⟨gO, FL, cO, cL, hb1, hst⟩ := hT
    simp only [fillA, fillL, List.contains_cons, List.contains_nil, Nat.reduceBEq, Bool.or_false, Bool.false_or, Bool.or_true, Bool.true_or, cond_true, cond_false, Nat.zero_add, Nat.reduceAdd]
    have x0 := hst.x0
    have x1 := hst.x1
    have HS := Lib.hid hst
    have HB := Lib.hid hb1
    clear hF hst hb1 B0
    go_wp2
    refine bodyPost_ret (v := .agg #[.slice (some ⟨gO, 0, none⟩) n' cO, .slice FL m' cL]) ?_ rfl ⟨gO, cO, FL, cL, rfl, HS.out.rows, HB.out⟩
    exact results_cell_row rfl _ _ (wf.heap.size + 1) _ _ _ _ rfl HS.out.x Tryz.underlying37 rfl (by kernel_rfl)
end
structure Turn2 (gD gV: Nat) (w w': World): Prop where
 os: w'.os = w.os
 tape: w'.tape = w.tape
 output: w'.output = w.output
 size: w.heap.size <= w'.heap.size
 block: ∀ k,k < w.heap.size -> k ≠ gD -> k ≠ gV -> w'.heap[k]? = w.heap[k]?
section
variable {gD gV: Nat} {w w1 w2: World}
theorem Turn2.refl (gD gV: Nat) (w: World): Turn2 gD gV w w:=⟨rfl,rfl,rfl,Nat.le_refl _,fun _ _ _ _ => rfl⟩
theorem Turn2.trans (h: Turn2 gD gV w w1) (k: Turn2 gD gV w1 w2): Turn2 gD gV w w2 :=
 ⟨k.os.trans h.os,k.tape.trans h.tape,k.output.trans h.output,Nat.le_trans h.size k.size,fun i hi h1 h2 => (k.block i (Nat.lt_of_lt_of_le hi h.size) h1 h2).trans (h.block i hi h1 h2)⟩
theorem Turn2.more (h: Turn2 gD gV w w1) (k: Below w1.heap.size w1 w2): Turn2 gD gV w w2 :=
 h.trans ⟨k.os,k.tape,k.output,k.size,fun i hi _ _ => k.block i hi⟩
theorem Turn2.setD (h: Turn2 gD gV w w1) (j: Nat) (v: Value): Turn2 gD gV w (w1.setCell ⟨gD,j,none⟩ v) :=
 h.trans ⟨rfl,rfl,rfl,by simp [World.setCell],fun i hi h1 _ => heap_setCell_other _ _ _ _ h1⟩
theorem Turn2.setV (h: Turn2 gD gV w w1) (j: Nat) (v: Value): Turn2 gD gV w (w1.setCell ⟨gV,j,none⟩ v) :=
 h.trans ⟨rfl,rfl,rfl,by simp [World.setCell],fun i hi _ h2 => heap_setCell_other _ _ _ _ h2⟩
theorem Turn2.drew (h: Turn2 gD gV w w1): Turn2 gD gV w w1.drew:=⟨h.os,h.tape,h.output,h.size,h.block⟩
theorem Turn2.below {B: Nat} (h: Turn2 gD gV w w1) (hB: B <= w.heap.size) (hD: B <= gD) (hV: B <= gV): Below B w w1 :=
 ⟨h.os,h.tape,h.output,h.size,fun k hk => h.block k (by omega) (by omega) (by omega)⟩
theorem Turn2.cell (h: Turn2 gD gV w w1) {p: Addr} (hp: p.block < w.heap.size) (h1: p.block ≠ gD) (h2: p.block ≠ gV): w1.cell? p = w.cell? p:=World.cell?_of_block (w:=w) (h.block p.block hp h1 h2)
end
section
variable {A: Option Addr} {n c: Nat} {F: Option Addr} {m d: Nat} {W: List Int} {E: List (Int × Int)} {gO: Nat} {FL: Option Addr} {n' m' cO cL: Nat} {O L: List Int}
theorem RowsC.setO {B: Nat} {w: World} (h: RowsC B gO FL n' m' cO cL O L w) {j: Nat} (hj: j < n') (z: Int): RowsC B gO FL n' m' cO cL (O.set j z) L (w.setCell ⟨gO,j,none⟩ (.int .i64 z)):=by
 have hO:=h.rO.len_eq
 refine ⟨ownI_setC h.rO (by omega) z,?_,h.ne⟩
 rcases Nat.eq_zero_or_pos m' with h0 | h0
 ·have hL:=h.rL.len_eq
  subst h0
  obtain rfl: L = []:=List.eq_nil_of_length_eq_zero hL
  refine ⟨h.rL.1,?_⟩
  rcases h.rL.2 with q | ⟨g',cap,cur,e,hg,hgg,hnc,hcm,hcs,ht⟩
  ·exact .inl q
  ·by_cases hgo: g' = gO
   ·subst hgo
    exact .inr ⟨g',cap,cur.setIfInBounds j (.int .i64 z),e,hg,heap_setCell_same w g' j _ _ _ hgg,hnc,hcm,by rw [Array.size_setIfInBounds]; exact hcs,by simp⟩
   ·exact .inr ⟨g',cap,cur,e,hg,by rw [heap_setCell_other _ _ _ _ hgo]; exact hgg,hnc,hcm,hcs,ht⟩
 ·obtain ⟨gL,rfl,hne⟩:=h.ne h0
  exact own_farC h.rL (fun e => hne (by simpa [Value.ownBlock] using e.symm)) fun k hk => heap_setCell_other _ _ _ _ hk
end
theorem heap_putRow {w: World} {g: Nat} {cur: Array Value} {e: TypeId} {fr: Nat × Nat} (h: w.heap[g]? = some (.cells cur e fr)) (d: Array Int): (Sort.putRow (Value.int .i64) w g 0 d).heap[g]? = some (.cells (Sort.putCells (Value.int .i64) 0 d cur) e fr):=by
 unfold Sort.putRow Sort.mapBlock
 simp [Array.getElem?_modify,h,Sort.onCells]
theorem heap_putRow_other (w: World) {g k: Nat} (hk: k ≠ g) (d: Array Int): (Sort.putRow (Value.int .i64) w g 0 d).heap[k]? = w.heap[k]?:=by
 unfold Sort.putRow Sort.mapBlock
 simp only [Array.getElem?_modify]
 rw [if_neg (fun e => hk e.symm)]
theorem take_putCells {cur: Array Value} {zs: List Int} (h: zs.length <= cur.size): (Sort.putCells (Value.int .i64) 0 zs.toArray cur).toList.take zs.length = zs.map (Value.int .i64):=by
 apply List.ext_getElem?
 intro i
 rw [List.getElem?_take,List.getElem?_map]
 by_cases hi: i < zs.length
 ·rw [if_pos hi]
  unfold Sort.putCells
  rw [Array.getElem?_toList,Array.getElem?_mapIdx,Array.getElem?_eq_getElem (by omega),List.getElem?_eq_getElem hi]
  simp [hi]
 ·rw [if_neg hi,List.getElem?_eq_none (by omega)]; rfl
theorem sortOwn_any (w: World) (B: Nat) (A: Option Addr) (n c: Nat) (zs: List Int) (hn: zs.length = n) (hl: n <= 1000) (h: OwnI w B (.slice A n c) zs) (hB: B <= w.heap.size) :
  Calls Tryz.prog 148 #[.slice A n c] w fun e w' => e = .returned (.tuple #[]) /\ OwnI w' B (.slice A n c) (zs.mergeSort fun x y => decide (x <= y)) /\ Below B w w':=by
 rcases Nat.eq_zero_or_pos n with h0 | h0
 ·subst h0
  obtain rfl: zs = []:=List.eq_nil_of_length_eq_zero hn
  refine (Tryz.slices_Sort_int_none A c w).mono ?_
  rintro e w' ⟨rfl,rfl⟩
  exact ⟨rfl,by simpa using h,Below.refl _ _⟩
 ·rcases h.2 with ⟨e,_⟩ | ⟨g,cap,cur,e,hg,hgg,hnc,hcm,hcs,ht⟩
  ·injection e with _ e2 _; omega
  ·injection e with e1 e2 e3
   subst e1 e3
   subst hn
   have hH: Sort.Holds (Value.int .i64) w g 0 zs.toArray:=fun j hj => by
    have hj': j < zs.length:=by simpa using hj
    refine ⟨?_,frozen_of_row w g _ _ _ hgg⟩
    have hc:=OwnI.ints h
    obtain ⟨b,off,eb,hb,hcell⟩:=hc (by omega)
    injection eb with eb
    injection eb with eb1 eb2
    subst eb1 eb2
    rw [hcell j hj',List.getD_eq_getElem?_getD,List.getElem?_eq_getElem hj']
    simp [hj']
   have hlt: g < w.heap.size:=(Array.getElem?_eq_some_iff.1 hgg).1
   refine (Tryz.slices_Sort_int g 0 c zs w hH hlt (by omega)).mono ?_
   rintro e w' ⟨rfl,N,os,rfl⟩
   have hlen: (zs.mergeSort fun x y => decide (x <= y)).length = zs.length:=List.length_mergeSort zs
   have hgA: (Sort.ahead w N).heap[g]? = some (.cells cur 3 (0,0)):=hgg
   refine ⟨rfl,?_,?_⟩
   ·refine ⟨by rw [List.length_map,Nat.mul_one],.inr ⟨g,c,Sort.putCells (Value.int .i64) 0 (zs.mergeSort fun x y => decide (x <= y)).toArray cur,by rw [hlen],hg,?_,by rw [hlen]; exact hnc,hcm,by simp [Sort.putCells]; simpa using hcs,?_⟩⟩
    ·rw [Sort.heap_grow_old _ _ (by rw [Sort.size_putRow]; exact hlt)]
     exact heap_putRow hgA _
    ·rw [Nat.mul_one]
     exact take_putCells (by rw [hlen]; omega)
   ·refine ⟨rfl,rfl,rfl,by simp [Sort.size_grow,Sort.size_putRow],fun k hk => ?_⟩
    rw [Sort.heap_grow_old _ _ (by rw [Sort.size_putRow]; show k < w.heap.size; omega)]
    exact heap_putRow_other (Sort.ahead w N) (by omega) _
end Go.Proofs.YtfpnkcpjhbkgnaaGreatDoor
namespace Go.Proofs.YtfpnkcpjhbkgnaaGreatDoor
theorem sorted_extI : ∀ {l1 l2 : List Int}, (l1.Pairwise fun i j => i < j) -> (l2.Pairwise fun i j => i < j) -> (∀ x, x ∈ l1 ↔ x ∈ l2) -> l1 = l2
  | [], [], _, _, _ => rfl
  | [], b :: l2, _, _, h => absurd ((h b).mpr (List.mem_cons_self ..)) (by simp)
  | a :: l1, [], _, _, h => absurd ((h a).mp (List.mem_cons_self ..)) (by simp)
  | a :: l1, b :: l2, h1, h2, h => by
    rw [List.pairwise_cons] at h1 h2
    have e : a = b := by
      have ha := (h a).mp (List.mem_cons_self ..)
      have hb := (h b).mpr (List.mem_cons_self ..)
      rcases List.mem_cons.mp ha with ha | ha
      · exact ha
      · rcases List.mem_cons.mp hb with hb | hb
        · exact hb.symm
        · have := h1.1 b hb
          have := h2.1 a ha
          omega
    subst e
    rw [sorted_extI h1.2 h2.2 fun x => ?_]
    have hx := h x
    constructor
    · intro k
      rcases List.mem_cons.mp (hx.mp (List.mem_cons_of_mem _ k)) with e | k'
      · subst e
        have := h1.1 x k
        omega
      · exact k'
    · intro k
      rcases List.mem_cons.mp (hx.mpr (List.mem_cons_of_mem _ k)) with e | k'
      · subst e
        have := h2.1 x k
        omega
      · exact k'
theorem sort_is {l l': List Int} (hn: l.Nodup) (hs: l'.Pairwise fun i j => i < j) (h: ∀ x,x ∈ l ↔ x ∈ l'): (l.mergeSort fun x y => decide (x <= y)) = l':=by
 have hp:=List.mergeSort_perm l (fun x y => decide (x <= y))
 have h1: (l.mergeSort fun x y => decide (x <= y)).Pairwise fun x y => decide (x <= y) = true :=
  List.pairwise_mergeSort (fun a b c q r => by simp at q r ⊢; omega) (fun a b => by simp; omega) l
 have h2: (l.mergeSort fun x y => decide (x <= y)).Nodup:=hp.nodup_iff.mpr hn
 refine sorted_extI ?_ hs fun x => (hp.mem_iff).trans (h x)
 have h3:=h1.and h2
 exact h3.imp fun {a b} q => by
  have q1:=q.1
  simp at q1
  have q2:=q.2
  omega
theorem nums_rises (n: Nat) (p: Nat -> Bool): (nums ((List.range n).filter p)).Pairwise fun i j => i < j:=by
 unfold nums
 rw [List.pairwise_map]
 exact (List.pairwise_lt_range.filter p).imp fun {a b} h => by simpa using h
structure TickC (O L: List Int) (k: Nat) (Oc Lc Dc: List Int): Prop where
 ho: Oc.length = O.length
 hl: Lc.length = L.length
 on: ∀ (i: Nat) (x: Int),O[i]? = some x -> Oc[i]? = some (if i < k /\ x ≠ -1 /\ leftC L x = 1 then -1 else x)
 left: ∀ q: Nat,q < L.length -> leftC Lc (q: Int) = leftC L (q: Int) - if (q: Int) ∈ O.take k then 1 else 0
 done: Dc = (O.take k).filter fun x => decide (x ≠ -1 /\ leftC L x = 1)
section
variable {O L Oc Lc Dc: List Int} {k: Nat}
theorem TickC.start (O L: List Int): TickC O L 0 O L []:=by
 refine ⟨rfl,rfl,fun i x h => ?_,fun q hq => ?_,by simp⟩
 ·rw [h,if_neg (fun q => by omega)]
 ·rw [if_neg (by simp)]
  omega
theorem take_nextI {O: List Int} {k: Nat} {x: Int} (hx: O[k]? = some x): O.take (k + 1) = O.take k ++ [x]:=by
 rw [List.take_add_one,hx]; rfl
theorem TickC.here (h: TickC O L k Oc Lc Dc) {x: Int} (hx: O[k]? = some x): Oc[k]? = some x:=by
 rw [h.on k x hx,if_neg (fun q => by omega)]
theorem TickC.idle (h: TickC O L k Oc Lc Dc) (hx: O[k]? = some (-1)): TickC O L (k + 1) Oc Lc Dc:=by
 refine ⟨h.ho,h.hl,fun i y hy => ?_,fun q hq => ?_,?_⟩
 ·rw [h.on i y hy]
  congr 1
  by_cases hik: i = k
  ·subst hik
   rw [hx] at hy
   obtain rfl:=Option.some.inj hy
   rw [if_neg (fun q => by omega),if_neg (fun q => q.2.1 rfl)]
  ·have: (i < k + 1) ↔ (i < k):=by omega
   simp only [this]
 ·rw [h.left q hq,take_nextI hx]
  congr 1
  have: (q: Int) ∈ O.take k ++ [-1] ↔ (q: Int) ∈ O.take k:=by
   rw [List.mem_append,List.mem_singleton]
   exact ⟨fun r => r.resolve_right (by omega),.inl⟩
  simp only [this]
 ·rw [h.done,take_nextI hx,List.filter_append]
  simp
theorem TickC.node (h: TickC O L k Oc Lc Dc) {n: Nat} (hx: O[k]? = some (n: Int)) (hn: n < L.length) (hno: (n: Int) ∉ O.take k) :
  leftC Lc (n: Int) = leftC L (n: Int) /\ (leftC L (n: Int) = 1 -> TickC O L (k + 1) (Oc.set k (-1)) (Lc.set n (leftC L (n: Int) - 1)) (Dc ++ [(n: Int)])) /\ (leftC L (n: Int) ≠ 1 -> TickC O L (k + 1) Oc (Lc.set n (leftC L (n: Int) - 1)) Dc):=by
 have hk: k < O.length:=(List.getElem?_eq_some_iff.1 hx).1
 have hleft: ∀ q: Nat,q < L.length -> leftC (Lc.set n (leftC L (n: Int) - 1)) (q: Int) = leftC L (q: Int) - if (q: Int) ∈ O.take (k + 1) then 1 else 0:=fun q hq => by
  have hm: (q: Int) ∈ O.take (k + 1) ↔ (q: Int) ∈ O.take k \/ q = n:=by
   rw [take_nextI hx,List.mem_append,List.mem_singleton]
   exact ⟨fun r => r.imp id (fun e => by omega),fun r => r.imp id (fun e => by omega)⟩
  rw [leftC_nat (Lc.set n _)]
  by_cases hqn: q = n
  ·subst hqn
   rw [getD_set_self (by rw [h.hl]; exact hq),if_pos (hm.mpr (.inr rfl))]
  ·rw [getD_set_ne (fun e => hqn e.symm),<- leftC_nat,h.left q hq]
   congr 1
   have: (q: Int) ∈ O.take (k + 1) ↔ (q: Int) ∈ O.take k:=hm.trans ⟨fun r => r.resolve_right hqn,.inl⟩
   simp only [this]
 have hother: ∀ i,i ≠ k -> ∀ x,O[i]? = some x -> Oc[i]? = some (if i < k + 1 /\ x ≠ -1 /\ leftC L x = 1 then -1 else x):=fun i hik x hi => by
  rw [h.on i x hi]
  have: (i < k + 1) ↔ (i < k):=by omega
  simp only [this]
 have hf: (O.take (k + 1)).filter (fun x => decide (x ≠ -1 /\ leftC L x = 1)) = Dc ++ if leftC L (n: Int) = 1 then [(n: Int)] else []:=by
  rw [take_nextI hx,List.filter_append,<- h.done]
  congr 1
  by_cases h1: leftC L (n: Int) = 1
  ·rw [if_pos h1]
   have hn1: (n: Int) ≠ -1:=by omega
   simp [List.filter,h1,hn1]
  ·rw [if_neg h1]
   simp [List.filter,h1]
 refine ⟨by rw [h.left n hn,if_neg hno]; omega,fun h1 => ⟨by rw [List.length_set]; exact h.ho,by rw [List.length_set]; exact h.hl,fun i x hi => ?_,hleft,by rw [hf,if_pos h1]⟩,fun h1 => ⟨h.ho,by rw [List.length_set]; exact h.hl,fun i x hi => ?_,hleft,by rw [hf,if_neg h1,List.append_nil]⟩⟩
 ·by_cases hik: i = k
  ·subst hik
   rw [hx] at hi
   obtain rfl:=Option.some.inj hi
   rw [List.getElem?_set_self (by rw [h.ho]; exact hk),if_pos ⟨by omega,by omega,h1⟩]
  ·rw [List.getElem?_set_ne (fun e => hik e.symm)]
   exact hother i hik x hi
 ·by_cases hik: i = k
  ·subst hik
   rw [h.on i x hi]
   rw [hx] at hi
   obtain rfl:=Option.some.inj hi
   rw [if_neg (fun q => h1 q.2.2),if_neg (fun q => h1 q.2.2)]
  ·exact hother i hik x hi
theorem TickC.end_ (h: TickC O L O.length Oc Lc Dc) (hO: ∀ x ∈ O,x = -1 \/ (0 <= x /\ x < (L.length: Int))) (h1: ∀ x,x ≠ -1 -> O.count x <= 1): Oc = onT O L /\ Lc = leftT O L /\ (Dc.mergeSort fun x y => decide (x <= y)) = nums (doneT O L):=by
 obtain ⟨ho,hl,on,left,done⟩:=h
 rw [List.take_length] at left done
 refine ⟨?_,?_,?_⟩
 ·refine List.ext_getElem? fun i => ?_
  unfold onT
  rw [List.getElem?_map]
  rcases Nat.lt_or_ge i O.length with hi | hi
  ·have he:=List.getElem?_eq_getElem hi
   rw [on i _ he,he]
   show _ = some (if O[i] ≠ -1 /\ leftC L O[i] = 1 then -1 else O[i])
   congr 1
   simp only [hi,true_and]
  ·rw [List.getElem?_eq_none (by omega),List.getElem?_eq_none hi]; rfl
 ·refine List.ext_getElem? fun i => ?_
  rcases Nat.lt_or_ge i L.length with hi | hi
  ·have e1:=left i hi
   have e2:=leftT_at (O:=O) hi
   rw [List.getElem?_eq_getElem (by omega),List.getElem?_eq_getElem (by rw [leftT_len]; exact hi)]
   congr 1
   rw [leftC_nat,List.getD_eq_getElem?_getD,List.getElem?_eq_getElem (by omega)] at e1
   rw [leftC_nat,List.getD_eq_getElem?_getD,List.getElem?_eq_getElem (by rw [leftT_len]; exact hi)] at e2
   simp only [Option.getD_some] at e1 e2
   rw [e1,e2]
  ·rw [List.getElem?_eq_none (by omega),List.getElem?_eq_none (by rw [leftT_len]; exact hi)]
 ·refine sort_is ?_ (nums_rises _ _) fun x => ?_
  ·rw [done,List.nodup_iff_count]
   intro x
   by_cases hx: x = -1
   ·subst hx
    rw [List.count_eq_zero.mpr]
    ·omega
    ·rw [List.mem_filter]
     simp
   ·exact Nat.le_trans (List.filter_sublist.count_le x) (h1 x hx)
  ·rw [done,List.mem_filter,decide_eq_true_iff]
   unfold nums
   rw [List.mem_map]
   constructor
   ·rintro ⟨hm,hne,hle⟩
    rcases hO x hm with e | ⟨e1,e2⟩
    ·exact absurd e hne
    ·refine ⟨x.toNat,mem_doneT.mpr ⟨by omega,?_,?_⟩,Int.toNat_of_nonneg e1⟩ <;> rw [Int.toNat_of_nonneg e1] <;> assumption
   ·rintro ⟨y,hy,rfl⟩
    obtain ⟨e1,e2,e3⟩:=mem_doneT.mp hy
    exact ⟨e2,by simp only [Int.ofNat_eq_natCast]; omega,e3⟩
end
end Go.Proofs.YtfpnkcpjhbkgnaaGreatDoor
