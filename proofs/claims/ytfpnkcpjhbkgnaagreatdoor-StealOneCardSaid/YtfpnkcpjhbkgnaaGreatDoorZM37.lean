import Derived.Test.YtfpnkcpjhbkgnaaGreatDoorZStealBegin
import Derived.Test.YtfpnkcpjhbkgnaaGreatDoorZM36
import Derived.Test.YtfpnkcpjhbkgnaaGreatDoorZM32
import Derived.Test.YtfpnkcpjhbkgnaaGreatDoorZStealTick
import Derived.Test.YtfpnkcpjhbkgnaaGreatDoorZM30
import Derived.Test.YtfpnkcpjhbkgnaaGreatDoorZM31
set_option linter.unusedSimpArgs false
set_option linter.unusedVariables false
set_option maxRecDepth 100000
set_option maxHeartbeats 16000000
namespace Go.Proofs.YtfpnkcpjhbkgnaaGreatDoor
open Go Go.RowKit
section
variable {AW FE: Option Addr} {nW cW mE dE: Nat} {W: List Int} {E: List (Int × Int)} {N: Option Addr} {nn nc: Nat} {need: List Int}
theorem snew_yes {m: Nat} (w: World) (hT: DTab w) (hg: IsG w AW nW cW FE mE dE W E) (hn: need.length = nn) (hl: nn <= 400) (hI: Ints w w.heap.size N need) (hN: N = none -> nn = 0 /\ nc = 0) (he: newE W E need m = 0) :
  Calls Tryz.prog 15 #[.agg #[.slice AW nW cW,.slice FE mE dE],.slice N nn nc,.int .i64 m] w fun e w' =>
   ∃ a',e = .returned (.tuple #[.agg (gangC m a').toArray,.int .i64 0]) /\ IsGng w' w.heap.size m (newG W.length m E need) need a' /\ Below w.heap.size w w':=by
 obtain ⟨w1,hw1⟩: ∃ w1,w1 = (w.alloc (.cells #[.slice AW nW cW,.slice FE mE dE] 25)).alloc (.cells #[.slice none 0 0,.slice none 0 0,.slice none 0 0,.slice none 0 0,.slice none 0 0] 41):=⟨_,rfl⟩
 have hb1: Below w.heap.size w w1:=by rw [hw1]; exact ((Below.refl _ _).alloc (Nat.le_refl _) _).alloc (by simp) _
 have hs1: w1.heap.size = w.heap.size + 1 + 1:=by rw [hw1]; simp
 have HB1:=Lib.hid hb1
 have hd: RowV w.heap.size 25 [.slice AW nW cW,.slice FE mE dE] w1:=by rw [hw1]; exact (RowV.new w _ [.slice AW nW cW,.slice FE mE dE]).alloc _
 have HZ1: Hid (RowV (w.heap.size + 1) 41 [.slice none 0 0,.slice none 0 0,.slice none 0 0,.slice none 0 0,.slice none 0 0] w1):=Lib.hid (by
  rw [hw1]
  have:=RowV.new (w.alloc (.cells #[.slice AW nW cW,.slice FE mE dE] 25)) 41 [.slice none 0 0,.slice none 0 0,.slice none 0 0,.slice none 0 0,.slice none 0 0]
  simpa using this)
 have CB:=Lib.hid (begin_yes (nc:=nc) w1 (hT.via hb1) (hg.below hb1) hn hl ((hI.below hb1).more hb1.size) hN he)
 have HW1:=Lib.hid hw1
 have HS1:=Lib.hid hs1
 have p0: w1.cell? ⟨w.heap.size,0,none⟩ = some (.slice AW nW cW):=hd.cell rfl
 have p1: w1.cell? ⟨w.heap.size,1,none⟩ = some (.slice FE mE dE):=hd.cell rfl
 clear hT hg hn hl hI hN he hw1 hb1 hs1 hd
 go_enter Tryz.func15,Tryz.ntmps15
 go_upto_region 1 with fail
 rw [<- HW1.out]
 go_upto_region 4 with (go_at_call 36; refine CB.out.mono ?_; rintro e w4 ⟨gw,a2,rfl,hwk,hb⟩; (have HW4:=Lib.hid hwk); (have HB4:=Lib.hid hb); clear hwk hb p0 p1 CB)
 have HZ4: Hid (RowV (w.heap.size + 1) 41 [.slice none 0 0,.slice none 0 0,.slice none 0 0,.slice none 0 0,.slice none 0 0] w4):=Lib.hid (HZ1.out.below HB4.out HZ1.out.lt)
 have s0: w4.cell? ⟨gw,0,none⟩ = some (.slice (some ⟨a2.gO,0,none⟩) m a2.cO):=HW4.out.row.cell rfl
 obtain ⟨AL2,cL2,hvL2,_⟩:=HW4.out.gng.left.slice
 replace hvL2: a2.vL = .slice AL2 need.length cL2:=hvL2
 have s1: w4.cell? ⟨gw,1,none⟩ = some a2.vL:=HW4.out.row.cell rfl
 rw [hvL2] at s1
 have HVL2:=Lib.hid hvL2
 have s2: w4.cell? ⟨gw,2,none⟩ = some (.slice (some ⟨a2.gD,0,none⟩) m a2.cD):=HW4.out.row.cell rfl
 have s3: w4.cell? ⟨gw,3,none⟩ = some (.slice (some ⟨a2.gT,0,none⟩) m a2.cT):=HW4.out.row.cell rfl
 have s4: w4.cell? ⟨gw,4,none⟩ = some (.slice (some ⟨a2.gF,0,none⟩) m a2.cF):=HW4.out.row.cell rfl
 have z0:=HZ4.out.frozen 0
 have z1:=HZ4.out.frozen 1
 have z2:=HZ4.out.frozen 2
 have z3:=HZ4.out.frozen 3
 have z4:=HZ4.out.frozen 4
 have t0:=HZ4.out.cell (j:=0) rfl
 have t1:=HZ4.out.cell (j:=1) rfl
 have t2:=HZ4.out.cell (j:=2) rfl
 have t3:=HZ4.out.cell (j:=3) rfl
 have t4:=HZ4.out.cell (j:=4) rfl
 clear hvL2
 go_wp2_with fail
 have f0:=HW4.out.gng.far HZ4.out (by decide) (by decide) (by decide) 0 (.slice (some ⟨a2.gO,0,none⟩) m a2.cO)
 have f1:=f0.far (HZ4.out.set 0 _) (by decide) (by decide) (by decide) 1 (.slice AL2 need.length cL2)
 have f2:=f1.far ((HZ4.out.set 0 _).set 1 _) (by decide) (by decide) (by decide) 2 (.slice (some ⟨a2.gD,0,none⟩) m a2.cD)
 have f3:=f2.far (((HZ4.out.set 0 _).set 1 _).set 2 _) (by decide) (by decide) (by decide) 3 (.slice (some ⟨a2.gT,0,none⟩) m a2.cT)
 have f4:=f3.far ((((HZ4.out.set 0 _).set 1 _).set 2 _).set 3 _) (by decide) (by decide) (by decide) 4 (.slice (some ⟨a2.gF,0,none⟩) m a2.cF)
 have hle: w.heap.size <= w.heap.size + 1:=by omega
 have hb4: Below w.heap.size w w4:=HB1.out.trans (HB4.out.mono HB1.out.size)
 have hb5:=((((hb4.setCell (p:=⟨w.heap.size + 1,0,none⟩) hle (.slice (some ⟨a2.gO,0,none⟩) m a2.cO)).setCell (p:=⟨w.heap.size + 1,1,none⟩) hle (.slice AL2 need.length cL2)).setCell (p:=⟨w.heap.size + 1,2,none⟩) hle (.slice (some ⟨a2.gD,0,none⟩) m a2.cD)).setCell (p:=⟨w.heap.size + 1,3,none⟩) hle (.slice (some ⟨a2.gT,0,none⟩) m a2.cT)).setCell (p:=⟨w.heap.size + 1,4,none⟩) hle (.slice (some ⟨a2.gF,0,none⟩) m a2.cF)
 refine bodyPost_ret (ret_g1 (cs:=[.slice (some ⟨a2.gO,0,none⟩) m a2.cO,.slice AL2 need.length cL2,.slice (some ⟨a2.gD,0,none⟩) m a2.cD,.slice (some ⟨a2.gT,0,none⟩) m a2.cT,.slice (some ⟨a2.gF,0,none⟩) m a2.cF]) rfl rfl rfl (((((HZ4.out.set 0 _).set 1 _).set 2 _).set 3 _).set 4 _) rfl) rfl ⟨a2,?_,f4.down HB1.out.size,hb5⟩
 show Ending.returned (.tuple #[.agg #[.slice (some ⟨a2.gO,0,none⟩) m a2.cO,.slice AL2 need.length cL2,.slice (some ⟨a2.gD,0,none⟩) m a2.cD,.slice (some ⟨a2.gT,0,none⟩) m a2.cT,.slice (some ⟨a2.gF,0,none⟩) m a2.cF],.int .i64 0]) = Ending.returned (.tuple #[.agg #[.slice (some ⟨a2.gO,0,none⟩) m a2.cO,a2.vL,.slice (some ⟨a2.gD,0,none⟩) m a2.cD,.slice (some ⟨a2.gT,0,none⟩) m a2.cT,.slice (some ⟨a2.gF,0,none⟩) m a2.cF],.int .i64 0])
 rw [HVL2.out]
end
section
variable {base m: Nat} {g: Gng} {L: List Int} {ad: GAd}
theorem gtick_any {E: List (Int × Int)} {W: List Int} {AW FE: Option Addr} {nW cW mE dE: Nat} (w: World) (hok: GOk W.length m E L g) (h0: ∀ c,c < m -> (g.tk c).at_ = 0) (h: IsGng w base m g L ad) (hT: DTab w) (hg: IsG w AW nW cW FE mE dE W E) (hM: May W E) :
  Calls Tryz.prog 33 #[.agg #[.slice AW nW cW,.slice FE mE dE],.agg #[.slice (some ⟨ad.gO,0,none⟩) m ad.cO,ad.vL,.slice (some ⟨ad.gD,0,none⟩) m ad.cD,.slice (some ⟨ad.gT,0,none⟩) m ad.cT,.slice (some ⟨ad.gF,0,none⟩) m ad.cF]] w fun e w' =>
   ∃ a' A5 c5,e = .returned (.tuple #[.agg (gangC m a').toArray,.slice A5 (nums (doneT g.O L)).length c5,.int .i64 0]) /\ IsGng w' w.heap.size m (tickG W.length m E L g) (leftT g.O L) a' /\ Below w.heap.size w w':=by
 have hm8: m <= 8:=by rw [<- hok.ol]; exact hok.crew.hi
 have hm1:=hok.m1
 have hll: L.length <= 1000:=by have:=hok.crew.ln; have:=hok.n64; omega
 have hrl: ∀ j,j < m -> (g.R j).length <= 1000:=fun j hj => by rw [hok.rl j hj]; decide
 obtain ⟨w1,hw1⟩: ∃ w1,w1 = ((w.alloc (.cells #[.slice AW nW cW,.slice FE mE dE] 25)).alloc (.cells #[.slice (some ⟨ad.gO,0,none⟩) m ad.cO,ad.vL,.slice (some ⟨ad.gD,0,none⟩) m ad.cD,.slice (some ⟨ad.gT,0,none⟩) m ad.cT,.slice (some ⟨ad.gF,0,none⟩) m ad.cF] 41)).alloc (.cells #[.slice none 0 0,.slice none 0 0,.slice none 0 0,.slice none 0 0,.slice none 0 0] 41):=⟨_,rfl⟩
 have hb1: Below w.heap.size w w1:=by rw [hw1]; exact (((Below.refl _ _).alloc (Nat.le_refl _) _).alloc (by simp) _).alloc (by simp; omega) _
 have HB1:=Lib.hid hb1
 have HD1: Hid (RowV w.heap.size 25 [.slice AW nW cW,.slice FE mE dE] w1):=Lib.hid (by rw [hw1]; exact ((RowV.new w _ [.slice AW nW cW,.slice FE mE dE]).alloc _).alloc _)
 have HR1: Hid (RowV (w.heap.size + 1) 41 (gangC m ad) w1):=Lib.hid (by
  rw [hw1]
  have:=(RowV.new (w.alloc (.cells #[.slice AW nW cW,.slice FE mE dE] 25)) 41 (gangC m ad)).alloc (.cells #[.slice none 0 0,.slice none 0 0,.slice none 0 0,.slice none 0 0,.slice none 0 0] 41)
  simpa [gangC,GAd.vO,GAd.vD,GAd.vT,GAd.vF] using this)
 have HZ1: Hid (RowV (w.heap.size + 1 + 1) 41 [.slice none 0 0,.slice none 0 0,.slice none 0 0,.slice none 0 0,.slice none 0 0] w1):=Lib.hid (by
  rw [hw1]
  have:=RowV.new ((w.alloc (.cells #[.slice AW nW cW,.slice FE mE dE] 25)).alloc (.cells #[.slice (some ⟨ad.gO,0,none⟩) m ad.cO,ad.vL,.slice (some ⟨ad.gD,0,none⟩) m ad.cD,.slice (some ⟨ad.gT,0,none⟩) m ad.cT,.slice (some ⟨ad.gF,0,none⟩) m ad.cF] 41)) 41 [.slice none 0 0,.slice none 0 0,.slice none 0 0,.slice none 0 0,.slice none 0 0]
  simpa using this)
 have hG1:=h.below hb1
 have hg1:=hg.below hb1
 have hT1:=hT.via hb1
 have CC:=Lib.hid (gcheck_any w1 hok hG1 hm8 hT1 hg1 hM rfl)
 have CP:=Lib.hid (fun (W': World) (hb: Below w1.heap.size w1 W') => scopied_any (vW:=.slice AW nW cW) (vE:=.slice FE mE dE) W' hm1 hm8 hll hrl (hG1.below hb))
 obtain ⟨nD,hnD⟩: ∃ x,x = (nums (doneT g.O L)).length:=⟨_,rfl⟩
 obtain ⟨g2,hg2⟩: ∃ x,x = tickG W.length m E L g:=⟨_,rfl⟩
 obtain ⟨L2,hL2⟩: ∃ x,x = leftT g.O L:=⟨_,rfl⟩
 have CM: Hid (∀ (W2 W3: World) (gw: Nat) (a2: GAd),Below w1.heap.size w1 W2 -> Below W2.heap.size W2 W3 -> IsWk W3 W2.heap.size gw m g L a2 (.slice AW nW cW) (.slice FE mE dE) ->
   Calls Tryz.prog 42 #[.pointer (some ⟨gw,0,none⟩)] W3 fun e w' => ∃ A5 c5 a',e = .returned (.tuple #[.slice A5 nD c5,.int .i64 0]) /\ IsWk w' W2.heap.size gw m g2 L2 a' (.slice AW nW cW) (.slice FE mE dE) /\ Kp [gw,a2.gD] W3 w'):=Lib.hid fun W2 W3 gw a2 hb2 hb3 hwk => by
  have hb13:=hb2.trans (hb3.mono hb2.size)
  have hgg:=hg1.below hb2
  refine (tick_any W3 hok h0 hM ((IsGrS.of hgg).below hb3) hwk).mono ?_
  rintro e w' ⟨A5,c5,a',he,_,hwk',_,hkp⟩
  rw [hnD,hg2,hL2]
  exact ⟨A5,c5,a',he,hwk',hkp⟩
 rw [<- hnD,<- hg2,<- hL2]
 have HW1:=Lib.hid hw1
 clear h hT hg hM hok hG1 hg1 hT1 hw1 hb1 h0 hrl hll hm1 hm8 hnD hg2 hL2
 go_enter Tryz.func33,Tryz.ntmps33
 go_upto_region 1 with fail
 rw [<- HW1.out]
 have p0: w1.cell? ⟨w.heap.size,0,none⟩ = some (.slice AW nW cW):=HD1.out.cell rfl
 have p1: w1.cell? ⟨w.heap.size,1,none⟩ = some (.slice FE mE dE):=HD1.out.cell rfl
 have r0: w1.cell? ⟨w.heap.size + 1,0,none⟩ = some (.slice (some ⟨ad.gO,0,none⟩) m ad.cO):=HR1.out.cell rfl
 have r1: w1.cell? ⟨w.heap.size + 1,1,none⟩ = some ad.vL:=HR1.out.cell rfl
 have r2: w1.cell? ⟨w.heap.size + 1,2,none⟩ = some (.slice (some ⟨ad.gD,0,none⟩) m ad.cD):=HR1.out.cell rfl
 have r3: w1.cell? ⟨w.heap.size + 1,3,none⟩ = some (.slice (some ⟨ad.gT,0,none⟩) m ad.cT):=HR1.out.cell rfl
 have r4: w1.cell? ⟨w.heap.size + 1,4,none⟩ = some (.slice (some ⟨ad.gF,0,none⟩) m ad.cF):=HR1.out.cell rfl
 go_upto_region 4 with (go_at_call 29; refine CC.out.mono ?_; rintro e w2 ⟨rfl,hb⟩; (have HB2:=Lib.hid hb); clear hb p0 p1 r0 r1 r2 r3 r4 CC)
 have R2:=Lib.hid (HR1.out.below HB2.out HR1.out.lt)
 have D2:=Lib.hid (HD1.out.below HB2.out HD1.out.lt)
 have p0: w2.cell? ⟨w.heap.size,0,none⟩ = some (.slice AW nW cW):=D2.out.cell rfl
 have p1: w2.cell? ⟨w.heap.size,1,none⟩ = some (.slice FE mE dE):=D2.out.cell rfl
 have r0: w2.cell? ⟨w.heap.size + 1,0,none⟩ = some (.slice (some ⟨ad.gO,0,none⟩) m ad.cO):=R2.out.cell rfl
 have r1: w2.cell? ⟨w.heap.size + 1,1,none⟩ = some ad.vL:=R2.out.cell rfl
 have r2: w2.cell? ⟨w.heap.size + 1,2,none⟩ = some (.slice (some ⟨ad.gD,0,none⟩) m ad.cD):=R2.out.cell rfl
 have r3: w2.cell? ⟨w.heap.size + 1,3,none⟩ = some (.slice (some ⟨ad.gT,0,none⟩) m ad.cT):=R2.out.cell rfl
 have r4: w2.cell? ⟨w.heap.size + 1,4,none⟩ = some (.slice (some ⟨ad.gF,0,none⟩) m ad.cF):=R2.out.cell rfl
 go_upto_region 5 with (go_at_call 60; refine (CP.out _ HB2.out).mono ?_; rintro e w3 ⟨gw,a2,rfl,hwk,hb⟩; (have HB3:=Lib.hid hb); (have HWK:=Lib.hid hwk); clear hb hwk p0 p1 r0 r1 r2 r3 r4 CP)
 go_upto_region 8 with (go_at_call 42; refine (CM.out _ _ _ _ HB2.out HB3.out HWK.out).mono ?_; rintro e w4 ⟨A5,c5,a3,rfl,hwk,hkp⟩; (have HW4:=Lib.hid hwk); (have HK4:=Lib.hid hkp); clear hwk hkp CM)
 have hs2: w.heap.size + 1 + 1 < w2.heap.size:=Nat.lt_of_lt_of_le HZ1.out.lt HB2.out.size
 have hlo:=HWK.out.gng.los
 have hlo2:=HWK.out.hw
 have HZ4: Hid (RowV (w.heap.size + 1 + 1) 41 [.slice none 0 0,.slice none 0 0,.slice none 0 0,.slice none 0 0,.slice none 0 0] w4):=Lib.hid (HK4.out.row (((HZ1.out.below HB2.out HZ1.out.lt)).below HB3.out hs2) (by simp; omega))
 have HB4: Hid (Below w.heap.size w w4):=Lib.hid (HB1.out.trans ((HB2.out.trans ((HB3.out.trans (HK4.out.below (by simp; omega) HB3.out.size)).mono HB2.out.size)).mono HB1.out.size))
 have HLO:=Lib.hid hs2
 have s0: w4.cell? ⟨gw,0,none⟩ = some (.slice (some ⟨a3.gO,0,none⟩) m a3.cO):=HW4.out.row.cell rfl
 obtain ⟨AL2,cL2,hvL2,_⟩:=HW4.out.gng.left.slice
 replace hvL2: a3.vL = .slice AL2 L2.length cL2:=hvL2
 have s1: w4.cell? ⟨gw,1,none⟩ = some a3.vL:=HW4.out.row.cell rfl
 rw [hvL2] at s1
 have HVL2:=Lib.hid hvL2
 have s2: w4.cell? ⟨gw,2,none⟩ = some (.slice (some ⟨a3.gD,0,none⟩) m a3.cD):=HW4.out.row.cell rfl
 have s3: w4.cell? ⟨gw,3,none⟩ = some (.slice (some ⟨a3.gT,0,none⟩) m a3.cT):=HW4.out.row.cell rfl
 have s4: w4.cell? ⟨gw,4,none⟩ = some (.slice (some ⟨a3.gF,0,none⟩) m a3.cF):=HW4.out.row.cell rfl
 have z0:=HZ4.out.frozen 0
 have z1:=HZ4.out.frozen 1
 have z2:=HZ4.out.frozen 2
 have z3:=HZ4.out.frozen 3
 have z4:=HZ4.out.frozen 4
 have t0:=HZ4.out.cell (j:=0) rfl
 have t1:=HZ4.out.cell (j:=1) rfl
 have t2:=HZ4.out.cell (j:=2) rfl
 have t3:=HZ4.out.cell (j:=3) rfl
 have t4:=HZ4.out.cell (j:=4) rfl
 clear hs2 hlo hlo2 hvL2
 go_wp2_with fail
 have hs2:=HLO.out
 have f0:=HW4.out.gng.far HZ4.out (by decide) (by decide) (by decide) 0 (.slice (some ⟨a3.gO,0,none⟩) m a3.cO)
 have f1:=f0.far (HZ4.out.set 0 _) (by decide) (by decide) (by decide) 1 (.slice AL2 L2.length cL2)
 have f2:=f1.far ((HZ4.out.set 0 _).set 1 _) (by decide) (by decide) (by decide) 2 (.slice (some ⟨a3.gD,0,none⟩) m a3.cD)
 have f3:=f2.far (((HZ4.out.set 0 _).set 1 _).set 2 _) (by decide) (by decide) (by decide) 3 (.slice (some ⟨a3.gT,0,none⟩) m a3.cT)
 have f4:=f3.far ((((HZ4.out.set 0 _).set 1 _).set 2 _).set 3 _) (by decide) (by decide) (by decide) 4 (.slice (some ⟨a3.gF,0,none⟩) m a3.cF)
 have hle: w.heap.size <= w.heap.size + 1 + 1:=by omega
 have hb5:=((((HB4.out.setCell (p:=⟨w.heap.size + 1 + 1,0,none⟩) hle (.slice (some ⟨a3.gO,0,none⟩) m a3.cO)).setCell (p:=⟨w.heap.size + 1 + 1,1,none⟩) hle (.slice AL2 L2.length cL2)).setCell (p:=⟨w.heap.size + 1 + 1,2,none⟩) hle (.slice (some ⟨a3.gD,0,none⟩) m a3.cD)).setCell (p:=⟨w.heap.size + 1 + 1,3,none⟩) hle (.slice (some ⟨a3.gT,0,none⟩) m a3.cT)).setCell (p:=⟨w.heap.size + 1 + 1,4,none⟩) hle (.slice (some ⟨a3.gF,0,none⟩) m a3.cF)
 refine bodyPost_ret (ret_g2 (cs:=[.slice (some ⟨a3.gO,0,none⟩) m a3.cO,.slice AL2 L2.length cL2,.slice (some ⟨a3.gD,0,none⟩) m a3.cD,.slice (some ⟨a3.gT,0,none⟩) m a3.cT,.slice (some ⟨a3.gF,0,none⟩) m a3.cF]) rfl rfl rfl rfl (((((HZ4.out.set 0 _).set 1 _).set 2 _).set 3 _).set 4 _) rfl) rfl ⟨a3,A5,c5,?_,f4.down (by omega),hb5⟩
 show Ending.returned (.tuple #[.agg #[.slice (some ⟨a3.gO,0,none⟩) m a3.cO,.slice AL2 L2.length cL2,.slice (some ⟨a3.gD,0,none⟩) m a3.cD,.slice (some ⟨a3.gT,0,none⟩) m a3.cT,.slice (some ⟨a3.gF,0,none⟩) m a3.cF],.slice A5 nD c5,.int .i64 0]) = Ending.returned (.tuple #[.agg #[.slice (some ⟨a3.gO,0,none⟩) m a3.cO,a3.vL,.slice (some ⟨a3.gD,0,none⟩) m a3.cD,.slice (some ⟨a3.gT,0,none⟩) m a3.cT,.slice (some ⟨a3.gF,0,none⟩) m a3.cF],.slice A5 nD c5,.int .i64 0])
 rw [HVL2.out]
end
section
variable {base m: Nat} {g: Gng} {L: List Int} {ad: GAd}
theorem gstep_bad {c: Nat} {E: List (Int × Int)} {W: List Int} {AW FE: Option Addr} {nW cW mE dE: Nat} (w: World) (hok: GOk W.length m E L g) (hc: m <= c) (hc9: c <= 1000) (h: IsGng w base m g L ad) (hT: DTab w) (hg: IsG w AW nW cW FE mE dE W E) (hM: May W E) :
  Calls Tryz.prog 30 #[.agg #[.slice AW nW cW,.slice FE mE dE],.agg #[.slice (some ⟨ad.gO,0,none⟩) m ad.cO,ad.vL,.slice (some ⟨ad.gD,0,none⟩) m ad.cD,.slice (some ⟨ad.gT,0,none⟩) m ad.cT,.slice (some ⟨ad.gF,0,none⟩) m ad.cF],.int .i64 c] w fun e w' =>
   e = .returned (.tuple #[.agg #[.slice none 0 0,.slice none 0 0,.slice none 0 0,.slice none 0 0,.slice none 0 0],.int .i64 131]) /\ Below w.heap.size w w':=by
 have hm8: m <= 8:=by rw [<- hok.ol]; exact hok.crew.hi
 have hm1:=hok.m1
 have hll: L.length <= 1000:=by have:=hok.crew.ln; have:=hok.n64; omega
 have hrl: ∀ j,j < m -> (g.R j).length <= 1000:=fun j hj => by rw [hok.rl j hj]; decide
 obtain ⟨w1,hw1⟩: ∃ w1,w1 = ((w.alloc (.cells #[.slice AW nW cW,.slice FE mE dE] 25)).alloc (.cells #[.slice (some ⟨ad.gO,0,none⟩) m ad.cO,ad.vL,.slice (some ⟨ad.gD,0,none⟩) m ad.cD,.slice (some ⟨ad.gT,0,none⟩) m ad.cT,.slice (some ⟨ad.gF,0,none⟩) m ad.cF] 41)).alloc (.cells #[.slice none 0 0,.slice none 0 0,.slice none 0 0,.slice none 0 0,.slice none 0 0] 41):=⟨_,rfl⟩
 have hb1: Below w.heap.size w w1:=by rw [hw1]; exact (((Below.refl _ _).alloc (Nat.le_refl _) _).alloc (by simp) _).alloc (by simp; omega) _
 have HB1:=Lib.hid hb1
 have HD1: Hid (RowV w.heap.size 25 [.slice AW nW cW,.slice FE mE dE] w1):=Lib.hid (by rw [hw1]; exact ((RowV.new w _ [.slice AW nW cW,.slice FE mE dE]).alloc _).alloc _)
 have HR1: Hid (RowV (w.heap.size + 1) 41 (gangC m ad) w1):=Lib.hid (by
  rw [hw1]
  have:=(RowV.new (w.alloc (.cells #[.slice AW nW cW,.slice FE mE dE] 25)) 41 (gangC m ad)).alloc (.cells #[.slice none 0 0,.slice none 0 0,.slice none 0 0,.slice none 0 0,.slice none 0 0] 41)
  simpa [gangC,GAd.vO,GAd.vD,GAd.vT,GAd.vF] using this)
 have HZ1: Hid (RowV (w.heap.size + 1 + 1) 41 [.slice none 0 0,.slice none 0 0,.slice none 0 0,.slice none 0 0,.slice none 0 0] w1):=Lib.hid (by
  rw [hw1]
  have:=RowV.new ((w.alloc (.cells #[.slice AW nW cW,.slice FE mE dE] 25)).alloc (.cells #[.slice (some ⟨ad.gO,0,none⟩) m ad.cO,ad.vL,.slice (some ⟨ad.gD,0,none⟩) m ad.cD,.slice (some ⟨ad.gT,0,none⟩) m ad.cT,.slice (some ⟨ad.gF,0,none⟩) m ad.cF] 41)) 41 [.slice none 0 0,.slice none 0 0,.slice none 0 0,.slice none 0 0,.slice none 0 0]
  simpa using this)
 have hG1:=h.below hb1
 have hg1:=hg.below hb1
 have hT1:=hT.via hb1
 have CC:=Lib.hid (gcheck_any w1 hok hG1 hm8 hT1 hg1 hM rfl)
 have HW1:=Lib.hid hw1
 have hn: (m: Int) <= (c: Int):=by omega
 have hd: decide ((m: Int) <= (c: Int)) = true:=decide_eq_true hn
 have hd2: decide (m <= c) = true:=decide_eq_true hc
 have hd3: decide ((c: Int) < 0) = false:=decide_eq_false (by omega)
 clear h hT hg hM hok hG1 hg1 hT1 hw1 hb1 hrl hll hm1 hm8
 go_enter Tryz.func30,Tryz.ntmps30
 go_upto_region 1 with fail
 rw [<- HW1.out]
 have p0: w1.cell? ⟨w.heap.size,0,none⟩ = some (.slice AW nW cW):=HD1.out.cell rfl
 have p1: w1.cell? ⟨w.heap.size,1,none⟩ = some (.slice FE mE dE):=HD1.out.cell rfl
 have r0: w1.cell? ⟨w.heap.size + 1,0,none⟩ = some (.slice (some ⟨ad.gO,0,none⟩) m ad.cO):=HR1.out.cell rfl
 have r1: w1.cell? ⟨w.heap.size + 1,1,none⟩ = some ad.vL:=HR1.out.cell rfl
 have r2: w1.cell? ⟨w.heap.size + 1,2,none⟩ = some (.slice (some ⟨ad.gD,0,none⟩) m ad.cD):=HR1.out.cell rfl
 have r3: w1.cell? ⟨w.heap.size + 1,3,none⟩ = some (.slice (some ⟨ad.gT,0,none⟩) m ad.cT):=HR1.out.cell rfl
 have r4: w1.cell? ⟨w.heap.size + 1,4,none⟩ = some (.slice (some ⟨ad.gF,0,none⟩) m ad.cF):=HR1.out.cell rfl
 go_upto_region 5 with (go_at_call 29; refine CC.out.mono ?_; rintro e w2 ⟨rfl,hb⟩; (have HB2:=Lib.hid hb); clear hb p0 p1 r0 r1 r2 r3 r4 CC; (have R2:=HR1.out.below HB2.out HR1.out.lt); (have r0: w2.cell? ⟨w.heap.size + 1,0,none⟩ = some (.slice (some ⟨ad.gO,0,none⟩) m ad.cO):=R2.cell rfl); clear R2)
 have HZ2:=Lib.hid (HZ1.out.below HB2.out HZ1.out.lt)
 have z0:=HZ2.out.frozen 0
 have z1:=HZ2.out.frozen 1
 have z2:=HZ2.out.frozen 2
 have z3:=HZ2.out.frozen 3
 have z4:=HZ2.out.frozen 4
 have t0:=HZ2.out.cell (j:=0) rfl
 have t1:=HZ2.out.cell (j:=1) rfl
 have t2:=HZ2.out.cell (j:=2) rfl
 have t3:=HZ2.out.cell (j:=3) rfl
 have t4:=HZ2.out.cell (j:=4) rfl
 go_wp2_with fail
 have hle: w.heap.size <= w.heap.size + 1 + 1:=by omega
 have hb4: Below w.heap.size w w2:=HB1.out.trans (HB2.out.mono HB1.out.size)
 have hb5:=((((hb4.setCell (p:=⟨w.heap.size + 1 + 1,0,none⟩) hle (.slice none 0 0)).setCell (p:=⟨w.heap.size + 1 + 1,1,none⟩) hle (.slice none 0 0)).setCell (p:=⟨w.heap.size + 1 + 1,2,none⟩) hle (.slice none 0 0)).setCell (p:=⟨w.heap.size + 1 + 1,3,none⟩) hle (.slice none 0 0)).setCell (p:=⟨w.heap.size + 1 + 1,4,none⟩) hle (.slice none 0 0)
 exact bodyPost_ret (ret_g1 (cs:=[.slice none 0 0,.slice none 0 0,.slice none 0 0,.slice none 0 0,.slice none 0 0]) rfl rfl rfl (((((HZ2.out.set 0 _).set 1 _).set 2 _).set 3 _).set 4 _) rfl) rfl ⟨rfl,hb5⟩
end
section
variable {base m: Nat} {g: Gng} {L: List Int} {ad: GAd}
theorem gwants_any {n: Nat} {E: List (Int × Int)} {W: List Int} {AW FE: Option Addr} {nW cW mE dE: Nat} (w: World) (hok: GOk n m E L g) (h: IsGng w base m g L ad) (hm: m <= 8) (hT: DTab w) (hg: IsG w AW nW cW FE mE dE W E) (hM: May W E) (hn: W.length = n) :
  Calls Tryz.prog 26 #[.agg #[.slice AW nW cW,.slice FE mE dE],.agg #[.slice (some ⟨ad.gO,0,none⟩) m ad.cO,ad.vL,.slice (some ⟨ad.gD,0,none⟩) m ad.cD,.slice (some ⟨ad.gT,0,none⟩) m ad.cT,.slice (some ⟨ad.gF,0,none⟩) m ad.cF]] w (GotOwn (nums (wantsG m g)) w):=by
 obtain ⟨w1,hw1⟩: ∃ w1,w1 = (w.alloc (.cells #[.slice AW nW cW,.slice FE mE dE] 25)).alloc (.cells #[.slice (some ⟨ad.gO,0,none⟩) m ad.cO,ad.vL,.slice (some ⟨ad.gD,0,none⟩) m ad.cD,.slice (some ⟨ad.gT,0,none⟩) m ad.cT,.slice (some ⟨ad.gF,0,none⟩) m ad.cF] 41):=⟨_,rfl⟩
 have hb1: Below w.heap.size w w1:=by rw [hw1]; exact ((Below.refl _ _).alloc (Nat.le_refl _) _).alloc (by simp) _
 have HB1:=Lib.hid hb1
 have HD1: Hid (RowV w.heap.size 25 [.slice AW nW cW,.slice FE mE dE] w1):=Lib.hid (by rw [hw1]; exact (RowV.new w _ [.slice AW nW cW,.slice FE mE dE]).alloc _)
 have HR1: Hid (RowV (w.heap.size + 1) 41 (gangC m ad) w1):=Lib.hid (by
  rw [hw1]
  have:=RowV.new (w.alloc (.cells #[.slice AW nW cW,.slice FE mE dE] 25)) 41 (gangC m ad)
  simpa [gangC,GAd.vO,GAd.vD,GAd.vT,GAd.vF] using this)
 have hG1:=h.below hb1
 have CC:=Lib.hid (gcheck_any w1 hok hG1 hm (hT.via hb1) (hg.below hb1) hM hn)
 have CW:=Lib.hid (fun (W: World) (hb: Below w1.heap.size w1 W) => wants_any W (hG1.below hb) hm)
 have HW1:=Lib.hid hw1
 clear h hT hg hM hn hok hG1 hw1 hb1
 go_enter Tryz.func26,Tryz.ntmps26
 go_upto_region 1 with fail
 rw [<- HW1.out]
 have p0: w1.cell? ⟨w.heap.size,0,none⟩ = some (.slice AW nW cW):=HD1.out.cell rfl
 have p1: w1.cell? ⟨w.heap.size,1,none⟩ = some (.slice FE mE dE):=HD1.out.cell rfl
 have r0: w1.cell? ⟨w.heap.size + 1,0,none⟩ = some (.slice (some ⟨ad.gO,0,none⟩) m ad.cO):=HR1.out.cell rfl
 have r1: w1.cell? ⟨w.heap.size + 1,1,none⟩ = some ad.vL:=HR1.out.cell rfl
 have r2: w1.cell? ⟨w.heap.size + 1,2,none⟩ = some (.slice (some ⟨ad.gD,0,none⟩) m ad.cD):=HR1.out.cell rfl
 have r3: w1.cell? ⟨w.heap.size + 1,3,none⟩ = some (.slice (some ⟨ad.gT,0,none⟩) m ad.cT):=HR1.out.cell rfl
 have r4: w1.cell? ⟨w.heap.size + 1,4,none⟩ = some (.slice (some ⟨ad.gF,0,none⟩) m ad.cF):=HR1.out.cell rfl
 go_wp2_with (first
  | (go_at_call 29; refine CC.out.mono ?_; rintro e w2 ⟨rfl,hb⟩; (have HB2:=Lib.hid hb); clear hb p0 p1 r0 r1 r2 r3 r4; (have R2:=Lib.hid (HR1.out.below HB2.out HR1.out.lt)); (have r0: w2.cell? ⟨w.heap.size + 1,0,none⟩ = some (.slice (some ⟨ad.gO,0,none⟩) m ad.cO):=R2.out.cell rfl); (have r1: w2.cell? ⟨w.heap.size + 1,1,none⟩ = some ad.vL:=R2.out.cell rfl); (have r2: w2.cell? ⟨w.heap.size + 1,2,none⟩ = some (.slice (some ⟨ad.gD,0,none⟩) m ad.cD):=R2.out.cell rfl); (have r3: w2.cell? ⟨w.heap.size + 1,3,none⟩ = some (.slice (some ⟨ad.gT,0,none⟩) m ad.cT):=R2.out.cell rfl); (have r4: w2.cell? ⟨w.heap.size + 1,4,none⟩ = some (.slice (some ⟨ad.gF,0,none⟩) m ad.cF):=R2.out.cell rfl))
  | (go_at_call 63; refine (CW.out _ HB2.out).mono ?_; rintro e w3 ⟨A3,c3,rfl,hO,hb⟩; (have HO:=Lib.hid hO); (have HB3:=Lib.hid hb); clear hb hO))
 go_ret
 exact ⟨A3,c3,rfl,HO.out.down (Nat.le_trans HB1.out.size HB2.out.size),HB1.out.trans ((HB2.out.trans (HB3.out.mono HB2.out.size)).mono HB1.out.size)⟩
end
end Go.Proofs.YtfpnkcpjhbkgnaaGreatDoor
