import Derived.Test.YtlfekmbalgkmeaaGreatDoorYM5
import Derived.Test.YtlfekmbalgkmeaaGreatDoorYM2
import Derived.Test.YtlfekmbalgkmeaaGreatDoorYM3
import Derived.Shelf.Abstract
import Derived.Test.YtlfekmbalgkmeaaGreatDoorChecked
import Derived.WalkKit
import Derived.WalkSmall
import Derived.Laws.BitsAllLaws
import Derived.Lib.Hide
set_option linter.unusedSimpArgs false
set_option linter.unnecessarySimpa false
set_option linter.unusedVariables false
set_option maxRecDepth 100000
set_option maxHeartbeats 8000000
namespace Go.Proofs.YtlfekmbalgkmeaaGreatDoor
open Go Go.RowKit
section
variable {A: Option Addr} {n c: Nat} {es: List Shp}
theorem rcheck15_any (w: World) (hn: es.length = n) (hl: n <= 1000) (hS: Shps w w.heap.size A es) :
  Calls Tryz.prog 68 #[.slice A n c] w fun e w' => e = .returned (.bool (decide (MayE es))) /\ Below w.heap.size w w':=by
 have HT:=Lib.hid hS
 have HN:=Lib.hid hn
 obtain ⟨r,hr⟩: ∃ r,r = decide (MayE es):=⟨_,rfl⟩
 rw [<- hr]
 have HR:=Lib.hid hr
 clear hS hn hr
 go_enter Tryz.func68,Tryz.ntmps68
 go_wp2
 go_loopw [3] (fun i wr => ∃ k: Nat,k <= n /\ i = .int .i64 k /\ Hid (Below w.heap.size w wr) /\ Hid (∀ s ∈ es.take k,LightS s)) (fun i _ => n - (intOf i).toNat)
 case atStart => exact ⟨0,Nat.zero_le _,rfl,Lib.hid (Below.refl _ _),Lib.hid (fun s hs => by simp at hs)⟩
 case round =>
  obtain ⟨k,hk,rfl,HI,HF⟩:=hrel
  by_cases hlt: k < n
  ·obtain ⟨bk,off,t,l,m,d,pp,rfl,hbg,hek,d1,d2,d3,d4,d5⟩:=(HT.out.below HI.out).at_ (k:=k) (by rw [HN.out]; exact hlt)
   have hbw: bk < wr.heap.size:=Nat.lt_of_lt_of_le hbg HI.out.size
   have HEK:=Lib.hid hek
   have KE:=Lib.hid (fun (q: ¬ LightS ⟨t,l,m,d,pp⟩) (hM: MayE es) => q (hM.2 _ (List.mem_of_getElem? hek)))
   have K:=Lib.hid (fun W => rchk_any ⟨t,l,m,d,pp⟩ W)
   have n1: ∀ x: Near wr.heap.size wr,x.W.cell? ⟨bk,off + k * 5,none⟩ = some (.int .i64 t):=fun x => (x.h.cell hbw).trans d1
   have n2: ∀ x: Near wr.heap.size wr,x.W.cell? ⟨bk,off + k * 5 + 1,none⟩ = some (.int .i64 l):=fun x => (x.h.cell hbw).trans d2
   have n3: ∀ x: Near wr.heap.size wr,x.W.cell? ⟨bk,off + k * 5 + 2,none⟩ = some (.int .i64 m):=fun x => (x.h.cell hbw).trans d3
   have n4: ∀ x: Near wr.heap.size wr,x.W.cell? ⟨bk,off + k * 5 + 3,none⟩ = some (.int .i64 d):=fun x => (x.h.cell hbw).trans d4
   have n5: ∀ x: Near wr.heap.size wr,x.W.cell? ⟨bk,off + k * 5 + 4,none⟩ = some (.int .i64 pp):=fun x => (x.h.cell hbw).trans d5
   unfold Shp.val at K
   dsimp only at K
   clear hek
   by_cases hs: Shp.Ok ⟨t,l,m,d,pp⟩
   ·rw [decide_eq_true hs] at K
    by_cases hd: t <= d
    ·have HF2:=Lib.hid (show ∀ s ∈ es.take (k + 1),LightS s by
      intro s h
      rw [List.take_add_one,HEK.out] at h
      rcases List.mem_append.mp h with h | h
      ·exact HF.out s h
      ·obtain rfl: s = ⟨t,l,m,d,pp⟩:=by simpa using h
       exact ⟨hs,hd⟩)
     clear hs
     go_wp2_with fail
     refine wp_region_near wr.heap.size (by kernel_rfl) (by kernel_rfl) (Nat.le_refl _) ?_
     repeat (go_big_quiet_step (first
      | (go_at_call 45; exact near_of (K.out _) (Nat.le_refl _))))
     refine wpQuiet_nil ?_
     intro W hW
     have BK:=Lib.hid hW
     clear hW
     focus
      go_wp2
      go_roundw
      case rel => exact ⟨k + 1,by omega,by go_num,Lib.hid (HI.out.trans (BK.out.mono HI.out.size)),HF2⟩
      case measure => simp [intOf]; omega
    ·have e0: decide (MayE es) = false:=decide_eq_false (KE.out fun q => hd q.2)
     obtain rfl: r = false:=HR.out.trans e0
     clear hs e0
     go_wp2_with fail
     refine wp_region_near wr.heap.size (by kernel_rfl) (by kernel_rfl) (Nat.le_refl _) ?_
     repeat (go_big_quiet_step (first
      | (go_at_call 45; exact near_of (K.out _) (Nat.le_refl _))))
     refine wpQuiet_nil ?_
     intro W hW
     have BK:=Lib.hid hW
     clear hW
     focus
      go_wp2
      go_ret
      exact ⟨rfl,HI.out.trans (BK.out.mono HI.out.size)⟩
   ·rw [decide_eq_false hs] at K
    have e0: decide (MayE es) = false:=decide_eq_false (KE.out fun q => hs q.1)
    obtain rfl: r = false:=HR.out.trans e0
    clear hs e0
    go_wp2_with fail
    refine wp_region_near wr.heap.size (by kernel_rfl) (by kernel_rfl) (Nat.le_refl _) ?_
    repeat (go_big_quiet_step (first
     | (go_at_call 45; exact near_of (K.out _) (Nat.le_refl _))))
    refine wpQuiet_nil ?_
    intro W hW
    have BK:=Lib.hid hW
    clear hW
    focus
     go_wp2
     go_ret
     exact ⟨rfl,HI.out.trans (BK.out.mono HI.out.size)⟩
  ·have e: k = n:=by omega
   subst e
   have h2: ∀ s ∈ es,LightS s:=by
    have h1: es.take k = es:=List.take_of_length_le (by rw [HN.out]; exact Nat.le_refl _)
    have h2:=HF.out
    rw [h1] at h2
    exact h2
   by_cases h8: k <= 8
   ·obtain rfl: r = true:=HR.out.trans (decide_eq_true (⟨by rw [HN.out]; exact h8,h2⟩: MayE es))
    clear h2
    go_wp2
    go_ret
    exact ⟨by first | rfl | (simp; omega),HI.out⟩
   ·obtain rfl: r = false:=HR.out.trans (decide_eq_false (fun q: MayE es => h8 (by rw [<- HN.out]; exact q.1)))
    have h9: decide (k <= 8) = false:=decide_eq_false h8
    have h10: decide ((k: Int) <= 8) = false:=decide_eq_false (by omega)
    clear h2
    go_wp2
    go_ret
    exact ⟨by first | rfl | (simp; omega),HI.out⟩
theorem rdemand_any (t: Int) (w: World) (hn: es.length = n) (hS: Shps w w.heap.size A es) (hM: MayE es) (h0: 0 <= t) (h1: t <= 1099511631872) :
  Calls Tryz.prog 75 #[.slice A n c,.int .i64 t] w fun e w' => e = .returned (.int .i64 (demE es t)) /\ Below w.heap.size w w':=by
 have HT:=Lib.hid hS
 have HN:=Lib.hid hn
 have HM:=Lib.hid hM
 have hl: n <= 8:=by rw [<- hn]; exact hM.1
 have HE:=Lib.hid (show demE es t = demE (es.take n) t by rw [List.take_of_length_le (by omega)])
 clear hS hn hM
 go_enter Tryz.func75,Tryz.ntmps75
 go_wp2
 go_loopw [5,6] (fun v i wr => ∃ (k: Nat) (x: Int),k <= n /\ i = .int .i64 k /\ v = .int .i64 x /\ Hid (x = demE (es.take k) t) /\ 0 <= x /\ x <= 8796093054976 /\ Hid (Below w.heap.size w wr)) (fun _ i _ => n - (intOf i).toNat)
 case atStart => exact ⟨0,0,Nat.zero_le _,rfl,rfl,Lib.hid rfl,by omega,by omega,Lib.hid (Below.refl _ _)⟩
 case round =>
  obtain ⟨k,x,hk,rfl,rfl,HX,x0,x1,HI⟩:=hrel
  by_cases hlt: k < n
  ·obtain ⟨bk,off,st,sl,sm,sd,sp,rfl,hbg,hek,d1,d2,d3,d4,d5⟩:=(HT.out.below HI.out).at_ (k:=k) (by rw [HN.out]; exact hlt)
   have hs:=HM.out.2 _ (List.mem_of_getElem? hek)
   have HX2:=Lib.hid (show demE (es.take (k + 1)) t = x + dem1 t ⟨st,sl,sm,sd,sp⟩ by rw [HX.out]; exact sumE_snoc hek)
   have hB:=demE_le (HM.out.take (k + 1)) h0
   rw [HX2.out] at hB
   have hle:=dem1_le hs h0
   obtain ⟨n1,n2,n3,n4,n5,n6,n7⟩:=hs.nums
   clear hek
   dsimp only at n1 n2 n3 n4 n5 n6 n7
   by_cases hd: t < sd
   ·have HX3:=Lib.hid (show x = demE (es.take (k + 1)) t by rw [HX2.out,dem1_low hd]; omega)
    clear hs hle hB
    go_wp2
    go_roundw
    case rel => exact ⟨k + 1,x,by omega,by go_num,rfl,HX3,by omega,by omega,HI⟩
    case measure => simp [intOf]; omega
   ·rw [dem1_high hd] at hle hB
    have HX2':=Lib.hid (HX2.out.trans (by rw [dem1_high hd]))
    clear HX2
    dsimp only at hle hB HX2'
    obtain ⟨z,hz⟩: ∃ z,z = (t - sd) / sp:=⟨_,rfl⟩
    have z0: 0 <= z:=by rw [hz]; exact Int.ediv_nonneg (by omega) (by omega)
    have z1: z <= t - sd:=by rw [hz]; exact Int.ediv_le_self _ (by omega)
    have hz2: (t - sd).tdiv sp = z:=by rw [tdiv_pos (by omega),hz]
    rw [<- hz,Int.add_comm 1 z] at hle hB HX2'
    obtain ⟨y,hy⟩: ∃ y,y = st * (z + 1):=⟨_,rfl⟩
    rw [<- hy] at hle hB HX2'
    have hy2: st * (z + 1) = y:=hy.symm
    obtain ⟨y0,y1,-⟩:=hle
    have HX3:=Lib.hid HX2'.out.symm
    have hsp: sp ≠ 0:=by omega
    have hsp2: ¬ sp = 0:=by omega
    have hsp3: (sp == 0) = false:=by simpa using hsp2
    clear hs hz hy HX2'
    go_wp2_with fail
    go_quiet (fail)
    go_wp2
    go_roundw
    case rel => exact ⟨k + 1,x + y,by omega,by go_num,rfl,HX3,by omega,by omega,Lib.hid (HI.out.trans (below_drewN (Below.refl _ _) _))⟩
    case measure => simp [intOf]; omega
  ·have e: k = n:=by omega
   subst e
   go_wp2
   go_ret
   exact ⟨by rw [HE.out,<- HX.out]; rfl,HI.out⟩
theorem rblock_any (t: Int) (w: World) (hn: es.length = n) (hl: n <= 1000) (hS: Shps w w.heap.size A es) :
  Calls Tryz.prog 76 #[.slice A n c,.int .i64 t] w fun e w' => e = .returned (.int .i64 (blkE es t)) /\ w = w':=by
 have HT:=Lib.hid hS
 have HN:=Lib.hid hn
 have HE:=Lib.hid (show blkE es t = blkE (es.take n) t by rw [List.take_of_length_le (by omega)])
 clear hS hn
 go_enter Tryz.func76,Tryz.ntmps76
 go_wp2
 go_loop [5,6] (fun v i => ∃ (k: Nat) (x: Int),k <= n /\ i = .int .i64 k /\ v = .int .i64 x /\ Hid (x = blkE (es.take k) t)) (fun _ i => n - (intOf i).toNat)
 case atStart => exact ⟨0,0,Nat.zero_le _,rfl,rfl,Lib.hid rfl⟩
 case round =>
  obtain ⟨k,x,hk,rfl,rfl,HX⟩:=hrel
  by_cases hlt: k < n
  ·obtain ⟨bk,off,st,sl,sm,sd,sp,rfl,hbg,hek,d1,d2,d3,d4,d5⟩:=HT.out.at_ (k:=k) (by rw [HN.out]; exact hlt)
   have HX2:=Lib.hid (show blkE (es.take (k + 1)) t = max x (blk1 t ⟨st,sl,sm,sd,sp⟩) by rw [HX.out]; exact maxE_snoc hek)
   have x0: 0 <= x:=by rw [HX.out]; exact maxE_nonneg _ _
   clear hek
   by_cases hd: t < sd
   ·have e1: blk1 t ⟨st,sl,sm,sd,sp⟩ = sm:=if_neg (by dsimp only; omega)
    by_cases hm: x < sm
    ·have HX3:=Lib.hid (show sm = blkE (es.take (k + 1)) t by rw [HX2.out,e1]; omega)
     clear e1 HX2
     go_wp2
     go_round
     case rel => exact ⟨k + 1,sm,by omega,by go_num,by first | rfl | (simp; omega),HX3⟩
     case measure => simp [intOf]; omega
    ·have HX3:=Lib.hid (show x = blkE (es.take (k + 1)) t by rw [HX2.out,e1]; omega)
     clear e1 HX2
     go_wp2
     go_round
     case rel => exact ⟨k + 1,x,by omega,by go_num,by first | rfl | (simp; omega),HX3⟩
     case measure => simp [intOf]; omega
   ·have e1: blk1 t ⟨st,sl,sm,sd,sp⟩ = 0:=if_pos (by dsimp only; omega)
    have HX3:=Lib.hid (show x = blkE (es.take (k + 1)) t by rw [HX2.out,e1]; omega)
    clear e1 HX2
    go_wp2
    go_round
    case rel => exact ⟨k + 1,x,by omega,by go_num,rfl,HX3⟩
    case measure => simp [intOf]; omega
  ·have e: k = n:=by omega
   subst e
   go_wp2
   go_ret
   exact ⟨by rw [HE.out,<- HX.out]; rfl,rfl⟩
end
theorem fit_iff {es: List Shp} (hM: MayE es): FitE es ↔ ∀ u,1 <= u -> u < horE es + 1 -> AtE es u:=⟨fun h u a b => h.2 u a (by omega),fun h => ⟨hM,fun t a b => h t a (by omega)⟩⟩
section
variable {A: Option Addr} {n c: Nat} {es: List Shp}
theorem efits_any (r: Bool) (hr: r = true ↔ FitE es) (w: World) (hT: DTab w) (hn: es.length = n) (hl: n <= 1000) (hS: Shps w w.heap.size A es) :
  Calls Tryz.prog 73 #[.slice A n c] w fun e w' => e = .returned (.bool r) /\ Below w.heap.size w w':=by
 have K:=Lib.hid (echeck_any (c:=c) w hT hn hl hS)
 by_cases hM: MayE es
 ·have KH:=Lib.hid (fun W (b: Below w.heap.size w W) => ehor_any (c:=c) W (hT.via b) hn hl (hS.via b))
  have KD:=Lib.hid (fun t h0 h1 W (b: Below w.heap.size w W) => edem_any (c:=c) t W hn (hS.via b) hM h0 h1)
  have KB:=Lib.hid (fun t W (b: Below w.heap.size w W) => eblk_any (c:=c) t W hn hl (hS.via b))
  have DB:=Lib.hid (fun t (h0: 0 <= t) => demE_le hM (t:=t) h0)
  have BB:=Lib.hid (fun t => blkE_le hM (t:=t))
  have HR:=Lib.hid (hr.trans (fit_iff hM))
  have hh:=hor_le (L:=es)
  obtain ⟨H,hH⟩: ∃ H,H = horE es:=⟨_,rfl⟩
  rw [chkEd_ok hM] at K
  rw [<- hH] at KH HR hh
  obtain ⟨h0,h1⟩:=hh
  clear hS hT hn hl hM hH hr
  go_enter Tryz.func73,Tryz.ntmps73
  go_wp2_with fail
  refine K.out.mono ?_
  rintro e w1 ⟨rfl,b⟩
  have B:=Lib.hid b
  clear b
  go_wp2_with fail
  refine (KH.out _ B.out).mono ?_
  rintro e w2 ⟨rfl,b⟩
  have B:=Lib.hid (B.out.trans (b.mono B.out.size))
  clear b
  go_wp2_with fail
  go_loopw [4] (fun v wr => ∃ t: Int,1 <= t /\ t <= H + 1 /\ v = .int .i64 t /\ Hid (Below w.heap.size w wr) /\ Hid (∀ u,1 <= u -> u < t -> AtE es u)) (fun v _ => (H + 1 - intOf v).toNat)
  case atStart => exact ⟨1,by omega,by omega,rfl,B,Lib.hid (fun u a b => by omega)⟩
  case round =>
   obtain ⟨t,t0,t1,rfl,HI,HA⟩:=hrel
   by_cases hlt: t <= H
   ·obtain ⟨d,hd⟩: ∃ d,d = demE es t:=⟨_,rfl⟩
    obtain ⟨b,hb⟩: ∃ b,b = blkE es t:=⟨_,rfl⟩
    have K1:=Lib.hid (KD.out t (by omega) (by omega) wr HI.out)
    have K2:=Lib.hid (fun W b => KB.out t W b)
    have D1:=DB.out t (by omega)
    have B1:=BB.out t
    have HAT: Hid (AtE es t ↔ (d = 0 \/ d + b <= t)):=Lib.hid (by unfold AtE; rw [<- hd,<- hb])
    have HRF:=Lib.hid (fun (h: ¬ AtE es t) => (show r = false by
     rw [<- Bool.not_eq_true]
     exact fun q => h (HR.out.mp q t t0 (by omega))))
    have HNX:=Lib.hid (fun (h: AtE es t) => (show ∀ u,1 <= u -> u < t + 1 -> AtE es u from fun u a q => by
     by_cases e: u = t
     ·rw [e]; exact h
     ·exact HA.out u a (by omega)))
    rw [<- hd] at K1 D1
    rw [<- hb] at K2 B1
    obtain ⟨d0,d1⟩:=D1
    obtain ⟨b0,b1⟩:=B1
    clear hd hb
    by_cases hz: d = 0
    ·have HN2:=Lib.hid (HNX.out (HAT.out.mpr (.inl hz)))
     have hz2: (d == 0) = true:=by simpa using hz
     subst hz
     go_wp2_with fail
     refine K1.out.mono ?_
     rintro e w3 ⟨rfl,b⟩
     have HI:=Lib.hid (HI.out.trans (b.mono HI.out.size))
     clear b
     go_wp2
     go_roundw
     case rel => exact ⟨t + 1,by omega,by omega,by go_num,HI,HN2⟩
     case measure => simp [intOf]; omega
    ·have hz2: (d == 0) = false:=by simpa using hz
     by_cases hg: d + b <= t
     ·have HN2:=Lib.hid (HNX.out (HAT.out.mpr (.inr hg)))
      go_wp2_with fail
      refine K1.out.mono ?_
      rintro e w3 ⟨rfl,b⟩
      have HI:=Lib.hid (HI.out.trans (b.mono HI.out.size))
      clear b
      go_wp2_with fail
      refine (K2.out _ HI.out).mono ?_
      rintro e w4 ⟨rfl,b⟩
      have HI:=Lib.hid (HI.out.trans (b.mono HI.out.size))
      clear b
      go_wp2
      go_roundw
      case rel => exact ⟨t + 1,by omega,by omega,by go_num,HI,HN2⟩
      case measure => simp [intOf]; omega
     ·obtain rfl: r = false:=HRF.out fun q => by rcases HAT.out.mp q with h | h <;> omega
      go_wp2_with fail
      refine K1.out.mono ?_
      rintro e w3 ⟨rfl,b⟩
      have HI:=Lib.hid (HI.out.trans (b.mono HI.out.size))
      clear b
      go_wp2_with fail
      refine (K2.out _ HI.out).mono ?_
      rintro e w4 ⟨rfl,b⟩
      have HI:=Lib.hid (HI.out.trans (b.mono HI.out.size))
      clear b
      go_wp2
      go_ret
      exact ⟨rfl,HI.out⟩
   ·obtain rfl: r = true:=HR.out.mpr fun u a q => HA.out u a (by omega)
    go_wp2
    go_ret
    exact ⟨rfl,HI.out⟩
 ·obtain rfl: r = false:=by
   rw [<- Bool.not_eq_true]
   exact fun q => hM (hr.mp q).1
  rw [chkEd_no hM] at K
  clear hS hT hn hl hM hr
  go_enter Tryz.func73,Tryz.ntmps73
  go_wp2_with fail
  refine K.out.mono ?_
  rintro e w1 ⟨rfl,b⟩
  have B:=Lib.hid b
  clear b
  go_wp2
  go_ret
  exact ⟨rfl,B.out⟩
theorem rhor_any (w: World) (hn: es.length = n) (hl: n <= 1000) (hS: Shps w w.heap.size A es) :
  Calls Tryz.prog 74 #[.slice A n c] w fun e w' => e = .returned (.int .i64 (horE es)) /\ Below w.heap.size w w':=by
 have KC:=Lib.hid (fun W (b: Below w.heap.size w W) => rcheck15_any (c:=c) W hn hl (hS.via b))
 have HT:=Lib.hid hS
 have HN:=Lib.hid hn
 by_cases hM: MayE es
 ·rw [decide_eq_true hM] at KC
  have HE:=Lib.hid (show horE es = maxE Shp.p (es.take n) by rw [List.take_of_length_le (by omega)]; exact if_pos hM)
  clear hS hn hM
  go_enter Tryz.func74,Tryz.ntmps74
  go_wp2
  go_loopw [3,4] (fun v i wr => ∃ (k: Nat) (x: Int),k <= n /\ i = .int .i64 k /\ v = .int .i64 x /\ Hid (x = maxE Shp.p (es.take k)) /\ Hid (Below w.heap.size w wr)) (fun _ i _ => n - (intOf i).toNat)
  case atStart => exact ⟨0,0,Nat.zero_le _,rfl,rfl,Lib.hid rfl,Lib.hid (Below.refl _ _)⟩
  case round =>
   obtain ⟨k,x,hk,rfl,rfl,HX,HI⟩:=hrel
   by_cases hlt: k < n
   ·have HL:=Lib.hid hlt
    go_wp2_with fail
    refine (KC.out _ HI.out).mono ?_
    rintro e w1 ⟨rfl,b⟩
    have HI:=Lib.hid (HI.out.trans (b.mono HI.out.size))
    clear b
    obtain ⟨bk,off,st,sl,sm,sd,sp,rfl,hbg,hek,d1,d2,d3,d4,d5⟩:=(HT.out.below HI.out).at_ (k:=k) (by rw [HN.out]; exact hlt)
    have HX2:=Lib.hid (show maxE Shp.p (es.take (k + 1)) = max x sp by rw [HX.out]; exact maxE_snoc hek)
    clear hek
    by_cases hxy: x < sp
    ·have HX3:=Lib.hid (show sp = maxE Shp.p (es.take (k + 1)) by rw [HX2.out]; omega)
     clear HX2
     go_wp2
     go_roundw
     case rel => exact ⟨k + 1,sp,by omega,by go_num,by first | rfl | (simp; omega),HX3,HI⟩
     case measure => simp [intOf]; omega
    ·have HX3:=Lib.hid (show x = maxE Shp.p (es.take (k + 1)) by rw [HX2.out]; omega)
     clear HX2
     go_wp2
     go_roundw
     case rel => exact ⟨k + 1,x,by omega,by go_num,by first | rfl | (simp; omega),HX3,HI⟩
     case measure => simp [intOf]; omega
   ·have e: k = n:=by omega
    subst e
    go_wp2
    go_ret
    exact ⟨by rw [HE.out,<- HX.out]; rfl,HI.out⟩
 ·rw [decide_eq_false hM] at KC
  have HE:=Lib.hid (show horE es = 0 from if_neg hM)
  rw [HE.out]
  clear hS hn hM
  go_enter Tryz.func74,Tryz.ntmps74
  go_wp2
  go_loopw [3,4] (fun v i wr => i = .int .i64 (0: Nat) /\ v = .int .i64 0 /\ Hid (Below w.heap.size w wr)) (fun _ i _ => n - (intOf i).toNat)
  case atStart => exact ⟨rfl,rfl,Lib.hid (Below.refl _ _)⟩
  case round =>
   obtain ⟨rfl,rfl,HI⟩:=hrel
   by_cases hlt: 0 < n
   ·go_wp2_with fail
    refine (KC.out _ HI.out).mono ?_
    rintro e w1 ⟨rfl,b⟩
    have HI:=Lib.hid (HI.out.trans (b.mono HI.out.size))
    clear b
    go_wp2
    go_ret
    exact ⟨rfl,HI.out⟩
   ·have e: n = 0:=by omega
    subst e
    go_wp2
    go_ret
    exact ⟨rfl,HI.out⟩
theorem rfits_any (r: Bool) (hr: r = true ↔ FitE es) (w: World) (hn: es.length = n) (hl: n <= 1000) (hS: Shps w w.heap.size A es) :
  Calls Tryz.prog 43 #[.slice A n c] w fun e w' => e = .returned (.bool r) /\ Below w.heap.size w w':=by
 have K:=Lib.hid (rcheck15_any (c:=c) w hn hl hS)
 by_cases hM: MayE es
 ·have KH:=Lib.hid (fun W (b: Below w.heap.size w W) => rhor_any (c:=c) W hn hl (hS.via b))
  have KD:=Lib.hid (fun t h0 h1 W (b: Below w.heap.size w W) => rdemand_any (c:=c) t W hn (hS.via b) hM h0 h1)
  have KB:=Lib.hid (fun t W (b: Below w.heap.size w W) => rblock_any (c:=c) t W hn hl (hS.via b))
  have DB:=Lib.hid (fun t (h0: 0 <= t) => demE_le hM (t:=t) h0)
  have BB:=Lib.hid (fun t => blkE_le hM (t:=t))
  have HR:=Lib.hid (hr.trans (fit_iff hM))
  have hh:=hor_le (L:=es)
  obtain ⟨H,hH⟩: ∃ H,H = horE es:=⟨_,rfl⟩
  rw [decide_eq_true hM] at K
  rw [<- hH] at KH HR hh
  obtain ⟨h0,h1⟩:=hh
  clear hS hn hl hM hH hr
  go_enter Tryz.func43,Tryz.ntmps43
  go_wp2_with fail
  refine K.out.mono ?_
  rintro e w1 ⟨rfl,b⟩
  have B:=Lib.hid b
  clear b
  go_wp2_with fail
  go_loopw [3] (fun v wr => ∃ t: Int,1 <= t /\ t <= H + 1 /\ v = .int .i64 t /\ Hid (Below w.heap.size w wr) /\ Hid (∀ u,1 <= u -> u < t -> AtE es u)) (fun v _ => (H + 1 - intOf v).toNat)
  case atStart => exact ⟨1,by omega,by omega,rfl,B,Lib.hid (fun u a b => by omega)⟩
  case round =>
   obtain ⟨t,t0,t1,rfl,HI,HA⟩:=hrel
   go_wp2_with fail
   refine (KH.out _ HI.out).mono ?_
   rintro e w2 ⟨rfl,b⟩
   have HI:=Lib.hid (HI.out.trans (b.mono HI.out.size))
   clear b
   by_cases hlt: t <= H
   ·obtain ⟨d,hd⟩: ∃ d,d = demE es t:=⟨_,rfl⟩
    obtain ⟨b,hb⟩: ∃ b,b = blkE es t:=⟨_,rfl⟩
    have K1:=Lib.hid (KD.out t (by omega) (by omega) _ HI.out)
    have K2:=Lib.hid (fun W b => KB.out t W b)
    have D1:=DB.out t (by omega)
    have B1:=BB.out t
    have HAT: Hid (AtE es t ↔ (d = 0 \/ d + b <= t)):=Lib.hid (by unfold AtE; rw [<- hd,<- hb])
    have HRF:=Lib.hid (fun (h: ¬ AtE es t) => (show r = false by
     rw [<- Bool.not_eq_true]
     exact fun q => h (HR.out.mp q t t0 (by omega))))
    have HNX:=Lib.hid (fun (h: AtE es t) => (show ∀ u,1 <= u -> u < t + 1 -> AtE es u from fun u a q => by
     by_cases e: u = t
     ·rw [e]; exact h
     ·exact HA.out u a (by omega)))
    rw [<- hd] at K1 D1
    rw [<- hb] at K2 B1
    obtain ⟨d0,d1⟩:=D1
    obtain ⟨b0,b1⟩:=B1
    clear hd hb
    by_cases hz: d = 0
    ·have HN2:=Lib.hid (HNX.out (HAT.out.mpr (.inl hz)))
     subst hz
     go_wp2_with fail
     refine K1.out.mono ?_
     rintro e w3 ⟨rfl,b⟩
     have HI:=Lib.hid (HI.out.trans (b.mono HI.out.size))
     clear b
     go_wp2
     go_roundw
     case rel => exact ⟨t + 1,by omega,by omega,by go_num,HI,HN2⟩
     case measure => simp [intOf]; omega
    ·have hz3: 0 < d:=by omega
     by_cases hg: d + b <= t
     ·have HN2:=Lib.hid (HNX.out (HAT.out.mpr (.inr hg)))
      go_wp2_with fail
      refine K1.out.mono ?_
      rintro e w3 ⟨rfl,b⟩
      have HI:=Lib.hid (HI.out.trans (b.mono HI.out.size))
      clear b
      go_wp2_with fail
      refine (K2.out _ HI.out).mono ?_
      rintro e w4 ⟨rfl,rfl⟩
      go_wp2
      go_roundw
      case rel => exact ⟨t + 1,by omega,by omega,by go_num,HI,HN2⟩
      case measure => simp [intOf]; omega
     ·obtain rfl: r = false:=HRF.out fun q => by rcases HAT.out.mp q with h | h <;> omega
      go_wp2_with fail
      refine K1.out.mono ?_
      rintro e w3 ⟨rfl,b⟩
      have HI:=Lib.hid (HI.out.trans (b.mono HI.out.size))
      clear b
      go_wp2_with fail
      refine (K2.out _ HI.out).mono ?_
      rintro e w4 ⟨rfl,rfl⟩
      go_wp2
      go_ret
      exact ⟨rfl,HI.out⟩
   ·obtain rfl: r = true:=HR.out.mpr fun u a q => HA.out u a (by omega)
    go_wp2
    go_ret
    exact ⟨rfl,HI.out⟩
 ·obtain rfl: r = false:=by
   rw [<- Bool.not_eq_true]
   exact fun q => hM (hr.mp q).1
  rw [decide_eq_false hM] at K
  clear hS hn hl hM hr
  go_enter Tryz.func43,Tryz.ntmps43
  go_wp2_with fail
  refine K.out.mono ?_
  rintro e w1 ⟨rfl,b⟩
  have B:=Lib.hid b
  clear b
  go_wp2
  go_ret
  exact ⟨rfl,B.out⟩
end
theorem wpList_pushS {ops : Array Oper} {rest : List Oper} {o : Oper} {a : Act} {Q : Exit -> Act -> World -> Prop} (hgd : o.guard = none) (s x : Operand)
    (ho : o.op = .call { callee := .builtin .append, args := #[s, x], argTypes := #[25, 25] })
    (w1 : World) (base : Nat) (v : Value) (es : List Shp) (t l m d p : Int) (len : Nat) (hlen : es.length = len) (hl : len <= 900) (hO : OwnS w1 base v es) (hB : base <= w1.heap.size)
    (hs : a.eval s = v) (hx : a.eval x = .slice (some ⟨w1.heap.size, 0, none⟩) 1 1)
    (h : ∀ F' d' w', OwnS w' base (.slice F' (len + 1) d') (es ++ [⟨t, l, m, d, p⟩]) -> Below base w1 w' -> wpList Tryz.prog ops Q rest (a.put o.dst (.slice F' (len + 1) d')) w') :
    wpList Tryz.prog ops Q (o :: rest) a (w1.alloc (.cells #[.int .i64 t, .int .i64 l, .int .i64 m, .int .i64 d, .int .i64 p] 44)) := by
  obtain ⟨j0, hj0, hy0, hy1, hy2⟩ := shape_info
  subst hlen
  refine wpList_append_own _ hgd s x 25 ho base 44 j0 (.agg #[.int .i64 0, .int .i64 0, .int .i64 0, .int .i64 0, .int .i64 0]) 5 40 Tryz.underlying25 hj0 hy0 hy1 hy2 rfl (by omega) v es.length (flatS es) hs (own_below hO (below_alloc _)) ⟨w1.heap.size, 0, none⟩ 1 1 [.int .i64 t, .int .i64 l, .int .i64 m, .int .i64 d, .int .i64 p] hx rfl ?_ ?_
    (by unfold maxLen; omega) (by omega) (by simp; omega) ?_
  · intro j u hu
    rw [addr_add, World.cell?_alloc_at _ _ _ _ rfl]
    match j with
    | 0 => obtain rfl : Value.int .i64 t = u := by simpa using hu
           rfl
    | 1 => obtain rfl : Value.int .i64 l = u := by simpa using hu
           rfl
    | 2 => obtain rfl : Value.int .i64 m = u := by simpa using hu
           rfl
    | 3 => obtain rfl : Value.int .i64 d = u := by simpa using hu
           rfl
    | 4 => obtain rfl : Value.int .i64 p = u := by simpa using hu
           rfl
    | j + 5 => simp at hu
  · intro u hu
    rcases (by simpa using hu : u = .int .i64 t \/ u = .int .i64 l \/ u = .int .i64 m \/ u = .int .i64 d \/ u = .int .i64 p) with rfl | rfl | rfl | rfl | rfl <;> rfl
  · intro v' w' hown' hg _
    have hO' : OwnS w' base v' (es ++ [⟨t, l, m, d, p⟩]) := by
      unfold OwnS
      rw [List.length_append, List.length_singleton, flatS_app]
      exact hown'
    obtain ⟨F', d', rfl, _⟩ := hO'.slice
    rw [show (es ++ [(⟨t, l, m, d, p⟩ : Shp)]).length = es.length + 1 by simp] at hO' ⊢
    exact h F' d' w' hO' (((Below.refl base w1).alloc hB _).grown hg (by simp; omega) (fun k hk => (World.ownsRow.lt hO k hk).1))
theorem OwnS.nil (w: World) (base: Nat): OwnS w base (.slice none 0 0) []:=⟨rfl,.inl ⟨rfl,rfl⟩⟩
theorem maybe_any (m: Int) (w: World): Calls Tryz.prog 118 #[.int .i64 m] w fun e w' => e = .returned (.bool (decide (0 <= m /\ m <= 8))) /\ w = w':=by
 by_cases h0: 0 <= m
 ·by_cases h8: m <= 8
  ·rw [decide_eq_true ⟨h0,h8⟩]
   go_enter Tryz.func118,Tryz.ntmps118
   go_wp2
   go_ret
   exact ⟨rfl,rfl⟩
  ·rw [decide_eq_false (fun q => h8 q.2)]
   go_enter Tryz.func118,Tryz.ntmps118
   go_wp2
   go_ret
   exact ⟨rfl,rfl⟩
 ·rw [decide_eq_false (fun q => h0 q.1)]
  go_enter Tryz.func118,Tryz.ntmps118
  go_wp2
  go_ret
  exact ⟨rfl,rfl⟩
section
variable {A P: Option Addr} {n c m d: Nat} {es: List Shp} {at_: List Int}
theorem on_any (k: Int) (w: World) (hn: es.length = n) (hl: n <= 800) (hS: Shps w w.heap.size A es) (hm: at_.length = m) (hm2: m <= 1000) (hP: Ints w w.heap.size P at_) :
  Calls Tryz.prog 156 #[.slice A n c,.slice P m d,.int .i64 k] w (GotShps (onP es at_ k) w):=by
 have HS:=Lib.hid hS
 have HP:=Lib.hid hP
 obtain ⟨q,hq⟩: ∃ q,q = min n m:=⟨_,rfl⟩
 have hmin: min (n: Int) (m: Int) = (q: Int):=by omega
 have HQ:=Lib.hid hq
 have HE: Hid (onP (es.take q) (at_.take q) k = onP es at_ k):=Lib.hid (by rw [hq,<- hn,<- hm]; exact onP_min es at_ k)
 have HN:=Lib.hid (show es.length = n /\ at_.length = m /\ q <= n /\ q <= m from ⟨hn,hm,by omega,by omega⟩)
 have hq8: q <= 800:=by omega
 have hcases: (m < n /\ q = m) \/ (¬ m < n /\ q = n):=by omega
 clear hn hS hm hP hq hl hm2 hmin
 rcases hcases with ⟨h,rfl⟩ | ⟨h,rfl⟩
 all_goals
  go_enter Tryz.func156,Tryz.ntmps156
  go_wp2
  go_loopw [7,14] (fun v i wr => ∃ (j len: Nat) (F: Option Addr) (f: Nat),j <= q /\ len <= j /\ i = .int .i64 j /\ v = .slice F len f /\ Hid (len = (onP (es.take j) (at_.take j) k).length) /\ Hid (OwnS wr w.heap.size (.slice F len f) (onP (es.take j) (at_.take j) k)) /\ Hid (Below w.heap.size w wr)) (fun _ i _ => q - (intOf i).toNat)
  case atStart => exact ⟨0,0,none,0,Nat.zero_le _,Nat.le_refl _,rfl,rfl,Lib.hid (by simp [onP]),Lib.hid (by simp only [List.take_zero,onP]; exact OwnS.nil _ _),Lib.hid (Below.refl _ _)⟩
  case round =>
   obtain ⟨j,len,F,f,hj,hlj,rfl,rfl,HL,HO,HI⟩:=hrel
   by_cases hlt: j < q
   ·obtain ⟨bk,off,t,l,mm,dd,pp,rfl,hbg,hek,d1,d2,d3,d4,d5⟩:=(HS.out.below HI.out).at_ (k:=j) (by have:=HN.out; omega)
    obtain ⟨b3,o3,x,rfl,hb3,hx,d6⟩:=(HP.out.below HI.out).at_ (k:=j) (by have:=HN.out; omega)
    have HSN:=Lib.hid (onP_snoc (c:=k) hek hx)
    clear hek hx
    by_cases hxk: x = k
    ·subst hxk
     rw [if_pos rfl] at HSN
     go_wp2_with (at_builtin; refine wpList_pushS rfl _ _ rfl wr w.heap.size _ _ t l mm dd pp len HL.out.symm (by omega) HO.out HI.out.size rfl rfl ?_; intro F' d' w3 hO3 hb3; have HO3:=Lib.hid hO3; have HI3:=Lib.hid (HI.out.trans hb3); clear hO3 hb3)
     go_roundw
     case rel => exact ⟨j + 1,len + 1,F',d',by omega,by omega,by go_num,rfl,Lib.hid (by rw [HSN.out,List.length_append,<- HL.out]; rfl),Lib.hid (by rw [HSN.out]; exact HO3.out),HI3⟩
     case measure => simp [intOf]; omega
    ·rw [if_neg hxk,List.append_nil] at HSN
     go_wp2
     go_roundw
     case rel => exact ⟨j + 1,len,F,f,by omega,by omega,by go_num,rfl,Lib.hid (by rw [HSN.out]; exact HL.out),Lib.hid (by rw [HSN.out]; exact HO.out),HI⟩
     case measure => simp [intOf]; omega
   ·obtain rfl: q = j:=by omega
    rw [HE.out] at HL HO
    go_wp2
    go_ret
    exact ⟨F,f,by rw [<- HL.out]; rfl,by rw [<- HL.out]; exact HO.out,HI.out⟩
theorem on_n (k: Int) (w: World) (hn: es.length = n) (hl: n <= 800) (hS: Shps w w.heap.size A es) (hm: at_.length = m) (hm2: m <= 1000) (hP: Ints w w.heap.size P at_) :
  Calls Tryz.prog 156 #[.slice A n c,.slice P m d,.int .i64 k] w fun e w' => ∃ A1 n1 c1,e = .returned (.slice A1 n1 c1) /\ n1 <= n /\ (onP es at_ k).length = n1 /\ OwnS w' w.heap.size (.slice A1 n1 c1) (onP es at_ k) /\ Below w.heap.size w w':=by
 refine (on_any (c:=c) (d:=d) k w hn hl hS hm hm2 hP).mono ?_
 rintro e w' ⟨A1,c1,rfl,ho,hb⟩
 exact ⟨A1,_,c1,rfl,by rw [<- hn]; exact onP_len _ _ _,rfl,ho,hb⟩
end
theorem existsB (q: Prop): ∃ r: Bool,r = true ↔ q:=by
 by_cases h: q
 ·exact ⟨true,fun _ => h,fun _ => rfl⟩
 ·exact ⟨false,fun k => Bool.noConfusion k,fun k => absurd k h⟩
section
variable {A P: Option Addr} {n c m d: Nat} {es: List Shp} {at_: List Int}
end
theorem and_small: ∀ n: Fin 32,bits .and .u64 (n.1: Int) 4294967295 = n.1:=by decide
theorem mul64_one (n: Nat) (hn: n <= 31) (w: World): Calls Tryz.prog 181 #[.int .u64 1,.int .u64 n] w fun e w' => e = .returned (.tuple #[.int .u64 0,.int .u64 n]) /\ w = w':=by
 have h1: bits .and .u64 1 4294967295 = 1:=by decide
 have h0: bits .and .u64 0 4294967295 = 0:=by decide
 have h2: bits .and .u64 (n: Int) 4294967295 = n:=and_small ⟨n,by omega⟩
 have h3: (n: Int) / 4294967296 = 0:=by omega
 have h4: IntKind.u64.wrap (n: Int) = n:=by simp [IntKind.wrap,IntKind.signed,IntKind.bits]; omega
 have h5: IntKind.u64.wrap 0 = 0:=by decide
 clear hn
 go_enter Tryz.func181,Tryz.ntmps181
 go_wp2
 refine bodyPost_ret (v:=.tuple #[.int .u64 0,.int .u64 n]) ?_ rfl ⟨rfl,rfl⟩
 simp [results,Tryz.results181,go_sem,h0,h1,h2,h3,h4,h5]
theorem mul_one (n: Nat) (hn: n <= 31) (w: World): Calls Tryz.prog 174 #[.int .u64 1,.int .u64 n] w fun e w' => e = .returned (.tuple #[.int .u64 0,.int .u64 n]) /\ w = w':=by
 have C:=Lib.hid (fun W => mul64_one n hn W)
 clear hn
 go_enter Tryz.func174,Tryz.ntmps174
 go_wp2_with fail
 refine (C.out _).mono ?_
 rintro e w1 ⟨rfl,rfl⟩
 go_wp2
 refine bodyPost_ret (v:=.tuple #[.int .u64 0,.int .u64 n]) ?_ rfl ⟨rfl,rfl⟩
 simp [results,Tryz.results174,go_sem]
end Go.Proofs.YtlfekmbalgkmeaaGreatDoor
