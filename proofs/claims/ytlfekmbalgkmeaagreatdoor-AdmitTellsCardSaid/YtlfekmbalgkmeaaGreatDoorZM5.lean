import Derived.Test.YtlfekmbalgkmeaaGreatDoorZM4
import Derived.Test.YtlfekmbalgkmeaaGreatDoorZM1
set_option linter.unusedSimpArgs false
set_option linter.unnecessarySimpa false
set_option linter.unusedVariables false
set_option maxRecDepth 100000
set_option maxHeartbeats 8000000
namespace Go.Proofs.YtlfekmbalgkmeaaGreatDoor
open Go Go.RowKit
section
variable {A: Option Addr} {n c: Nat} {es: List Shp}
theorem rcheck15_any(w:World)(hn:es.length=n)(hl:n<=1000)(hS:Shps w w.heap.size A es):
  Calls Tryz.prog 68 #[.slice A n c] w fun e w'=>e= .returned (.bool (decide (MayE es)))/\Below w.heap.size w w':=by
 have HT:=Lib.hid hS;have HN:=Lib.hid hn;obtain⟨r,hr⟩: ∃r,r=decide (MayE es):=⟨_,rfl⟩;rw[<-hr];have HR:=Lib.hid hr;clear hS hn hr;go_enter Tryz.func68,Tryz.ntmps68;go_wp2;go_loopw [3] (fun i wr=> ∃k:Nat,k<=n/\i= .int .i64 k/\Hid (Below w.heap.size w wr)/\Hid (∀s∈es.take k,LightS s)) (fun i _=>n - (intOf i).toNat)
 case atStart=>exact⟨0,Nat.zero_le _,rfl,Lib.hid (Below.refl _ _),Lib.hid (fun s hs=>by simp at hs)⟩
 case round=>
  obtain⟨k,hk,rfl,HI,HF⟩:=hrel
  by_cases hlt:k<n
  ·obtain ⟨bk,off,t,l,m,d,pp,rfl,hbg,hek,d1,d2,d3,d4,d5⟩:=(HT.out.below HI.out).at_ (k:=k) (by rw [HN.out]; exact hlt)
   have hbw:bk<wr.heap.size:=Nat.lt_of_lt_of_le hbg HI.out.size;have HEK:=Lib.hid hek;have KE:=Lib.hid (fun(q: ¬LightS ⟨t,l,m,d,pp⟩) (hM:MayE es)=>q (hM.2 _ (List.mem_of_getElem? hek)))
   have K:=Lib.hid (fun W=>rchk_any ⟨t,l,m,d,pp⟩ W)
   have n1: ∀x:Near wr.heap.size wr,x.W.cell? ⟨bk,off+k * 5,none⟩=some (.int .i64 t):=fun x=>(x.h.cell hbw).trans d1
   have n2: ∀x:Near wr.heap.size wr,x.W.cell? ⟨bk,off+k * 5+1,none⟩=some (.int .i64 l):=fun x=>(x.h.cell hbw).trans d2
   have n3: ∀x:Near wr.heap.size wr,x.W.cell? ⟨bk,off+k * 5+2,none⟩=some (.int .i64 m):=fun x=>(x.h.cell hbw).trans d3
   have n4: ∀x:Near wr.heap.size wr,x.W.cell? ⟨bk,off+k * 5+3,none⟩=some (.int .i64 d):=fun x=>(x.h.cell hbw).trans d4
   have n5: ∀x:Near wr.heap.size wr,x.W.cell? ⟨bk,off+k * 5+4,none⟩=some (.int .i64 pp):=fun x=>(x.h.cell hbw).trans d5
   unfold Shp.val at K;dsimp only at K;clear hek
   by_cases hs:Shp.Ok ⟨t,l,m,d,pp⟩
   ·rw [decide_eq_true hs] at K
    by_cases hd:t<=d
    ·have HF2:=Lib.hid (show ∀ s ∈ es.take (k + 1),LightS s by
      intro s h;rw[List.take_add_one,HEK.out]at h;rcases List.mem_append.mp h with h|h
      ·exact HF.out s h
      ·obtain rfl: s = ⟨t,l,m,d,pp⟩:=by simpa using h
       exact⟨hs,hd⟩)
     clear hs;go_wp2_with fail;refine wp_region_near wr.heap.size (by kernel_rfl) (by kernel_rfl) (Nat.le_refl _) ?_
     repeat (go_big_quiet_step (first
      |(go_at_call 45;exact near_of (K.out _) (Nat.le_refl _))))
     refine wpQuiet_nil ?_
     intro W hW;have BK:=Lib.hid hW;clear hW
     focus
      go_wp2;go_roundw
      case rel=>exact⟨k+1,by omega,by go_num,Lib.hid (HI.out.trans (BK.out.mono HI.out.size)),HF2⟩
      case measure=>simp[intOf];omega
    ·have e0: decide (MayE es) = false:=decide_eq_false (KE.out fun q => hd q.2)
     obtain rfl:r=false:=HR.out.trans e0;clear hs e0;go_wp2_with fail;refine wp_region_near wr.heap.size (by kernel_rfl) (by kernel_rfl) (Nat.le_refl _) ?_
     repeat (go_big_quiet_step (first
      |(go_at_call 45;exact near_of (K.out _) (Nat.le_refl _))))
     refine wpQuiet_nil ?_
     intro W hW;have BK:=Lib.hid hW;clear hW
     focus
      go_wp2;go_ret
      exact⟨rfl,HI.out.trans (BK.out.mono HI.out.size)⟩
   ·rw [decide_eq_false hs] at K
    have e0:decide (MayE es)=false:=decide_eq_false (KE.out fun q=>hs q.1)
    obtain rfl:r=false:=HR.out.trans e0;clear hs e0;go_wp2_with fail;refine wp_region_near wr.heap.size (by kernel_rfl) (by kernel_rfl) (Nat.le_refl _) ?_
    repeat (go_big_quiet_step (first
     |(go_at_call 45;exact near_of (K.out _) (Nat.le_refl _))))
    refine wpQuiet_nil ?_
    intro W hW;have BK:=Lib.hid hW;clear hW
    focus
     go_wp2;go_ret
     exact⟨rfl,HI.out.trans (BK.out.mono HI.out.size)⟩
  ·have e: k = n:=by omega
   subst e;have h2: ∀s∈es,LightS s:=by
    have h1:es.take k=es:=List.take_of_length_le (by rw[HN.out];exact Nat.le_refl _)
    have h2:=HF.out;rw[h1]at h2;exact h2
   by_cases h8:k<=8
   ·obtain rfl: r = true:=HR.out.trans (decide_eq_true (⟨by rw [HN.out]; exact h8,h2⟩: MayE es))
    clear h2;go_wp2;go_ret;exact⟨by first|rfl|(simp;omega),HI.out⟩
   ·obtain rfl: r = false:=HR.out.trans (decide_eq_false (fun q: MayE es => h8 (by rw [<- HN.out]; exact q.1)))
    have h9:decide (k<=8)=false:=decide_eq_false h8;have h10:decide ((k:Int)<=8)=false:=decide_eq_false (by omega)
    clear h2;go_wp2;go_ret;exact⟨by first|rfl|(simp;omega),HI.out⟩
theorem rdemand_any(t:Int)(w:World)(hn:es.length=n)(hS:Shps w w.heap.size A es)(hM:MayE es)(h0:0<=t)(h1:t<=1099511631872):
  Calls Tryz.prog 75 #[.slice A n c,.int .i64 t] w fun e w'=>e= .returned (.int .i64 (demE es t))/\Below w.heap.size w w':=by
 have HT:=Lib.hid hS;have HN:=Lib.hid hn;have HM:=Lib.hid hM;have hl:n<=8:=by rw[<-hn];exact hM.1
 have HE:=Lib.hid (show demE es t=demE (es.take n) t by rw[List.take_of_length_le (by omega)])
 clear hS hn hM;go_enter Tryz.func75,Tryz.ntmps75;go_wp2;go_loopw [5,6] (fun v i wr=> ∃(k:Nat) (x:Int),k<=n/\i= .int .i64 k/\v= .int .i64 x/\Hid (x=demE (es.take k) t)/\0<=x/\x<=8796093054976/\Hid (Below w.heap.size w wr)) (fun _ i _=>n - (intOf i).toNat)
 case atStart=>exact⟨0,0,Nat.zero_le _,rfl,rfl,Lib.hid rfl,by omega,by omega,Lib.hid (Below.refl _ _)⟩
 case round=>
  obtain⟨k,x,hk,rfl,rfl,HX,x0,x1,HI⟩:=hrel
  by_cases hlt:k<n
  ·obtain ⟨bk,off,st,sl,sm,sd,sp,rfl,hbg,hek,d1,d2,d3,d4,d5⟩:=(HT.out.below HI.out).at_ (k:=k) (by rw [HN.out]; exact hlt)
   have hs:=HM.out.2 _ (List.mem_of_getElem? hek)
   have HX2:=Lib.hid (show demE (es.take (k+1)) t=x+dem1 t ⟨st,sl,sm,sd,sp⟩ by rw[HX.out];exact sumE_snoc hek)
   have hB:=demE_le (HM.out.take (k+1)) h0;rw[HX2.out]at hB;have hle:=dem1_le hs h0;obtain⟨n1,n2,n3,n4,n5,n6,n7⟩:=hs.nums;clear hek;dsimp only at n1 n2 n3 n4 n5 n6 n7
   by_cases hd:t<sd
   ·have HX3:=Lib.hid (show x = demE (es.take (k + 1)) t by rw [HX2.out,dem1_low hd]; omega)
    clear hs hle hB;go_wp2;go_roundw
    case rel=>exact⟨k+1,x,by omega,by go_num,rfl,HX3,by omega,by omega,HI⟩
    case measure=>simp[intOf];omega
   ·rw [dem1_high hd] at hle hB
    have HX2':=Lib.hid (HX2.out.trans (by rw[dem1_high hd]))
    clear HX2;dsimp only at hle hB HX2';obtain⟨z,hz⟩: ∃z,z=(t - sd)/sp:=⟨_,rfl⟩;have z0:0<=z:=by rw[hz];exact Int.ediv_nonneg (by omega) (by omega)
    have z1:z<=t - sd:=by rw[hz];exact Int.ediv_le_self _ (by omega)
    have hz2:(t - sd).tdiv sp=z:=by rw[tdiv_pos (by omega),hz]
    rw[<-hz,Int.add_comm 1 z]at hle hB HX2';obtain⟨y,hy⟩: ∃y,y=st * (z+1):=⟨_,rfl⟩;rw[<-hy]at hle hB HX2';have hy2:st * (z+1)=y:=hy.symm;obtain⟨y0,y1,-⟩:=hle;have HX3:=Lib.hid HX2'.out.symm;have hsp:sp≠0:=by omega
    have hsp2: ¬sp=0:=by omega
    have hsp3:(sp==0)=false:=by simpa using hsp2
    clear hs hz hy HX2';go_wp2_with fail
    go_quiet (fail)
    go_wp2;go_roundw
    case rel=>exact⟨k+1,x+y,by omega,by go_num,rfl,HX3,by omega,by omega,Lib.hid (HI.out.trans (below_drewN (Below.refl _ _) _))⟩
    case measure=>simp[intOf];omega
  ·have e: k = n:=by omega
   subst e;go_wp2;go_ret;exact⟨by rw[HE.out,<-HX.out];rfl,HI.out⟩
theorem rblock_any(t:Int)(w:World)(hn:es.length=n)(hl:n<=1000)(hS:Shps w w.heap.size A es):
  Calls Tryz.prog 76 #[.slice A n c,.int .i64 t] w fun e w'=>e= .returned (.int .i64 (blkE es t))/\w=w':=by
 have HT:=Lib.hid hS;have HN:=Lib.hid hn;have HE:=Lib.hid (show blkE es t=blkE (es.take n) t by rw[List.take_of_length_le (by omega)])
 clear hS hn;go_enter Tryz.func76,Tryz.ntmps76;go_wp2;go_loop [5,6] (fun v i=> ∃(k:Nat) (x:Int),k<=n/\i= .int .i64 k/\v= .int .i64 x/\Hid (x=blkE (es.take k) t)) (fun _ i=>n - (intOf i).toNat)
 case atStart=>exact⟨0,0,Nat.zero_le _,rfl,rfl,Lib.hid rfl⟩
 case round=>
  obtain⟨k,x,hk,rfl,rfl,HX⟩:=hrel
  by_cases hlt:k<n
  ·obtain ⟨bk,off,st,sl,sm,sd,sp,rfl,hbg,hek,d1,d2,d3,d4,d5⟩:=HT.out.at_ (k:=k) (by rw [HN.out]; exact hlt)
   have HX2:=Lib.hid (show blkE (es.take (k+1)) t=max x (blk1 t ⟨st,sl,sm,sd,sp⟩) by rw[HX.out];exact maxE_snoc hek)
   have x0:0<=x:=by rw[HX.out];exact maxE_nonneg _ _
   clear hek
   by_cases hd:t<sd
   ·have e1: blk1 t ⟨st,sl,sm,sd,sp⟩ = sm:=if_neg (by dsimp only; omega)
    by_cases hm:x<sm
    ·have HX3:=Lib.hid (show sm = blkE (es.take (k + 1)) t by rw [HX2.out,e1]; omega)
     clear e1 HX2;go_wp2;go_round
     case rel=>exact⟨k+1,sm,by omega,by go_num,by first|rfl|(simp;omega),HX3⟩
     case measure=>simp[intOf];omega
    ·have HX3:=Lib.hid (show x = blkE (es.take (k + 1)) t by rw [HX2.out,e1]; omega)
     clear e1 HX2;go_wp2;go_round
     case rel=>exact⟨k+1,x,by omega,by go_num,by first|rfl|(simp;omega),HX3⟩
     case measure=>simp[intOf];omega
   ·have e1: blk1 t ⟨st,sl,sm,sd,sp⟩ = 0:=if_pos (by dsimp only; omega)
    have HX3:=Lib.hid (show x=blkE (es.take (k+1)) t by rw[HX2.out,e1];omega)
    clear e1 HX2;go_wp2;go_round
    case rel=>exact⟨k+1,x,by omega,by go_num,rfl,HX3⟩
    case measure=>simp[intOf];omega
  ·have e: k = n:=by omega
   subst e;go_wp2;go_ret;exact⟨by rw[HE.out,<-HX.out];rfl,rfl⟩
end
theorem fit_iff{es:List Shp}(hM:MayE es):FitE es↔ ∀u,1<=u->u<horE es+1->AtE es u:=⟨fun h u a b=>h.2 u a (by omega),fun h=>⟨hM,fun t a b=>h t a (by omega)⟩⟩
section
variable {A: Option Addr} {n c: Nat} {es: List Shp}
theorem efits_any(r:Bool)(hr:r=true↔FitE es)(w:World)(hT:DTab w)(hn:es.length=n)(hl:n<=1000)(hS:Shps w w.heap.size A es):
  Calls Tryz.prog 73 #[.slice A n c] w fun e w'=>e= .returned (.bool r)/\Below w.heap.size w w':=by
 have K:=Lib.hid (echeck_any (c:=c) w hT hn hl hS)
 by_cases hM:MayE es
 ·have KH:=Lib.hid (fun W (b: Below w.heap.size w W) => ehor_any (c:=c) W (hT.via b) hn hl (hS.via b))
  have KD:=Lib.hid (fun t h0 h1 W (b:Below w.heap.size w W)=>edem_any (c:=c) t W hn (hS.via b) hM h0 h1)
  have KB:=Lib.hid (fun t W (b:Below w.heap.size w W)=>eblk_any (c:=c) t W hn hl (hS.via b))
  have DB:=Lib.hid (fun t (h0:0<=t)=>demE_le hM (t:=t) h0)
  have BB:=Lib.hid (fun t=>blkE_le hM (t:=t))
  have HR:=Lib.hid (hr.trans (fit_iff hM));have hh:=hor_le (L:=es);obtain⟨H,hH⟩: ∃H,H=horE es:=⟨_,rfl⟩;rw[chkEd_ok hM]at K;rw[<-hH]at KH HR hh;obtain⟨h0,h1⟩:=hh;clear hS hT hn hl hM hH hr;go_enter Tryz.func73,Tryz.ntmps73;go_wp2_with fail;refine K.out.mono ?_
  rintro e w1 ⟨rfl,b⟩;have B:=Lib.hid b;clear b;go_wp2_with fail;refine(KH.out _ B.out).mono ?_
  rintro e w2 ⟨rfl,b⟩;have B:=Lib.hid (B.out.trans (b.mono B.out.size));clear b;go_wp2_with fail;go_loopw [4] (fun v wr=> ∃t:Int,1<=t/\t<=H+1/\v= .int .i64 t/\Hid (Below w.heap.size w wr)/\Hid (∀u,1<=u->u<t->AtE es u)) (fun v _=>(H+1 - intOf v).toNat)
  case atStart=>exact⟨1,by omega,by omega,rfl,B,Lib.hid (fun u a b=>by omega)⟩
  case round=>
   obtain⟨t,t0,t1,rfl,HI,HA⟩:=hrel
   by_cases hlt:t<=H
   ·obtain ⟨d,hd⟩: ∃ d,d = demE es t:=⟨_,rfl⟩
    obtain⟨b,hb⟩: ∃b,b=blkE es t:=⟨_,rfl⟩;have K1:=Lib.hid (KD.out t (by omega) (by omega) wr HI.out)
    have K2:=Lib.hid (fun W b=>KB.out t W b)
    have D1:=DB.out t (by omega)
    have B1:=BB.out t;have HAT:Hid (AtE es t↔(d=0\/d+b<=t)):=Lib.hid (by unfold AtE;rw[<-hd,<-hb])
    have HRF:=Lib.hid (fun(h: ¬AtE es t)=>(show r=false by
     rw[<-Bool.not_eq_true];exact fun q=>h (HR.out.mp q t t0 (by omega))))
    have HNX:=Lib.hid (fun(h:AtE es t)=>(show∀u,1<=u->u<t+1->AtE es u from fun u a q=>by
     by_cases e:u=t
     ·rw[e];exact h
     ·exact HA.out u a (by omega)))
    rw[<-hd]at K1 D1;rw[<-hb]at K2 B1;obtain⟨d0,d1⟩:=D1;obtain⟨b0,b1⟩:=B1;clear hd hb
    by_cases hz:d=0
    ·have HN2:=Lib.hid (HNX.out (HAT.out.mpr (.inl hz)))
     have hz2:(d==0)=true:=by simpa using hz
     subst hz;go_wp2_with fail;refine K1.out.mono ?_
     rintro e w3 ⟨rfl,b⟩;have HI:=Lib.hid (HI.out.trans (b.mono HI.out.size));clear b;go_wp2;go_roundw
     case rel=>exact⟨t+1,by omega,by omega,by go_num,HI,HN2⟩
     case measure=>simp[intOf];omega
    ·have hz2: (d == 0) = false:=by simpa using hz
     by_cases hg:d+b<=t
     ·have HN2:=Lib.hid (HNX.out (HAT.out.mpr (.inr hg)))
      go_wp2_with fail;refine K1.out.mono ?_
      rintro e w3 ⟨rfl,b⟩;have HI:=Lib.hid (HI.out.trans (b.mono HI.out.size));clear b;go_wp2_with fail;refine(K2.out _ HI.out).mono ?_
      rintro e w4 ⟨rfl,b⟩;have HI:=Lib.hid (HI.out.trans (b.mono HI.out.size));clear b;go_wp2;go_roundw
      case rel=>exact⟨t+1,by omega,by omega,by go_num,HI,HN2⟩
      case measure=>simp[intOf];omega
     ·obtain rfl: r = false:=HRF.out fun q => by rcases HAT.out.mp q with h | h <;> omega
      go_wp2_with fail;refine K1.out.mono ?_
      rintro e w3 ⟨rfl,b⟩;have HI:=Lib.hid (HI.out.trans (b.mono HI.out.size));clear b;go_wp2_with fail;refine(K2.out _ HI.out).mono ?_
      rintro e w4 ⟨rfl,b⟩;have HI:=Lib.hid (HI.out.trans (b.mono HI.out.size));clear b;go_wp2;go_ret;exact⟨rfl,HI.out⟩
   ·obtain rfl: r = true:=HR.out.mpr fun u a q => HA.out u a (by omega)
    go_wp2;go_ret
    exact⟨rfl,HI.out⟩
 ·obtain rfl: r = false:=by
   rw[<-Bool.not_eq_true];exact fun q=>hM (hr.mp q).1
  rw[chkEd_no hM]at K;clear hS hT hn hl hM hr;go_enter Tryz.func73,Tryz.ntmps73;go_wp2_with fail;refine K.out.mono ?_
  rintro e w1 ⟨rfl,b⟩;have B:=Lib.hid b;clear b;go_wp2;go_ret;exact⟨rfl,B.out⟩
theorem rhor_any(w:World)(hn:es.length=n)(hl:n<=1000)(hS:Shps w w.heap.size A es):
  Calls Tryz.prog 74 #[.slice A n c] w fun e w'=>e= .returned (.int .i64 (horE es))/\Below w.heap.size w w':=by
 have KC:=Lib.hid (fun W (b:Below w.heap.size w W)=>rcheck15_any (c:=c) W hn hl (hS.via b))
 have HT:=Lib.hid hS;have HN:=Lib.hid hn
 by_cases hM:MayE es
 ·rw [decide_eq_true hM] at KC
  have HE:=Lib.hid (show horE es=maxE Shp.p (es.take n) by rw[List.take_of_length_le (by omega)];exact if_pos hM)
  clear hS hn hM;go_enter Tryz.func74,Tryz.ntmps74;go_wp2;go_loopw [3,4] (fun v i wr=> ∃(k:Nat) (x:Int),k<=n/\i= .int .i64 k/\v= .int .i64 x/\Hid (x=maxE Shp.p (es.take k))/\Hid (Below w.heap.size w wr)) (fun _ i _=>n - (intOf i).toNat)
  case atStart=>exact⟨0,0,Nat.zero_le _,rfl,rfl,Lib.hid rfl,Lib.hid (Below.refl _ _)⟩
  case round=>
   obtain⟨k,x,hk,rfl,rfl,HX,HI⟩:=hrel
   by_cases hlt:k<n
   ·have HL:=Lib.hid hlt
    go_wp2_with fail;refine(KC.out _ HI.out).mono ?_
    rintro e w1 ⟨rfl,b⟩;have HI:=Lib.hid (HI.out.trans (b.mono HI.out.size));clear b;obtain⟨bk,off,st,sl,sm,sd,sp,rfl,hbg,hek,d1,d2,d3,d4,d5⟩:=(HT.out.below HI.out).at_ (k:=k) (by rw[HN.out];exact hlt)
    have HX2:=Lib.hid (show maxE Shp.p (es.take (k+1))=max x sp by rw[HX.out];exact maxE_snoc hek)
    clear hek
    by_cases hxy:x<sp
    ·have HX3:=Lib.hid (show sp = maxE Shp.p (es.take (k + 1)) by rw [HX2.out]; omega)
     clear HX2;go_wp2;go_roundw
     case rel=>exact⟨k+1,sp,by omega,by go_num,by first|rfl|(simp;omega),HX3,HI⟩
     case measure=>simp[intOf];omega
    ·have HX3:=Lib.hid (show x = maxE Shp.p (es.take (k + 1)) by rw [HX2.out]; omega)
     clear HX2;go_wp2;go_roundw
     case rel=>exact⟨k+1,x,by omega,by go_num,by first|rfl|(simp;omega),HX3,HI⟩
     case measure=>simp[intOf];omega
   ·have e: k = n:=by omega
    subst e;go_wp2;go_ret;exact⟨by rw[HE.out,<-HX.out];rfl,HI.out⟩
 ·rw [decide_eq_false hM] at KC
  have HE:=Lib.hid (show horE es=0 from if_neg hM)
  rw[HE.out];clear hS hn hM;go_enter Tryz.func74,Tryz.ntmps74;go_wp2;go_loopw [3,4] (fun v i wr=>i= .int .i64 (0:Nat)/\v= .int .i64 0/\Hid (Below w.heap.size w wr)) (fun _ i _=>n - (intOf i).toNat)
  case atStart=>exact⟨rfl,rfl,Lib.hid (Below.refl _ _)⟩
  case round=>
   obtain⟨rfl,rfl,HI⟩:=hrel
   by_cases hlt:0<n
   ·go_wp2_with fail
    refine(KC.out _ HI.out).mono ?_
    rintro e w1 ⟨rfl,b⟩;have HI:=Lib.hid (HI.out.trans (b.mono HI.out.size));clear b;go_wp2;go_ret;exact⟨rfl,HI.out⟩
   ·have e: n = 0:=by omega
    subst e;go_wp2;go_ret;exact⟨rfl,HI.out⟩
theorem rfits_any(r:Bool)(hr:r=true↔FitE es)(w:World)(hn:es.length=n)(hl:n<=1000)(hS:Shps w w.heap.size A es):
  Calls Tryz.prog 43 #[.slice A n c] w fun e w'=>e= .returned (.bool r)/\Below w.heap.size w w':=by
 have K:=Lib.hid (rcheck15_any (c:=c) w hn hl hS)
 by_cases hM:MayE es
 ·have KH:=Lib.hid (fun W (b: Below w.heap.size w W) => rhor_any (c:=c) W hn hl (hS.via b))
  have KD:=Lib.hid (fun t h0 h1 W (b:Below w.heap.size w W)=>rdemand_any (c:=c) t W hn (hS.via b) hM h0 h1)
  have KB:=Lib.hid (fun t W (b:Below w.heap.size w W)=>rblock_any (c:=c) t W hn hl (hS.via b))
  have DB:=Lib.hid (fun t (h0:0<=t)=>demE_le hM (t:=t) h0)
  have BB:=Lib.hid (fun t=>blkE_le hM (t:=t))
  have HR:=Lib.hid (hr.trans (fit_iff hM));have hh:=hor_le (L:=es);obtain⟨H,hH⟩: ∃H,H=horE es:=⟨_,rfl⟩;rw[decide_eq_true hM]at K;rw[<-hH]at KH HR hh;obtain⟨h0,h1⟩:=hh;clear hS hn hl hM hH hr;go_enter Tryz.func43,Tryz.ntmps43;go_wp2_with fail;refine K.out.mono ?_
  rintro e w1 ⟨rfl,b⟩;have B:=Lib.hid b;clear b;go_wp2_with fail;go_loopw [3] (fun v wr=> ∃t:Int,1<=t/\t<=H+1/\v= .int .i64 t/\Hid (Below w.heap.size w wr)/\Hid (∀u,1<=u->u<t->AtE es u)) (fun v _=>(H+1 - intOf v).toNat)
  case atStart=>exact⟨1,by omega,by omega,rfl,B,Lib.hid (fun u a b=>by omega)⟩
  case round=>
   obtain⟨t,t0,t1,rfl,HI,HA⟩:=hrel;go_wp2_with fail;refine(KH.out _ HI.out).mono ?_
   rintro e w2 ⟨rfl,b⟩;have HI:=Lib.hid (HI.out.trans (b.mono HI.out.size));clear b
   by_cases hlt:t<=H
   ·obtain ⟨d,hd⟩: ∃ d,d = demE es t:=⟨_,rfl⟩
    obtain⟨b,hb⟩: ∃b,b=blkE es t:=⟨_,rfl⟩;have K1:=Lib.hid (KD.out t (by omega) (by omega) _ HI.out)
    have K2:=Lib.hid (fun W b=>KB.out t W b)
    have D1:=DB.out t (by omega)
    have B1:=BB.out t;have HAT:Hid (AtE es t↔(d=0\/d+b<=t)):=Lib.hid (by unfold AtE;rw[<-hd,<-hb])
    have HRF:=Lib.hid (fun(h: ¬AtE es t)=>(show r=false by
     rw[<-Bool.not_eq_true];exact fun q=>h (HR.out.mp q t t0 (by omega))))
    have HNX:=Lib.hid (fun(h:AtE es t)=>(show∀u,1<=u->u<t+1->AtE es u from fun u a q=>by
     by_cases e:u=t
     ·rw[e];exact h
     ·exact HA.out u a (by omega)))
    rw[<-hd]at K1 D1;rw[<-hb]at K2 B1;obtain⟨d0,d1⟩:=D1;obtain⟨b0,b1⟩:=B1;clear hd hb
    by_cases hz:d=0
    ·have HN2:=Lib.hid (HNX.out (HAT.out.mpr (.inl hz)))
     subst hz;go_wp2_with fail;refine K1.out.mono ?_
     rintro e w3 ⟨rfl,b⟩;have HI:=Lib.hid (HI.out.trans (b.mono HI.out.size));clear b;go_wp2;go_roundw
     case rel=>exact⟨t+1,by omega,by omega,by go_num,HI,HN2⟩
     case measure=>simp[intOf];omega
    ·have hz3: 0 < d:=by omega
     by_cases hg:d+b<=t
     ·have HN2:=Lib.hid (HNX.out (HAT.out.mpr (.inr hg)))
      go_wp2_with fail;refine K1.out.mono ?_
      rintro e w3 ⟨rfl,b⟩;have HI:=Lib.hid (HI.out.trans (b.mono HI.out.size));clear b;go_wp2_with fail;refine(K2.out _ HI.out).mono ?_
      rintro e w4 ⟨rfl,rfl⟩;go_wp2;go_roundw
      case rel=>exact⟨t+1,by omega,by omega,by go_num,HI,HN2⟩
      case measure=>simp[intOf];omega
     ·obtain rfl: r = false:=HRF.out fun q => by rcases HAT.out.mp q with h | h <;> omega
      go_wp2_with fail;refine K1.out.mono ?_
      rintro e w3 ⟨rfl,b⟩;have HI:=Lib.hid (HI.out.trans (b.mono HI.out.size));clear b;go_wp2_with fail;refine(K2.out _ HI.out).mono ?_
      rintro e w4 ⟨rfl,rfl⟩;go_wp2;go_ret;exact⟨rfl,HI.out⟩
   ·obtain rfl: r = true:=HR.out.mpr fun u a q => HA.out u a (by omega)
    go_wp2;go_ret
    exact⟨rfl,HI.out⟩
 ·obtain rfl: r = false:=by
   rw[<-Bool.not_eq_true];exact fun q=>hM (hr.mp q).1
  rw[decide_eq_false hM]at K;clear hS hn hl hM hr;go_enter Tryz.func43,Tryz.ntmps43;go_wp2_with fail;refine K.out.mono ?_
  rintro e w1 ⟨rfl,b⟩;have B:=Lib.hid b;clear b;go_wp2;go_ret;exact⟨rfl,B.out⟩
end
def insO(t:Nat->Int)(x:Nat):List Nat->List Nat
 | []=> [x]
 |y::ys=>if t y<t x then x::y::ys else y::insO t x ys
def ordO(t:Nat->Int):Nat->List Nat
 |0=> []
 |n+1=>insO t n (ordO t n)
section
variable {t: Nat -> Int}
theorem insO_perm(x:Nat): ∀l:List Nat,(insO t x l).Perm (x::l)
  | []=> .refl _
  | y :: ys => by
    unfold insO
    split
    · exact .refl _
    · exact((insO_perm x ys).cons y).trans (.swap x y ys)
theorem ordO_perm: ∀n:Nat,(ordO t n).Perm (List.range n)
  |0=> .refl _
  | n + 1 => by
    rw[List.range_succ];exact((insO_perm n _).trans ((ordO_perm n).cons n)).trans (List.perm_append_comm (l₁:= [n]))
theorem ordO_len(n:Nat):(ordO t n).length=n:=by rw[(ordO_perm n).length_eq,List.length_range]
theorem ordO_mem{n x:Nat}:x∈ordO t n↔x<n:=by rw[(ordO_perm n).mem_iff,List.mem_range]
theorem ordO_nodup(n:Nat):(ordO t n).Nodup:=(ordO_perm n).nodup_iff.mpr List.nodup_range
def LtO(t:Nat->Int)(a b:Nat):Prop:=t b<t a\/t a=t b/\a<b
theorem insO_sorted{x:Nat}: ∀{l:List Nat},l.Pairwise (LtO t)->(∀y∈l,y<x)->(insO t x l).Pairwise (LtO t)
  | [],_,_=>by simp[insO]
  | y :: ys, h, hx => by
    obtain⟨h1,h2⟩:=List.pairwise_cons.mp h;unfold insO
    split
    · rename_i hlt
      refine List.pairwise_cons.mpr ⟨fun z hz=> ?_,h⟩
      rcases List.mem_cons.mp hz with rfl|hz
      · exact .inl hlt
      · rcases h1 z hz with h3|h3
        · exact .inl (by omega)
        · exact .inl (by omega)
    · rename_i hlt
      refine List.pairwise_cons.mpr ⟨fun z hz=> ?_,insO_sorted h2 (fun z hz=>hx z (List.mem_cons_of_mem _ hz))⟩
      rcases List.mem_cons.mp ((insO_perm x ys).mem_iff.mp hz)with rfl|hz
      · have:=hx y (List.mem_cons_self ..);rcases Int.lt_trichotomy (t z) (t y)with h3|h3|h3
        · exact .inl h3
        · exact .inr ⟨h3.symm,this⟩
        · exact absurd h3 hlt
      · exact h1 z hz
theorem ordO_sorted: ∀n:Nat,(ordO t n).Pairwise (LtO t)
 |0=> .nil
 |n+1=>insO_sorted (ordO_sorted n) (fun y hy=>ordO_mem.mp hy)
theorem insO_at{x:Nat}: ∀{l:List Nat} {j:Nat},(∀y∈l.take j,¬t y<t x)->(∀y∈l.drop j,t y<t x)->insO t x l=l.take j++x::l.drop j
  | [],j,_,_=>by simp[insO]
  | y :: ys, 0, _, h => by
    unfold insO;rw[if_pos (h y (by simp))]
    rfl
  | y :: ys, j + 1, h1, h2 => by
    unfold insO;rw[if_neg (h1 y (by simp))]
    have:=insO_at (x:=x) (l:=ys) (j:=j) (fun z hz=>h1 z (by simp[hz])) (fun z hz=>h2 z (by simpa using hz))
    rw[this];rfl
theorem ordO_at{n j:Nat}(hj:j<=n)(h1:0<j-> ∀y,(ordO t n)[j - 1]? =some y-> ¬t y<t n)(h2: ∀y∈(ordO t n).drop j,t y<t n):ordO t (n+1)=(ordO t n).take j++n::(ordO t n).drop j:=by
 refine insO_at (fun y hy=> ?_) h2
 obtain⟨k,hk,e⟩:=List.mem_iff_getElem.mp hy;rw[List.length_take]at hk;rw[List.getElem_take]at e;have hl:=ordO_len (t:=t) n;have hs:=ordO_sorted (t:=t) n;have h3: ¬t (ordO t n)[j - 1]<t n:=h1 (by omega) _ (List.getElem?_eq_getElem (by omega))
 by_cases e2:k=j - 1
 ·subst e2;rw[<-e];exact h3
 ·have h4:=List.pairwise_iff_getElem.mp hs k (j - 1) (by omega) (by omega) (by omega)
  rw[e]at h4;rcases h4 with h4|h4<;>omega
theorem swap_at{P:List Nat}{x j:Nat}{y:Nat}(h0:0<j)(hy:P[j - 1]? =some y):((P.take j++x::P.drop j).set j y).set (j - 1) x=P.take (j - 1)++x::P.drop (j - 1):=by
 have hl:=(List.getElem?_eq_some_iff.mp hy).1
 have he:=(List.getElem?_eq_some_iff.mp hy).2
 have e1:P.take j=P.take (j - 1)++ [y]:=by
  have:j=(j - 1)+1:=by omega
  rw[this,List.take_add_one,Nat.add_sub_cancel,hy];rfl
 have e2:P.drop (j - 1)=y::P.drop j:=by
  rw[List.drop_eq_getElem_cons hl,he];congr 2;omega
 have l1:(P.take (j - 1)).length=j - 1:=by rw[List.length_take];omega
 rw[e1,e2,List.append_assoc,List.set_append_right _ _ (by rw[l1];omega),List.set_append_right _ _ (by rw[l1];omega),l1]
 have:j - (j - 1)=1:=by omega
 rw[this,Nat.sub_self];rfl
end
theorem sumE_perm{f:Shp->Int}{A B:List Shp}(h:A.Perm B):sumE f A=sumE f B:=by
 induction h with
 |nil=>rfl
 |cons x _ ih=>simp only[sumE,ih]
 |swap x y l=>simp only[sumE];omega
 |trans _ _ h1 h2=>rw[h1,h2]
theorem fit_perm{A B:List Shp}(h:FitE A)(p:A.Perm B):FitE B:=
 fit_less h (by rw[p.length_eq];exact Nat.le_refl _) (fun s hs=>p.mem_iff.mpr hs) (fun t _=>by unfold demE;rw[sumE_perm p];exact Int.le_refl _)
theorem fit_sub{A B:List Shp}(h:FitE A)(p:B.Sublist A):FitE B:=by
  refine fit_less h p.length_le (fun s hs=>p.subset hs) (fun t ht=> ?_)
  have hm:=h.1.2;clear h
  induction p with
  |slnil=>exact Int.le_refl _
  | cons x p ih =>
    have h1:=ih (fun s hs=>hm s (List.mem_cons_of_mem _ hs))
    have h2:=(dem1_le (hm x (List.mem_cons_self ..)) ht).1;rw[demE_cons];omega
  | cons_cons x p ih =>
    have h1:=ih (fun s hs=>hm s (List.mem_cons_of_mem _ hs))
    rw[demE_cons,demE_cons];omega
theorem fit_nil:FitE []:=⟨⟨by simp,fun s h=>by simp at h⟩,fun t _ _=> .inl rfl⟩
def onP:List Shp->List Int->Int->List Shp
 |s::es,a::at_,c=>if a=c then s::onP es at_ c else onP es at_ c
 | [],_,_=> []
 |_::_,[],_=> []
section
variable {es: List Shp} {P: List Int} {c: Int}
theorem onP_app: ∀(A B:List Shp) (X Y:List Int) (c:Int),A.length=X.length->onP (A++B) (X++Y) c=onP A X c++onP B Y c
  | [],B, [],Y,c,_=>rfl
  | s :: A, B, x :: X, Y, c, h => by
    have ih:=onP_app A B X Y c (by simpa using h)
    simp only[List.cons_append,onP]
    split
    · rw[ih];rfl
    · exact ih
  | [],_,_::_,_,_,h=>by simp at h
  |_::_,_, [],_,_,h=>by simp at h
theorem onP_snoc{k:Nat}{s:Shp}{a:Int}(h1:es[k]? =some s)(h2:P[k]? =some a):onP (es.take (k+1)) (P.take (k+1)) c=onP (es.take k) (P.take k) c++(if a=c then [s]else []):=by
 have l1:=(List.getElem?_eq_some_iff.mp h1).1
 have l2:=(List.getElem?_eq_some_iff.mp h2).1
 rw[List.take_add_one,List.take_add_one,h1,h2,onP_app _ _ _ _ _ (by simp;omega)]
 rfl
theorem onP_min(es:List Shp)(P:List Int)(c:Int):onP (es.take (min es.length P.length)) (P.take (min es.length P.length)) c=onP es P c:=by
  induction es generalizing P with
  |nil=>simp[onP]
  | cons s es ih =>
    cases P with
    |nil=>simp[onP]
    | cons a P =>
      have:=ih P;simp only[List.length_cons,Nat.succ_min_succ,List.take_succ_cons,onP,this]
theorem onP_sub: ∀(es:List Shp) (P:List Int) (c:Int),(onP es P c).Sublist es
  | [],_,_=>by simp[onP]
  |_::_, [],_=>by simp[onP]
  | s :: es, a :: P, c => by
    have:=onP_sub es P c;simp only[onP]
    split
    · exact this.cons_cons s
    · exact this.cons s
theorem onP_len(es:List Shp)(P:List Int)(c:Int):(onP es P c).length<=es.length:=(onP_sub es P c).length_le
theorem onP_none: ∀{es:List Shp} {P:List Int} {c:Int},(∀x∈P,x≠c)->onP es P c= []
  | [],_,_,_=>rfl
  |_::_, [],_,_=>rfl
  | s :: es, a :: P, c, h => by
    simp only[onP];rw[if_neg (h a (List.mem_cons_self ..))];exact onP_none (fun x hx=>h x (List.mem_cons_of_mem _ hx))
theorem onP_all: ∀{es:List Shp} {P:List Int} {c:Int},P.length=es.length->(∀x∈P,x=c)->onP es P c=es
  | [],_,_,_,_=>rfl
  |_::_, [],_,h,_=>by simp at h
  | s :: es, a :: P, c, h, hx => by
    simp only[onP];rw[if_pos (hx a (List.mem_cons_self ..)),onP_all (by simpa using h) (fun x hx'=>hx x (List.mem_cons_of_mem _ hx'))]
theorem list_cut{α:Type}{l:List α}{i:Nat}{x:α}(h:l[i]? =some x):l=l.take i++x::l.drop (i+1):=by
 obtain⟨hl,e⟩:=List.getElem?_eq_some_iff.mp h
 rw[<-e,<-List.drop_eq_getElem_cons hl,List.take_append_drop]
theorem onP_put{i:Nat}{s:Shp}{a:Int}(h1:es[i]? =some s)(h2:P[i]? =some a)(hne:a≠c):(onP es (P.set i c) c).Perm (onP es P c++ [s]):=by
 have l1:=(List.getElem?_eq_some_iff.mp h1).1
 have l2:=(List.getElem?_eq_some_iff.mp h2).1
 have e3:(P.set i c)=P.take i++c::P.drop (i+1):=by rw[List.set_eq_take_append_cons_drop,if_pos l2]
 have e0:es=es.take i++s::es.drop (i+1):=list_cut h1;have e2:P=P.take i++a::P.drop (i+1):=list_cut h2;have hl:(es.take i).length=(P.take i).length:=by simp;omega
 have q1:onP es (P.set i c) c=onP (es.take i) (P.take i) c++s::onP (es.drop (i+1)) (P.drop (i+1)) c:=by
  rw[e3];conv=>lhs;rw[e0]
  rw[onP_app _ _ _ _ _ hl];simp[onP]
 have q2:onP es P c=onP (es.take i) (P.take i) c++onP (es.drop (i+1)) (P.drop (i+1)) c:=by
  conv=>lhs;rw[e0,e2]
  rw[onP_app _ _ _ _ _ hl];simp[onP,hne]
 rw[q1,q2,List.append_assoc];exact(List.Perm.append_left _ (List.perm_append_comm (l₁:=[s])))
theorem onP_keep{i:Nat}{a b:Int}(h2:P[i]? =some a)(hne:a≠c)(hb:b≠c):onP es (P.set i b) c=onP es P c:=by
 have l2:=(List.getElem?_eq_some_iff.mp h2).1
 by_cases l1:i<es.length
 ·obtain ⟨s,h1⟩: ∃ s,es[i]? = some s:=⟨_,List.getElem?_eq_getElem l1⟩
  have e3:(P.set i b)=P.take i++b::P.drop (i+1):=by rw[List.set_eq_take_append_cons_drop,if_pos l2]
  have e0:es=es.take i++s::es.drop (i+1):=list_cut h1;have e2:P=P.take i++a::P.drop (i+1):=list_cut h2;have hl:(es.take i).length=(P.take i).length:=by simp;omega
  have q1:onP es (P.set i b) c=onP (es.take i) (P.take i) c++onP (es.drop (i+1)) (P.drop (i+1)) c:=by
   rw[e3];conv=>lhs;rw[e0]
   rw[onP_app _ _ _ _ _ hl];simp[onP,hb]
  have q2:onP es P c=onP (es.take i) (P.take i) c++onP (es.drop (i+1)) (P.drop (i+1)) c:=by
   conv=>lhs;rw[e0,e2]
   rw[onP_app _ _ _ _ _ hl];simp[onP,hne]
  rw[q1,q2]
 ·rw [<- onP_min,<- onP_min es P]
  rw[List.length_set];congr 1;rw[List.take_set,List.set_eq_of_length_le];rw[List.length_take];omega
theorem onP_drop{i:Nat}{s:Shp}{a:Int}(h1:es[i]? =some s)(h2:P[i]? =some a)(h:FitE (onP es P c)):FitE (onP (es.take i++es.drop (i+1)) (P.take i++P.drop (i+1)) c):=by
 have l1:=(List.getElem?_eq_some_iff.mp h1).1
 have l2:=(List.getElem?_eq_some_iff.mp h2).1
 have hl:(es.take i).length=(P.take i).length:=by simp;omega
 have q2:onP es P c=onP (es.take i) (P.take i) c++onP (s::es.drop (i+1)) (a::P.drop (i+1)) c:=by
  conv=>lhs;rw[list_cut h1,list_cut h2]
  rw[onP_app _ _ _ _ _ hl]
 rw[q2]at h;rw[onP_app _ _ _ _ _ hl];simp only[onP]at h
 split at h
 ·exact fit_cut h
 ·exact h
end
def fstP(p:Nat->Prop)(n c:Nat):Prop:=c<n/\p c/\ ∀k,k<c-> ¬p k
theorem fstP_or(p:Nat->Prop): ∀n:Nat,(∃c,fstP p n c)\/ ∀k,k<n-> ¬p k
  |0=> .inr fun k h=>by omega
  | n + 1 => by
    rcases fstP_or p n with⟨c,h1,h2,h3⟩|h
    · exact .inl ⟨c,by omega,h2,h3⟩
    · by_cases hp:p n
      · exact .inl ⟨n,by omega,hp,h⟩
      · exact .inr fun k hk=>by
          by_cases e:k=n
          · rw[e];exact hp
          · exact h k (by omega)
theorem fstP_one{p:Nat->Prop}{n m c d:Nat}(h1:fstP p n c)(h2:fstP p m d):c=d:=by
 rcases Nat.lt_trichotomy c d with h|h|h
 ·exact absurd h1.2.1 (h2.2.2 c h)
 ·exact h
 ·exact absurd h2.2.1 (h1.2.2 d h)
def FitP(es:List Shp)(P:List Int)(i c:Nat):Prop:=∃ s,es[i]? =some s/\FitE (onP es P (c:Int)++ [s])
inductive Plc (es:List Shp) (m:Nat):List Nat->List Int->Option (List Int)->Prop
 |done (P:List Int):Plc es m [] P (some P)
 |full {i:Nat} {o:List Nat} {P:List Int} (h: ∀c,c<m-> ¬FitP es P i c):Plc es m (i::o) P none
 |next{i c:Nat} {o:List Nat} {P:List Int} {R:Option (List Int)} (h:fstP (FitP es P i) m c) (hr:Plc es m o (P.set i (c:Int)) R):Plc es m (i::o) P R
theorem plc_is(es:List Shp)(m:Nat): ∀(o:List Nat) (P:List Int),∃R,Plc es m o P R
  | [],P=>⟨_, .done P⟩
  | i :: o, P => by
    rcases fstP_or (FitP es P i) m with⟨c,h⟩|h
    · obtain⟨R,hR⟩:=plc_is es m o (P.set i (c:Int));exact⟨R, .next h hR⟩
    · exact⟨none, .full h⟩
theorem Plc.same{es:List Shp}{m:Nat}{o:List Nat}{P:List Int}{R:Option (List Int)}(h:Plc es m o P R): ∀{R':Option (List Int)},Plc es m o P R'->R=R':=by
  induction h with
  |done P=>intro R' h;cases h;rfl
  | full h =>
    intro R' h';cases h' with
    |full _=>rfl
    |next h2 _=>exact absurd h2.2.1 (h _ h2.1)
  | next h _ ih =>
    intro R' h';cases h' with
    |full h2=>exact absurd h.2.1 (h2 _ h.1)
    | next h2 hr =>
      obtain rfl:=fstP_one h h2;exact ih hr
theorem Plc.more{es:List Shp}{m:Nat}{o:List Nat}{P:List Int}{R:Option (List Int)}(h:Plc es m o P R): ∀{F:List Int},R=some F->Plc es (m+1) o P (some F):=by
 induction h with
 |done P=>intro F e;cases e;exact .done _
 |full h=>intro F e;cases e
 |next h _ ih=>intro F e;exact .next ⟨Nat.lt_succ_of_lt h.1,h.2⟩ (ih e)
theorem Plc.keep{es:List Shp}{m:Nat}{o:List Nat}{P:List Int}{R:Option (List Int)}(h:Plc es m o P R): ∀{F:List Int},R=some F-> ∀j,j∉o->F[j]? =P[j]? :=by
  induction h with
  |done P=>intro F e j _;cases e;rfl
  |full h=>intro F e;cases e
  | next h _ ih =>
    intro F e j hj;rw[ih e j (fun q=>hj (List.mem_cons_of_mem _ q)),List.getElem?_set_ne (fun q=>hj (by rw[q];exact List.mem_cons_self ..))]
structure OnOk(es:List Shp)(m:Nat)(o:List Nat)(P:List Int):Prop where
 len:P.length=es.length
 nd:o.Nodup
 lt: ∀i∈o,i<es.length
 no: ∀i∈o,P[i]? =some (-1)
 yes: ∀i,i∉o-> ∀a,P[i]? =some a->0<=a/\a<m
 fit: ∀c:Nat,FitE (onP es P (c:Int))
section
variable {es: List Shp} {m: Nat} {P: List Int}
theorem OnOk.start(es:List Shp)(m:Nat){o:List Nat}(h:o.Perm (List.range es.length)):OnOk es m o (List.replicate es.length (-1)):=by
 have hm: ∀i,i∈o↔i<es.length:=fun i=>by rw[h.mem_iff,List.mem_range]
 refine⟨by simp,h.nodup_iff.mpr List.nodup_range,fun i hi=>(hm i).mp hi,fun i hi=> ?_,fun i hi a ha=> ?_,fun c=> ?_⟩
 ·rw[List.getElem?_replicate,if_pos ((hm i).mp hi)]
 ·have:=(List.getElem?_eq_some_iff.mp ha).1
  exact absurd ((hm i).mpr (by simpa using this)) hi
 ·rw [onP_none (fun x hx => by rw [(List.mem_replicate.mp hx).2]; omega)]
  exact fit_nil
theorem OnOk.next{i c:Nat}{o:List Nat}(h:OnOk es m (i::o) P)(hf:FitP es P i c)(hc:c<m):OnOk es m o (P.set i (c:Int)):=by
 obtain⟨hn1,hn2⟩:=List.nodup_cons.mp h.nd;have h0:=h.no i (List.mem_cons_self ..);have hl:=(List.getElem?_eq_some_iff.mp h0).1
 refine⟨by rw[List.length_set];exact h.len,hn2,fun j hj=>h.lt j (List.mem_cons_of_mem _ hj),fun j hj=> ?_,fun j hj a ha=> ?_,fun d=> ?_⟩
 ·rw [List.getElem?_set_ne (fun (q: i = j) => hn1 (by rw [q]; exact hj))]
  exact h.no j (List.mem_cons_of_mem _ hj)
 ·by_cases e: i = j
  ·subst e
   rw[List.getElem?_set_self hl]at ha
   injection ha with ha;omega
  ·rw [List.getElem?_set_ne e] at ha
   exact h.yes j (fun q=>by rcases List.mem_cons.mp q with q|q;exact e q.symm;exact hj q) a ha
 ·obtain ⟨s,hs,hF⟩:=hf
  by_cases e:d=c
  ·subst e
   exact fit_perm hF (onP_put hs h0 (by omega)).symm
  ·rw [onP_keep h0 (by omega) (by omega)]
   exact h.fit d
structure RightP(es:List Shp)(P:List Int)(m:Int):Prop where
 may:0<=m/\m<=8
 len:P.length=es.length
 at_: ∀a∈P,0<=a/\a<m
 fit: ∀c:Int,0<=c->c<m->FitE (onP es P c)
theorem Plc.right{o:List Nat}{R:Option (List Int)}(h:Plc es m o P R)(hm:m<=8): ∀{F:List Int},R=some F->OnOk es m o P->RightP es F m:=by
  induction h with
  | done P =>
    intro F e ho;cases e;refine⟨by omega,ho.len,fun a ha=> ?_,fun c h0 _=> ?_⟩
    · obtain⟨i,hi,e⟩:=List.mem_iff_getElem.mp ha;exact ho.yes i (by simp) a (by rw[List.getElem?_eq_getElem hi,e])
    · have:=ho.fit c.toNat;rw[Int.toNat_of_nonneg h0]at this;exact this
  |full h=>intro F e;cases e
  | next h _ ih =>
    intro F e ho;exact ih e (ho.next h.2.1 h.1)
theorem Plc.enough{o:List Nat}{R:Option (List Int)}(h:Plc es m o P R)(hM: ∀s∈es,LightS s):OnOk es m o P-> ∀k:Nat,(∀a∈P,a<k)->k+o.length<=m->R≠none:=by
  induction h with
  |done P=>intro _ _ _ _ e;cases e
  | @full i o P h =>
    intro ho k hk hl;rw[List.length_cons]at hl;have hi:=ho.lt i (List.mem_cons_self ..);refine absurd ⟨es[i],List.getElem?_eq_getElem hi,?_⟩ (h k (by omega))
    rw[onP_none (fun x hx=>by have:=hk x hx;omega)]
    exact fit_alone (hM _ (List.getElem_mem hi))
  | @next i c o P R h _ ih =>
    intro ho k hk hl;rw[List.length_cons]at hl;have hi:=ho.lt i (List.mem_cons_self ..);have hck:c<=k:=by
      apply Nat.le_of_not_lt
      intro hlt;refine h.2.2 k hlt ⟨es[i],List.getElem?_eq_getElem hi,?_⟩
      rw[onP_none (fun x hx=>by have:=hk x hx;omega)]
      exact fit_alone (hM _ (List.getElem_mem hi))
    refine ih (ho.next h.2.1 h.1) (k+1) (fun a ha=> ?_) (by omega)
    rcases List.mem_or_eq_of_mem_set ha with q|q
    · have:=hk a q;omega
    · omega
theorem Plc.one{o:List Nat}{R:Option (List Int)}(h:Plc es 1 o P R)(hF:FitE es):OnOk es 1 o P->R≠none:=by
  induction h with
  |done P=>intro _ e;cases e
  | @full i o P h =>
    intro ho;have hi:=ho.lt i (List.mem_cons_self ..);refine absurd ⟨es[i],List.getElem?_eq_getElem hi,?_⟩ (h 0 (by omega))
    have h0:=ho.no i (List.mem_cons_self ..);exact fit_perm (fit_sub hF (onP_sub es (P.set i ((0:Nat):Int)) _)) (onP_put (List.getElem?_eq_getElem hi) h0 (by omega))
  |next h _ ih=>intro ho;exact ih (ho.next h.2.1 h.1)
theorem RightP.one(h:RightP es P 1):FitE es:=by
 have:=h.fit 0 (by omega) (by omega)
 rw[onP_all h.len (fun x hx=>by have:=h.at_ x hx;omega)]at this
 exact this
theorem RightP.more{m:Int}(h:RightP es P m)(hm:m<8):RightP es P (m+1):=by
 refine⟨by have:=h.may;omega,h.len,fun a ha=>by have:=h.at_ a ha;omega,fun c h0 hc=> ?_⟩
 by_cases e:c=m
 ·subst e
  rw[onP_none (fun x hx=>by have:=h.at_ x hx;omega)]
  exact fit_nil
 ·exact h.fit c h0 (by omega)
theorem RightP.less{m:Int}(h:RightP es P m){i:Nat}(hi:i<es.length):RightP (es.take i++es.drop (i+1)) (P.take i++P.drop (i+1)) m:=by
 have hl:=h.len;refine⟨h.may,by simp;omega,fun a ha=> ?_,fun c h0 hc=>onP_drop (List.getElem?_eq_getElem hi) (List.getElem?_eq_getElem (by omega)) (h.fit c h0 hc)⟩
 rcases List.mem_append.mp ha with q|q
 ·exact h.at_ a (List.mem_of_mem_take q)
 ·exact h.at_ a (List.mem_of_mem_drop q)
end
end Go.Proofs.YtlfekmbalgkmeaaGreatDoor
