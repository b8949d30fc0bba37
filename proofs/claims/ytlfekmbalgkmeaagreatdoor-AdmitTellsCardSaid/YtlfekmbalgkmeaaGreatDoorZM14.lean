import Derived.Test.YtlfekmbalgkmeaaGreatDoorZM13
import Derived.Test.YtlfekmbalgkmeaaGreatDoorZM10
import Derived.Deep.RegionWith
set_option linter.unusedSimpArgs false
set_option linter.unnecessarySimpa false
set_option linter.unusedVariables false
set_option maxRecDepth 100000
set_option maxHeartbeats 8000000
namespace Go.Proofs.YtlfekmbalgkmeaaGreatDoor
open Go.RowKit
section
variable {P: Option Addr} {np pc: Nat} {E: Option Addr} {ne ec: Nat} {F: Option Addr} {nf fc: Nat} {R: Option Addr} {nr rc: Nat} {p q: Int}
structure BxE(w:World)(p q:Int)(P:Option Addr)(np pc:Nat)(E:Option Addr)(ne ec:Nat)(F:Option Addr)(nf fc:Nat)(R:Option Addr)(nr rc:Nat)(g:Nat)(x y:Int)(es:List (Int×Int))(w':World):Prop where
 b:BxD w p q P np pc E ne ec F nf fc R nr rc w'
 e0:w'.cell? ⟨g,0,none⟩=some (.int .i64 x)
 e1:w'.cell? ⟨g,1,none⟩=some (.int .i64 y)
 l:Pairs w' w.heap.size E es
theorem BxE.next{w w1 w2:World}{g:Nat}{x y:Int}{es:List (Int×Int)}(h:BxE w p q P np pc E ne ec F nf fc R nr rc g x y es w1)(hb:Below w1.heap.size w1 w2):BxE w p q P np pc E ne ec F nf fc R nr rc g x y es w2:=
 ⟨h.b.next hb,(hb.cell (World.block_lt_of_cell? _ _ h.e0)).trans h.e0,(hb.cell (World.block_lt_of_cell? _ _ h.e1)).trans h.e1,h.l.keep fun a ha=>hb.cell (Nat.lt_of_lt_of_le ha h.b.bel.size)⟩
theorem dedges_any(es:List (Int×Int))(r:Bool)(hr:r=true↔EdgesOk np es)(w:World)(hm:es.length=ne)(hl:ne<=1000)(hP:Pairs w w.heap.size E es):
  Calls Tryz.prog 122 #[.agg #[.int .i64 p,.int .i64 q,.slice P np pc,.slice E ne ec,.slice F nf fc,.slice R nr rc]] w fun e w'=>e= .returned (.bool r)/\Below w.heap.size w w':=by
 have B0:=Lib.hid (BxD.start w p q P np pc E ne ec F nf fc R nr rc);have HM:=Lib.hid hm;have HR:=Lib.hid hr;have HP:=Lib.hid hP;clear hP hm hr;go_enter Tryz.func122,Tryz.ntmps122;go_wp2;go_loopw [3] (fun v wr=> ∃k:Nat,k<=ne/\v= .int .i64 k/\Hid (BxD w p q P np pc E ne ec F nf fc R nr rc wr)/\Hid (EdgesOk np (es.take k))) (fun v _=>ne - (intOf v).toNat)
 case atStart=>exact⟨0,Nat.zero_le _,rfl,B0,Lib.hid ⟨fun e he=>by simp at he,fun e he=>by simp at he,by simp⟩⟩
 case round=>
  obtain⟨k,hk,rfl,BR,HE⟩:=hrel;obtain⟨c0,c1,c2,c3,c4,c5⟩:=BR.out.cells;have hlt0:=World.block_lt_of_cell? _ _ c0
  simp only at hlt0;clear B0
  by_cases hlt:k<ne
  ·have hPr:=HP.out.below BR.out.bel
   obtain⟨bk,off,⟨x,y⟩,rfl,hbg,hek,d1,d2⟩:=hPr.at_ (k:=k) (by rw[HM.out];exact hlt)
   simp only at d1 d2;have HS:=Lib.hid (edgesOk_snoc (n:=np) hek);have HBAD:=Lib.hid (fun h: ¬EdgesOk np (es.take (k+1))=>show r=false by
    rw[<-Bool.not_eq_true];exact fun z=>h (edgesOk_take (HR.out.mp z) _))
   have C1:=Lib.hid (dpart_any (P:=P) (np:=np) (pc:=pc) (E:=some ⟨bk,off,none⟩) (ne:=ne) (ec:=ec) (F:=F) (nf:=nf) (fc:=fc) (R:=R) (nr:=nr) (rc:=rc) (p:=p) (q:=q) x);have C2:=Lib.hid (dpart_any (P:=P) (np:=np) (pc:=pc) (E:=some ⟨bk,off,none⟩) (ne:=ne) (ec:=ec) (F:=F) (nf:=nf) (fc:=fc) (R:=R) (nr:=nr) (rc:=rc) (p:=p) (q:=q) y);have X1:Hid (BxE w p q P np pc (some ⟨bk,off,none⟩) ne ec F nf fc R nr rc wr.heap.size x y es (wr.alloc (.cells #[.int .i64 x,.int .i64 y] 131))):=
    Lib.hid ⟨BR.out.next (below_alloc _),by rw[World.cell?_alloc_at _ _ _ _ rfl];rfl,by rw[World.cell?_alloc_at _ _ _ _ rfl];rfl,hPr.keep fun a ha=>World.cell?_alloc_lt _ _ _ (Nat.lt_of_lt_of_le ha BR.out.bel.size)⟩
   clear hek hPr
   by_cases p1:0<=x/\x<np
   ·simp only [decide_eq_true p1] at C1
    by_cases p2:0<=y/\y<np
    ·simp only [decide_eq_true p2] at C2
     by_cases p3:x=y
     ·have HX:=Lib.hid (HBAD.out (fun z => ((HS.out.mp z).2.2.2.1) p3))
      subst p3;clear p1 p2;go_wp2_with fail;refine(C1.out _).mono ?_
      rintro e w2 ⟨rfl,b2⟩;have X2:=Lib.hid (X1.out.next b2);clear b2 c0 c1 c2 c3 c4 c5 d1 d2;obtain⟨c0,c1,c2,c3,c4,c5⟩:=X2.out.b.cells;have e0:=X2.out.e0;have e1:=X2.out.e1;go_wp2_with fail;refine(C2.out _).mono ?_
      rintro e w3 ⟨rfl,b3⟩;have X3:=Lib.hid (X2.out.next b3);clear b3 c0 c1 c2 c3 c4 c5 e0 e1;have e0:=X3.out.e0;have e1:=X3.out.e1;go_wp2;go_ret;exact⟨by rw[HX.out];rfl,X3.out.b.bel⟩
     ·have h3: (x == y) = false:=by simpa using p3
      have HP3:=Lib.hid p3;have HP1:=Lib.hid p1;have HP2:=Lib.hid p2;clear p1 p2 p3;go_wp2_with fail;refine(C1.out _).mono ?_
      rintro e w2 ⟨rfl,b2⟩;have X2:=Lib.hid (X1.out.next b2);clear b2 c0 c1 c2 c3 c4 c5 d1 d2;obtain⟨c0,c1,c2,c3,c4,c5⟩:=X2.out.b.cells;have e0:=X2.out.e0;have e1:=X2.out.e1;go_wp2_with fail;refine(C2.out _).mono ?_
      rintro e w3 ⟨rfl,b3⟩;have X3:=Lib.hid (X2.out.next b3);clear b3 c0 c1 c2 c3 c4 c5 e0 e1 X1 X2;have e0:=X3.out.e0;have e1:=X3.out.e1;go_wp2;go_loopw [5] (fun v wq=> ∃t:Nat,t<=k/\v= .int .i64 t/\Hid (BxE w p q P np pc (some ⟨bk,off,none⟩) ne ec F nf fc R nr rc wr.heap.size x y es wq)/\Hid ((x,y)∉es.take t)) (fun v _=>k - (intOf v).toNat)
      case atStart=>exact⟨0,Nat.zero_le _,rfl,X3,Lib.hid (by simp)⟩
      case round=>
       clear e0 e1;obtain⟨t,ht,rfl,XQ,HNO⟩:=hrel
       by_cases hlt3:t<k
       ·obtain ⟨bk2,o2,⟨u,v⟩,hfe,hbg2,heq,d1,d2⟩:=XQ.out.l.at_ (k:=t) (by rw [HM.out]; omega)
        obtain⟨rfl,rfl⟩:bk2=bk/\o2=off:=by injection hfe with h;injection h with h1 h2 _;exact⟨h1.symm,h2.symm⟩
        simp only at d1 d2;obtain⟨b0,b1,b2,b3,b4,b5⟩:=XQ.out.b.cells;have n3:=near_cell b3;have n4:=near_cell XQ.out.e0;have n5:=near_cell XQ.out.e1;have n6:=near_cell d1;have n7:=near_cell d2;have htm:t<ne:=by omega
        have HEQ:=Lib.hid heq;have HMS:=Lib.hid (mem_take_snoc (x:=(x,y)) heq);clear hfe b0 b1 b2 b3 b4 b5 d1 d2 heq
        by_cases hu:u=x
        ·by_cases hv: v = y
         ·have HX:=Lib.hid (HBAD.out (fun z => (HS.out.mp z).2.2.2.2 (by
           subst hu hv;exact List.mem_of_getElem? (i:=t) (by rw[List.getElem?_take,if_pos hlt3];exact HEQ.out))))
          subst hu hv;go_wp2;refine wp_region_near _ (by kernel_rfl) (by kernel_rfl) (Nat.le_refl _) ?_
          repeat (go_big_quiet_step (fail))
          refine wpQuiet_nil ?_
          intro W hW;have XW:=Lib.hid (XQ.out.next hW);clear hW;go_wp2;go_ret;exact⟨by rw[HX.out];rfl,XW.out.b.bel⟩
         ·have hb: (v == y) = false:=by simpa using hv
          have HV:=Lib.hid hv;subst hu;clear hv;go_wp2;refine wp_region_near _ (by kernel_rfl) (by kernel_rfl) (Nat.le_refl _) ?_
          repeat (go_big_quiet_step (fail))
          refine wpQuiet_nil ?_
          intro W hW;have XW:=Lib.hid (XQ.out.next hW);clear hW;go_wp2;go_roundw
          case rel=>exact⟨t+1,by omega,by go_num,XW,Lib.hid (by rw[HMS.out];rintro(h|h);exact HNO.out h;injection h with _ h;exact HV.out h.symm)⟩
          case measure=>simp[intOf];omega
        ·have hb: (u == x) = false:=by simpa using hu
         have HU:=Lib.hid hu;clear hu;go_wp2;refine wp_region_near _ (by kernel_rfl) (by kernel_rfl) (Nat.le_refl _) ?_
         repeat (go_big_quiet_step (fail))
         refine wpQuiet_nil ?_
         intro W hW;have XW:=Lib.hid (XQ.out.next hW);clear hW;go_wp2;go_roundw
         case rel=>exact⟨t+1,by omega,by go_num,XW,Lib.hid (by rw[HMS.out];rintro(h|h);exact HNO.out h;injection h with h _;exact HU.out h.symm)⟩
         case measure=>simp[intOf];omega
       ·have e: t = k:=by omega
        have HOK:=Lib.hid (HS.out.mpr ⟨HE.out,HP1.out,HP2.out,HP3.out,by rw[<-e];exact HNO.out⟩)
        clear e;go_wp2;go_roundw
        case rel=>exact⟨k+1,by omega,by go_num,Lib.hid XQ.out.b,HOK⟩
        case measure=>simp[intOf];omega
    ·simp only [decide_eq_false p2] at C2
     have HX:=Lib.hid (HBAD.out (fun z=>p2 (HS.out.mp z).2.2.1))
     clear p1 p2;go_wp2_with fail;refine(C1.out _).mono ?_
     rintro e w2 ⟨rfl,b2⟩;have X2:=Lib.hid (X1.out.next b2);clear b2 c0 c1 c2 c3 c4 c5 d1 d2;obtain⟨c0,c1,c2,c3,c4,c5⟩:=X2.out.b.cells;have e0:=X2.out.e0;have e1:=X2.out.e1;go_wp2_with fail;refine(C2.out _).mono ?_
     rintro e w3 ⟨rfl,b3⟩;have X3:=Lib.hid (X2.out.next b3);clear b3 c0 c1 c2 c3 c4 c5 e0 e1;go_wp2;go_ret;exact⟨by rw[HX.out];rfl,X3.out.b.bel⟩
   ·simp only [decide_eq_false p1] at C1
    have HX:=Lib.hid (HBAD.out (fun z=>p1 (HS.out.mp z).2.1))
    clear p1;go_wp2_with fail;refine(C1.out _).mono ?_
    rintro e w2 ⟨rfl,b2⟩;have X2:=Lib.hid (X1.out.next b2);clear b2 c0 c1 c2 c3 c4 c5 d1 d2;go_wp2;go_ret;exact⟨by rw[HX.out];rfl,X2.out.b.bel⟩
  ·have e: ne = k:=by omega
   subst e;have HYES:=Lib.hid (show r=true from HR.out.mpr (by
    have h:=HE.out
    rwa [List.take_of_length_le (by rw[HM.out];omega)]at h))
   go_wp2;go_ret
   exact⟨by rw[HYES.out];rfl,BR.out.bel⟩
end
structure FutOne(ps:List (Int×Int×Int))(f:Int×Int×Int):Prop where
 maker:0<=f.1/\f.1<ps.length
 user:0<=f.2.1/\f.2.1<ps.length
 apart:f.1≠f.2.1
 first:1<=f.2.2
 last: ∀e,ps[f.2.1.toNat]? =some e->f.2.2<e.2.2
structure FutsOk(ps fs:List (Int×Int×Int)):Prop where
 each: ∀f∈fs,FutOne ps f
 once:(fs.map fun f=>f.2).Nodup
theorem futsOk_take{ps fs:List (Int×Int×Int)}(h:FutsOk ps fs)(j:Nat):FutsOk ps (fs.take j):=
 ⟨fun f hf=>h.each f (List.mem_of_mem_take hf),h.once.sublist ((List.take_sublist j fs).map _)⟩
theorem futsOk_snoc{ps fs:List (Int×Int×Int)}{j:Nat}{f:Int×Int×Int}(h:fs[j]? =some f):FutsOk ps (fs.take (j+1))↔FutsOk ps (fs.take j)/\FutOne ps f/\f.2∉(fs.take j).map fun f=>f.2:=by
 rw[take_snoc' h];constructor
 ·rintro ⟨k1,k2⟩
  rw[List.map_append,List.nodup_append]at k2;exact⟨⟨fun x hx=>k1 x (by simp[hx]),k2.1⟩,k1 f (by simp),fun hm=>k2.2.2 _ hm f.2 (by simp) rfl⟩
 ·rintro ⟨⟨k1,k2⟩,q1,q2⟩
  refine⟨fun x hx=> ?_,?_⟩
  ·rcases List.mem_append.mp hx with hx | hx
   ·exact k1 x hx
   ·obtain rfl: x = f:=by simpa using hx
    exact q1
  ·rw [List.map_append,List.nodup_append]
   refine⟨k2,by simp,fun a ha b hb=> ?_⟩
   obtain rfl:b=f.2:=by simpa using hb
   exact fun e=>q2 (e▸ha)
theorem map_take_snoc{fs:List (Int×Int×Int)}{t:Nat}{f:Int×Int×Int}{a:Int×Int}(h:fs[t]? =some f):a∈(fs.take (t+1)).map (fun f=>f.2)↔a∈(fs.take t).map (fun f=>f.2)\/a=f.2:=by
 rw[take_snoc' h,List.map_append,List.mem_append];simp
section
variable {P: Option Addr} {np pc: Nat} {E: Option Addr} {ne ec: Nat} {F: Option Addr} {nf fc: Nat} {R: Option Addr} {nr rc: Nat} {p q: Int}
structure BxFd(w:World)(p q:Int)(P:Option Addr)(np pc:Nat)(E:Option Addr)(ne ec:Nat)(F:Option Addr)(nf fc:Nat)(R:Option Addr)(nr rc:Nat)(g:Nat)(x y z:Int)(ps fs:List (Int×Int×Int))(w':World):Prop where
 b:BxD w p q P np pc E ne ec F nf fc R nr rc w'
 e0:w'.cell? ⟨g,0,none⟩=some (.int .i64 x)
 e1:w'.cell? ⟨g,1,none⟩=some (.int .i64 y)
 e2:w'.cell? ⟨g,2,none⟩=some (.int .i64 z)
 l:Trips w' w.heap.size P ps
 f:Trips w' w.heap.size F fs
theorem BxFd.next{w w1 w2:World}{g:Nat}{x y z:Int}{ps fs:List (Int×Int×Int)}(h:BxFd w p q P np pc E ne ec F nf fc R nr rc g x y z ps fs w1)(hb:Below w1.heap.size w1 w2):BxFd w p q P np pc E ne ec F nf fc R nr rc g x y z ps fs w2:=
 ⟨h.b.next hb,(hb.cell (World.block_lt_of_cell? _ _ h.e0)).trans h.e0,(hb.cell (World.block_lt_of_cell? _ _ h.e1)).trans h.e1,(hb.cell (World.block_lt_of_cell? _ _ h.e2)).trans h.e2,h.l.keep fun a ha=>hb.cell (Nat.lt_of_lt_of_le ha h.b.bel.size),h.f.keep fun a ha=>hb.cell (Nat.lt_of_lt_of_le ha h.b.bel.size)⟩
theorem dfutures_any(ps fs:List (Int×Int×Int))(r:Bool)(hr:r=true↔FutsOk ps fs)(w:World)(hn:ps.length=np)(hl0:np<=1000)(hm:fs.length=nf)(hl:nf<=1000)(hT:Trips w w.heap.size P ps)(hP:Trips w w.heap.size F fs):
  Calls Tryz.prog 123 #[.agg #[.int .i64 p,.int .i64 q,.slice P np pc,.slice E ne ec,.slice F nf fc,.slice R nr rc]] w fun e w'=>e= .returned (.bool r)/\Below w.heap.size w w':=by
 have B0:=Lib.hid (BxD.start w p q P np pc E ne ec F nf fc R nr rc);have HN:=Lib.hid hn;have HM:=Lib.hid hm;have HR:=Lib.hid hr;have HP:=Lib.hid hP;have HT:=Lib.hid hT;clear hP hm hr hT hn;go_enter Tryz.func123,Tryz.ntmps123;go_wp2;go_loopw [3] (fun v wr=> ∃k:Nat,k<=nf/\v= .int .i64 k/\Hid (BxD w p q P np pc E ne ec F nf fc R nr rc wr)/\Hid (FutsOk ps (fs.take k))) (fun v _=>nf - (intOf v).toNat)
 case atStart=>exact⟨0,Nat.zero_le _,rfl,B0,Lib.hid ⟨fun e he=>by simp at he,by simp⟩⟩
 case round=>
  obtain⟨k,hk,rfl,BR,HE⟩:=hrel;obtain⟨c0,c1,c2,c3,c4,c5⟩:=BR.out.cells;have hlt0:=World.block_lt_of_cell? _ _ c0
  simp only at hlt0;clear B0
  by_cases hlt:k<nf
  ·have hPr:=HP.out.below BR.out.bel
   obtain⟨bk,off,x,y,z,rfl,hbg,hek,d1,d2,d3⟩:=hPr.at_ (k:=k) (by rw[HM.out];exact hlt)
   have HS:=Lib.hid (futsOk_snoc (ps:=ps) hek);have HBAD:=Lib.hid (fun h: ¬FutsOk ps (fs.take (k+1))=>show r=false by
    rw[<-Bool.not_eq_true];exact fun z=>h (futsOk_take (HR.out.mp z) _))
   have C1:=Lib.hid (dpart_any (P:=P) (np:=np) (pc:=pc) (E:=E) (ne:=ne) (ec:=ec) (F:=some ⟨bk,off,none⟩) (nf:=nf) (fc:=fc) (R:=R) (nr:=nr) (rc:=rc) (p:=p) (q:=q) x);have C2:=Lib.hid (dpart_any (P:=P) (np:=np) (pc:=pc) (E:=E) (ne:=ne) (ec:=ec) (F:=some ⟨bk,off,none⟩) (nf:=nf) (fc:=fc) (R:=R) (nr:=nr) (rc:=rc) (p:=p) (q:=q) y);have X1:Hid (BxFd w p q P np pc E ne ec (some ⟨bk,off,none⟩) nf fc R nr rc wr.heap.size x y z ps fs (wr.alloc (.cells #[.int .i64 x,.int .i64 y,.int .i64 z] 156))):=
    Lib.hid ⟨BR.out.next (below_alloc _),by rw[World.cell?_alloc_at _ _ _ _ rfl];rfl,by rw[World.cell?_alloc_at _ _ _ _ rfl];rfl,by rw[World.cell?_alloc_at _ _ _ _ rfl];rfl,(HT.out.below BR.out.bel).keep fun a ha=>World.cell?_alloc_lt _ _ _ (Nat.lt_of_lt_of_le ha BR.out.bel.size),hPr.keep fun a ha=>World.cell?_alloc_lt _ _ _ (Nat.lt_of_lt_of_le ha BR.out.bel.size)⟩
   obtain⟨a0,a1,a2,a3,a4,a5⟩:=X1.out.b.cells;have n0:=near_cell a0;have n1:=near_cell a1;have n2:=near_cell a2;have n3:=near_cell a3;have n4:=near_cell a4;have n5:=near_cell a5;have n6:=near_cell X1.out.e0;have n7:=near_cell X1.out.e1;have n8:=near_cell X1.out.e2;clear hek hPr a0 a1 a2 a3 a4 a5
   by_cases p1:0<=x/\x<np
   ·simp only [decide_eq_true p1] at C1
    by_cases p2:0<=y/\y<np
    ·simp only [decide_eq_true p2] at C2
     by_cases p3:x=y
     ·have HX:=Lib.hid (HBAD.out (fun z => (HS.out.mp z).2.1.apart p3))
      subst p3;clear p1 p2;go_wp2_with fail;refine wp_region_near _ (by kernel_rfl) (by kernel_rfl) (Nat.le_refl _) ?_
      repeat (go_big_quiet_step (first
       |(go_at_call_of 158 (Value.int .i64 x);exact near_of (C1.out _) (Nat.le_refl _))
       |(go_at_call_of 158 (Value.int .i64 x);exact near_of (C2.out _) (Nat.le_refl _))))
      refine wpQuiet_nil ?_
      intro W hW;have X2:=Lib.hid (X1.out.next hW);clear hW c0 c1 c2 c3 c4 c5 d1 d2 d3;go_wp2;go_ret;exact⟨by rw[HX.out];rfl,X2.out.b.bel⟩
     ·have h3: (x == y) = false:=by simpa using p3
      by_cases p4:1<=z
      ·have g4: decide (z < 1) = false:=by rw [decide_eq_false_iff_not]; omega
       obtain⟨u,rfl⟩: ∃u:Nat,y=(u:Int):=⟨y.toNat,by omega⟩
       have hu:u<np:=by omega
       obtain⟨bp,op,o1,o2,wk,rfl,hbp,hpk,f1,f2,f3⟩:=X1.out.l.at_ (k:=u) (by rw[HN.out];exact hu)
       have n9:=near_cell f3;clear f1 f2 f3
       by_cases p5:z<wk
       ·have g5: decide (wk <= z) = false:=by rw [decide_eq_false_iff_not]; omega
        have HF1:Hid (FutOne ps (x,(u:Int),z)):=Lib.hid ⟨by rw[HN.out];exact p1,by rw[HN.out];exact p2,p3,p4,fun e he=>by
         simp only[Int.toNat_natCast]at he;rw[hpk]at he;injection he with he;subst he;exact p5⟩
        have HPK:=Lib.hid hpk;clear p1 p2 p3 hpk;go_wp2_with fail;refine wp_region_near _ (by kernel_rfl) (by kernel_rfl) (Nat.le_refl _) ?_
        repeat (go_big_quiet_step (first
         |(go_at_call_of 158 (Value.int .i64 x);exact near_of (C1.out _) (Nat.le_refl _))
         |(go_at_call_of 158 (Value.int .i64 (u:Int));exact near_of (C2.out _) (Nat.le_refl _))))
        refine wpQuiet_nil ?_
        intro W hW;have X2:=Lib.hid (X1.out.next hW);clear hW c0 c1 c2 c3 c4 c5 d1 d2 d3;clear n0 n1 n2 n3 n4 n5 n6 n7 n8 n9 X1;go_wp2;go_loopw [5] (fun v wq=> ∃t:Nat,t<=k/\v= .int .i64 t/\Hid (BxFd w p q (some ⟨bp,op,none⟩) np pc E ne ec (some ⟨bk,off,none⟩) nf fc R nr rc wr.heap.size x u z ps fs wq)/\Hid (((u:Int),z)∉(fs.take t).map fun f=>f.2)) (fun v _=>k - (intOf v).toNat)
        case atStart=>exact⟨0,Nat.zero_le _,rfl,X2,Lib.hid (by simp)⟩
        case round=>
         obtain⟨t,ht,rfl,XQ,HNO⟩:=hrel
         by_cases hlt3:t<k
         ·obtain ⟨bk2,o2',u1,u2,u3,hfe,hbg2,heq,d1,d2,d3⟩:=XQ.out.f.at_ (k:=t) (by rw [HM.out]; omega)
          obtain⟨rfl,rfl⟩:bk2=bk/\o2'=off:=by injection hfe with h;injection h with h1 h2 _;exact⟨h1.symm,h2.symm⟩
          obtain⟨b0,b1,b2,b3,b4,b5⟩:=XQ.out.b.cells;have n3:=near_cell b4;have n4:=near_cell XQ.out.e1;have n5:=near_cell XQ.out.e2;have n6:=near_cell d2;have n7:=near_cell d3;have htm:t<nf:=by omega
          have HEQ:=Lib.hid heq;have HMS:=Lib.hid (map_take_snoc (a:=((u:Int),z)) heq);clear hfe b0 b1 b2 b3 b4 b5 d1 d2 d3 heq
          by_cases hu:u2=(u:Int)
          ·by_cases hv: u3 = z
           ·have HX:=Lib.hid (HBAD.out (fun zz => (HS.out.mp zz).2.2 (by
             subst hu hv;exact List.mem_map.mpr ⟨(u1,(u:Int),u3),List.mem_of_getElem? (i:=t) (by rw[List.getElem?_take,if_pos hlt3];exact HEQ.out),rfl⟩)))
            subst hu hv;go_wp2;refine wp_region_near _ (by kernel_rfl) (by kernel_rfl) (Nat.le_refl _) ?_
            repeat (go_big_quiet_step (fail))
            refine wpQuiet_nil ?_
            intro W hW;have XW:=Lib.hid (XQ.out.next hW);clear hW;go_wp2;go_ret;exact⟨by rw[HX.out];rfl,XW.out.b.bel⟩
           ·have hb: (u3 == z) = false:=by simpa using hv
            have HV:=Lib.hid hv;subst hu;clear hv;go_wp2;refine wp_region_near _ (by kernel_rfl) (by kernel_rfl) (Nat.le_refl _) ?_
            repeat (go_big_quiet_step (fail))
            refine wpQuiet_nil ?_
            intro W hW;have XW:=Lib.hid (XQ.out.next hW);clear hW;go_wp2;go_roundw
            case rel=>exact⟨t+1,by omega,by go_num,XW,Lib.hid (by rw[HMS.out];rintro(h|h);exact HNO.out h;injection h with _ h;exact HV.out h.symm)⟩
            case measure=>simp[intOf];omega
          ·have hb: (u2 == (u: Int)) = false:=by simpa using hu
           have HU:=Lib.hid hu;clear hu;go_wp2;refine wp_region_near _ (by kernel_rfl) (by kernel_rfl) (Nat.le_refl _) ?_
           repeat (go_big_quiet_step (fail))
           refine wpQuiet_nil ?_
           intro W hW;have XW:=Lib.hid (XQ.out.next hW);clear hW;go_wp2;go_roundw
           case rel=>exact⟨t+1,by omega,by go_num,XW,Lib.hid (by rw[HMS.out];rintro(h|h);exact HNO.out h;injection h with h _;exact HU.out h.symm)⟩
           case measure=>simp[intOf];omega
         ·have e: t = k:=by omega
          have HOK:=Lib.hid (HS.out.mpr ⟨HE.out,HF1.out,by rw[<-e];exact HNO.out⟩)
          clear e;go_wp2;go_roundw
          case rel=>exact⟨k+1,by omega,by go_num,Lib.hid XQ.out.b,HOK⟩
          case measure=>simp[intOf];omega
       ·have g5: decide (wk <= z) = true:=by rw [decide_eq_true_iff]; omega
        have HX:=Lib.hid (HBAD.out (fun zz=>p5 ((HS.out.mp zz).2.1.last _ (by simpa using hpk))))
        clear p1 p2 p3 hpk;go_wp2_with fail;refine wp_region_near _ (by kernel_rfl) (by kernel_rfl) (Nat.le_refl _) ?_
        repeat (go_big_quiet_step (first
         |(go_at_call_of 158 (Value.int .i64 x);exact near_of (C1.out _) (Nat.le_refl _))
         |(go_at_call_of 158 (Value.int .i64 (u:Int));exact near_of (C2.out _) (Nat.le_refl _))))
        refine wpQuiet_nil ?_
        intro W hW;have X2:=Lib.hid (X1.out.next hW);clear hW c0 c1 c2 c3 c4 c5 d1 d2 d3;go_wp2;go_ret;exact⟨by rw[HX.out];rfl,X2.out.b.bel⟩
      ·have g4: decide (z < 1) = true:=by rw [decide_eq_true_iff]; omega
       have HX:=Lib.hid (HBAD.out (fun zz=>p4 (HS.out.mp zz).2.1.first))
       clear p1 p2 p3;go_wp2_with fail;refine wp_region_near _ (by kernel_rfl) (by kernel_rfl) (Nat.le_refl _) ?_
       repeat (go_big_quiet_step (first
        |(go_at_call_of 158 (Value.int .i64 x);exact near_of (C1.out _) (Nat.le_refl _))
        |(go_at_call_of 158 (Value.int .i64 y);exact near_of (C2.out _) (Nat.le_refl _))))
       refine wpQuiet_nil ?_
       intro W hW;have X2:=Lib.hid (X1.out.next hW);clear hW c0 c1 c2 c3 c4 c5 d1 d2 d3;go_wp2;go_ret;exact⟨by rw[HX.out];rfl,X2.out.b.bel⟩
    ·simp only [decide_eq_false p2] at C2
     have HX:=Lib.hid (HBAD.out (fun zz=>p2 (by have:=(HS.out.mp zz).2.1.user;rwa [HN.out]at this)))
     clear p1 p2;go_wp2_with fail;refine wp_region_near _ (by kernel_rfl) (by kernel_rfl) (Nat.le_refl _) ?_
     repeat (go_big_quiet_step (first
      |(go_at_call_of 158 (Value.int .i64 x);exact near_of (C1.out _) (Nat.le_refl _))
      |(go_at_call_of 158 (Value.int .i64 y);exact near_of (C2.out _) (Nat.le_refl _))))
     refine wpQuiet_nil ?_
     intro W hW;have X2:=Lib.hid (X1.out.next hW);clear hW c0 c1 c2 c3 c4 c5 d1 d2 d3;go_wp2;go_ret;exact⟨by rw[HX.out];rfl,X2.out.b.bel⟩
   ·simp only [decide_eq_false p1] at C1
    have HX:=Lib.hid (HBAD.out (fun zz=>p1 (by have:=(HS.out.mp zz).2.1.maker;rwa [HN.out]at this)))
    clear p1;go_wp2_with fail;refine wp_region_near _ (by kernel_rfl) (by kernel_rfl) (Nat.le_refl _) ?_
    repeat (go_big_quiet_step (first
     |(go_at_call_of 158 (Value.int .i64 x);exact near_of (C1.out _) (Nat.le_refl _))
     |(go_at_call_of 158 (Value.int .i64 y);exact near_of (C2.out _) (Nat.le_refl _))))
    refine wpQuiet_nil ?_
    intro W hW;have X2:=Lib.hid (X1.out.next hW);clear hW c0 c1 c2 c3 c4 c5 d1 d2 d3;go_wp2;go_ret;exact⟨by rw[HX.out];rfl,X2.out.b.bel⟩
  ·have e: nf = k:=by omega
   subst e;have HYES:=Lib.hid (show r=true from HR.out.mpr (by
    have h:=HE.out
    rwa [List.take_of_length_le (by rw[HM.out];omega)]at h))
   go_wp2;go_ret
   exact⟨by rw[HYES.out];rfl,BR.out.bel⟩
end
structure BarOne(np:Nat)(b:List Int×List Int):Prop where
 ins:RowOk np b.1
 outs:RowOk np b.2
 apart: ∀x∈b.1,x∉b.2
def BarsOk(np:Nat)(bs:List (List Int×List Int)):Prop:=∀ b∈bs,BarOne np b
theorem bars_step{np:Nat}{bs:List (List Int×List Int)}{k:Nat}{b:List Int×List Int}(h:BarsOk np (bs.take k))(hb:bs[k]? =some b)(h1:BarOne np b):BarsOk np (bs.take (k+1)):=by
 intro x hx;rw[List.take_add_one,hb]at hx;rcases List.mem_append.mp hx with hx|hx
 ·exact h x hx
 ·obtain rfl: x = b:=by simpa using hx
  exact h1
section
variable {P: Option Addr} {np pc: Nat} {E: Option Addr} {ne ec: Nat} {F: Option Addr} {nf fc: Nat} {R: Option Addr} {nr rc: Nat} {p q: Int}
structure BxBd(w:World)(p q:Int)(P:Option Addr)(np pc:Nat)(E:Option Addr)(ne ec:Nat)(F:Option Addr)(nf fc:Nat)(R:Option Addr)(nr rc:Nat)(g:Nat)(A1:Option Addr)(n1 c1:Nat)(A2:Option Addr)(n2 c2:Nat)(xs ys:List Int)(w':World):Prop where
 b:BxD w p q P np pc E ne ec F nf fc R nr rc w'
 e0:w'.cell? ⟨g,0,none⟩=some (.slice A1 n1 c1)
 e1:w'.cell? ⟨g,1,none⟩=some (.slice A2 n2 c2)
 xs:Ints w' w.heap.size A1 xs
 ys:Ints w' w.heap.size A2 ys
theorem BxBd.next{w w1 w2:World}{g:Nat}{A1:Option Addr}{n1 c1:Nat}{A2:Option Addr}{n2 c2:Nat}{xs ys:List Int}(h:BxBd w p q P np pc E ne ec F nf fc R nr rc g A1 n1 c1 A2 n2 c2 xs ys w1)(hb:Below w1.heap.size w1 w2):BxBd w p q P np pc E ne ec F nf fc R nr rc g A1 n1 c1 A2 n2 c2 xs ys w2:=
 ⟨h.b.next hb,(hb.cell (World.block_lt_of_cell? _ _ h.e0)).trans h.e0,(hb.cell (World.block_lt_of_cell? _ _ h.e1)).trans h.e1,h.xs.keep fun a ha=>hb.cell (Nat.lt_of_lt_of_le ha h.b.bel.size),h.ys.keep fun a ha=>hb.cell (Nat.lt_of_lt_of_le ha h.b.bel.size)⟩
theorem dbars_any(bs:List (List Int×List Int))(r:Bool)(hr:r=true↔BarsOk np bs)(w:World)(hm:bs.length=nr)(hl:nr<=1000)(hbl: ∀b∈bs,b.1.length<=900/\b.2.length<=900)(hB:Bars w w.heap.size R bs):
  Calls Tryz.prog 124 #[.agg #[.int .i64 p,.int .i64 q,.slice P np pc,.slice E ne ec,.slice F nf fc,.slice R nr rc]] w fun e w'=>e= .returned (.bool r)/\Below w.heap.size w w':=by
 have B0:=Lib.hid (BxD.start w p q P np pc E ne ec F nf fc R nr rc);have HM:=Lib.hid hm;have HR:=Lib.hid hr;have HBS:=Lib.hid hB;have HBL:=Lib.hid hbl;clear hB hm hr hbl;go_enter Tryz.func124,Tryz.ntmps124;go_wp2;go_loopw [3] (fun v wr=> ∃k:Nat,k<=nr/\v= .int .i64 k/\Hid (BxD w p q P np pc E ne ec F nf fc R nr rc wr)/\Hid (BarsOk np (bs.take k))) (fun v _=>nr - (intOf v).toNat)
 case atStart=>exact⟨0,Nat.zero_le _,rfl,B0,Lib.hid (fun b hb=>by simp at hb)⟩
 case round=>
  obtain⟨k,hk,rfl,BR,HN⟩:=hrel;obtain⟨c0,c1',c2',c3,c4,c5⟩:=BR.out.cells;have hlt0:=World.block_lt_of_cell? _ _ c0
  simp only at hlt0;clear B0
  by_cases hlt:k<nr
  ·have hBr:=HBS.out.below BR.out.bel
   obtain⟨bk,off,xs,ys,A1,n1,c1,A2,n2,c2,rfl,hbg,hek,hn1,hn2,d1,d2,hxs,hys,_,_⟩:=hBr.at_ (k:=k) (by rw[HM.out];exact hlt)
   have hb1:=HBL.out _ (List.mem_of_getElem? hek)
   simp only at hb1;rw[hn1,hn2]at hb1;have HEK:=Lib.hid hek;have HN1:=Lib.hid hn1;have HN2:=Lib.hid hn2;have HBAD:=Lib.hid (fun h: ¬BarOne np (xs,ys)=>show r=false by
    rw[<-Bool.not_eq_true];exact fun z=>h (HR.out.mp z _ (List.mem_of_getElem? hek)))
   have X1:Hid (BxBd w p q P np pc E ne ec F nf fc (some ⟨bk,off,none⟩) nr rc wr.heap.size A1 n1 c1 A2 n2 c2 xs ys (wr.alloc (.cells #[.slice A1 n1 c1,.slice A2 n2 c2] 97))):=
    Lib.hid ⟨BR.out.next (below_alloc _),by rw[World.cell?_alloc_at _ _ _ _ rfl];rfl,by rw[World.cell?_alloc_at _ _ _ _ rfl];rfl,hxs.keep fun a ha=>World.cell?_alloc_lt _ _ _ (Nat.lt_of_lt_of_le ha BR.out.bel.size),hys.keep fun a ha=>World.cell?_alloc_lt _ _ _ (Nat.lt_of_lt_of_le ha BR.out.bel.size)⟩
   have CR:=Lib.hid (fun(A:Option Addr) (c:Nat) (l:List Int) (len:Nat) (r:Bool) (hr:r=true↔RowOk np l) (W':World) hm hl hI=>drow_any (P:=P) (np:=np) (pc:=pc) (E:=E) (ne:=ne) (ec:=ec) (F:=F) (nf:=nf) (fc:=fc) (R:=some ⟨bk,off,none⟩) (nr:=nr) (rc:=rc) (p:=p) (q:=q) A c l len r hr W' hm hl hI)
   clear hek hn1 hn2 hxs hys hBr
   by_cases p1:RowOk np xs
   ·have HP1:=Lib.hid p1
    clear p1
    by_cases p2:RowOk np ys
    ·have HP2:=Lib.hid p2
     clear p2;go_wp2_with fail;refine(CR.out A1 c1 xs n1 true ⟨fun _=>HP1.out,fun _=>rfl⟩ _ HN1.out (by omega) (X1.out.xs.more (by have:=X1.out.b.bel.size;exact this))).mono ?_
     rintro e w2 ⟨rfl,b2⟩;have X2:=Lib.hid (X1.out.next b2);clear b2 c0 c1' c2' c3 c4 c5 d1 d2;obtain⟨c0,c1',c2',c3,c4,c5⟩:=X2.out.b.cells;have e0:=X2.out.e0;have e1:=X2.out.e1;go_wp2_with fail;refine(CR.out A2 c2 ys n2 true ⟨fun _=>HP2.out,fun _=>rfl⟩ _ HN2.out (by omega) (X2.out.ys.more (by have:=X2.out.b.bel.size;exact this))).mono ?_
     rintro e w3 ⟨rfl,b3⟩;have X3:=Lib.hid (X2.out.next b3);clear b3 c0 c1' c2' c3 c4 c5 e0 e1 X1 X2;go_wp2;go_loopw [5] (fun v wq=> ∃t:Nat,t<=n1/\v= .int .i64 t/\Hid (BxBd w p q P np pc E ne ec F nf fc (some ⟨bk,off,none⟩) nr rc wr.heap.size A1 n1 c1 A2 n2 c2 xs ys wq)/\Hid (∀x∈xs.take t,x∉ys)) (fun v _=>n1 - (intOf v).toNat)
     case atStart=>exact⟨0,Nat.zero_le _,rfl,X3,Lib.hid (by simp)⟩
     case round=>
      obtain⟨t,ht,rfl,XQ,HNO⟩:=hrel;clear X3;have e0:=XQ.out.e0;have e1:=XQ.out.e1
      by_cases hlt2:t<n1
      ·obtain ⟨bq,oq,z,rfl,hbq,hz,hcz⟩:=XQ.out.xs.at_ (k:=t) (by rw [HN1.out]; exact hlt2)
       have m0:=near_cell e0;have m1:=near_cell e1;have m2:=near_cell hcz;have CH:=Lib.hid (fun(x:Near wr.heap.size wr)=>has_any A2 c2 ys z x.W n2 HN2.out (by omega) (((XQ.out.ys.more XQ.out.b.bel.size).below x.h).more x.h.size))
       have HZ:=Lib.hid hz;clear hz hcz
       by_cases p3:z∈ys
       ·simp only [decide_eq_true p3] at CH
        have HX:=Lib.hid (HBAD.out (fun q=>q.apart z (List.mem_of_getElem? HZ.out) p3))
        clear p3;go_wp2;refine wp_region_near _ (by kernel_rfl) (by kernel_rfl) (Nat.le_refl _) ?_
        repeat (go_big_quiet_step (first
         |(go_at_call 26;exact near_same (CH.out _))))
        refine wpQuiet_nil ?_
        intro W hW;have XW:=Lib.hid (XQ.out.next hW);clear hW;go_wp2;go_ret;exact⟨by rw[HX.out];rfl,XW.out.b.bel⟩
       ·simp only [decide_eq_false p3] at CH
        have HNX:=Lib.hid p3;clear p3;go_wp2;refine wp_region_near _ (by kernel_rfl) (by kernel_rfl) (Nat.le_refl _) ?_
        repeat (go_big_quiet_step (first
         |(go_at_call 26;exact near_same (CH.out _))))
        refine wpQuiet_nil ?_
        intro W hW;have XW:=Lib.hid (XQ.out.next hW);clear hW;go_wp2;go_roundw
        case rel=>exact⟨t+1,by omega,by go_num,XW,Lib.hid (by
         intro x hx;rw[List.take_add_one,HZ.out]at hx;rcases List.mem_append.mp hx with hx|hx
         ·exact HNO.out x hx
         ·obtain rfl: x = z:=by simpa using hx
          exact HNX.out)⟩
        case measure=>simp[intOf];omega
      ·have e: t = n1:=by omega
       have HOK:=Lib.hid (bars_step HN.out HEK.out ⟨HP1.out,HP2.out,by
        have h:=HNO.out
        rwa [List.take_of_length_le (by rw[HN1.out,e];exact Nat.le_refl _)]at h⟩)
       clear e;go_wp2;go_roundw
       case rel=>exact⟨k+1,by omega,by go_num,Lib.hid XQ.out.b,HOK⟩
       case measure=>simp[intOf];omega
    ·have HP2:=Lib.hid p2
     have HX:=Lib.hid (HBAD.out (fun q=>p2 q.outs))
     clear p2;go_wp2_with fail;refine(CR.out A1 c1 xs n1 true ⟨fun _=>HP1.out,fun _=>rfl⟩ _ HN1.out (by omega) (X1.out.xs.more (by have:=X1.out.b.bel.size;exact this))).mono ?_
     rintro e w2 ⟨rfl,b2⟩;have X2:=Lib.hid (X1.out.next b2);clear b2 c0 c1' c2' c3 c4 c5 d1 d2;obtain⟨c0,c1',c2',c3,c4,c5⟩:=X2.out.b.cells;have e0:=X2.out.e0;have e1:=X2.out.e1;go_wp2_with fail;refine(CR.out A2 c2 ys n2 false ⟨fun q=>Bool.noConfusion q,fun q=>absurd q HP2.out⟩ _ HN2.out (by omega) (X2.out.ys.more (by have:=X2.out.b.bel.size;exact this))).mono ?_
     rintro e w3 ⟨rfl,b3⟩;have X3:=Lib.hid (X2.out.next b3);clear b3 c0 c1' c2' c3 c4 c5 e0 e1 X1 X2;go_wp2;go_ret;exact⟨by rw[HX.out];rfl,X3.out.b.bel⟩
   ·have HP1:=Lib.hid p1
    have HX:=Lib.hid (HBAD.out (fun q=>p1 q.ins))
    clear p1;go_wp2_with fail;refine(CR.out A1 c1 xs n1 false ⟨fun q=>Bool.noConfusion q,fun q=>absurd q HP1.out⟩ _ HN1.out (by omega) (X1.out.xs.more (by have:=X1.out.b.bel.size;exact this))).mono ?_
    rintro e w2 ⟨rfl,b2⟩;have X2:=Lib.hid (X1.out.next b2);clear b2 c0 c1' c2' c3 c4 c5 d1 d2;go_wp2;go_ret;exact⟨by rw[HX.out];rfl,X2.out.b.bel⟩
  ·have e: nr = k:=by omega
   subst e;have HYES:=Lib.hid (show r=true from HR.out.mpr (by
    have h:=HN.out
    rwa [List.take_of_length_le (by rw[HM.out];exact Nat.le_refl _)]at h))
   go_wp2;go_ret
   exact⟨by rw[HYES.out];rfl,BR.out.bel⟩
end
end Go.Proofs.YtlfekmbalgkmeaaGreatDoor
