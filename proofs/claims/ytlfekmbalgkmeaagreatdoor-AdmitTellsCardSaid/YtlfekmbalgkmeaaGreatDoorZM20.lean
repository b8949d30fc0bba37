import Derived.Test.YtlfekmbalgkmeaaGreatDoorZM19
import Derived.OneCell
import Derived.Test.YtlfekmbalgkmeaaGreatDoorZM18
import Derived.Test.YtlfekmbalgkmeaaGreatDoorZM6
import Derived.Shelf.SlSortCmp.Insertion
set_option linter.unusedSimpArgs false
set_option linter.unnecessarySimpa false
set_option linter.unusedVariables false
set_option maxRecDepth 100000
set_option maxHeartbeats 8000000
namespace Go.Proofs.YtlfekmbalgkmeaaGreatDoor
open Go.RowKit
theorem clash_any(x y z:Int)(v1 v2 v3:Int)(g:Nat)(r:Bool)(hr:r=true↔(y,z)=(v2,v3))(w:World)(h1:w.cell? ⟨g,1,none⟩=some (.int .i64 v2))(h2:w.cell? ⟨g,2,none⟩=some (.int .i64 v3)):
  Calls Tryz.prog 142 #[.agg #[.int .i64 x,.int .i64 y,.int .i64 z],.pointer (some ⟨g,0,none⟩)] w fun e w'=>e= .returned (.bool r)/\Below w.heap.size w w':=by
 have hg:=World.block_lt_of_cell? _ _ h1
 simp only at hg
 by_cases k1:y=v2
 ·have b1: (y == v2) = true:=by simpa using k1
  by_cases k2:z=v3
  ·obtain rfl: r = true:=hr.mpr (by rw [k1,k2])
   have b2:(z==v3)=true:=by simpa using k2
   clear hr k1 k2;go_enter Tryz.func142,Tryz.ntmps142;go_wp2;go_ret;exact⟨rfl,below_alloc _⟩
  ·obtain rfl: r = false:=by rw [<- Bool.not_eq_true]; exact fun h => k2 (by injection hr.mp h)
   have b2:(z==v3)=false:=by simpa using k2
   clear hr k1 k2;go_enter Tryz.func142,Tryz.ntmps142;go_wp2;go_ret;exact⟨rfl,below_alloc _⟩
 ·obtain rfl: r = false:=by rw [<- Bool.not_eq_true]; exact fun h => k1 (by injection hr.mp h)
  have b1:(y==v2)=false:=by simpa using k1
  clear hr k1;go_enter Tryz.func142,Tryz.ntmps142;go_wp2;go_ret;exact⟨rfl,below_alloc _⟩
structure BxF2(w:World)(P F:Option Addr)(g:Nat)(x y z:Int)(ps fs:List (Int×Int×Int))(w':World):Prop where
 bel:Below w.heap.size w w'
 e0:w'.cell? ⟨g,0,none⟩=some (.int .i64 x)
 e1:w'.cell? ⟨g,1,none⟩=some (.int .i64 y)
 e2:w'.cell? ⟨g,2,none⟩=some (.int .i64 z)
 l:Trips w' w.heap.size P ps
 f:Trips w' w.heap.size F fs
theorem BxF2.next{w w1 w2:World}{P F:Option Addr}{g:Nat}{x y z:Int}{ps fs:List (Int×Int×Int)}(h:BxF2 w P F g x y z ps fs w1)(hb:Below w1.heap.size w1 w2):BxF2 w P F g x y z ps fs w2:=
 ⟨h.bel.trans (hb.mono h.bel.size),(hb.cell (World.block_lt_of_cell? _ _ h.e0)).trans h.e0,(hb.cell (World.block_lt_of_cell? _ _ h.e1)).trans h.e1,(hb.cell (World.block_lt_of_cell? _ _ h.e2)).trans h.e2,h.l.keep fun a ha=>hb.cell (Nat.lt_of_lt_of_le ha h.bel.size),h.f.keep fun a ha=>hb.cell (Nat.lt_of_lt_of_le ha h.bel.size)⟩
theorem Trips.take{w:World}{B:Nat}{A:Option Addr}{es:List (Int×Int×Int)}(h:Trips w B A es)(k:Nat):Trips w B A (es.take k):=fun hn=>by
 obtain⟨b,off,e,hb,hc⟩:=h (by rw[List.length_take]at hn;omega)
 refine⟨b,off,e,hb,fun j x hx=>hc j x ?_⟩
 rw[List.getElem?_take]at hx
 split at hx
 ·exact hx
 ·cases hx
open Classical in
theorem ahead_any{w:World}{P F:Option Addr}{g:Nat}{x y z:Int}{ps fs:List (Int×Int×Int)}(fc nf k:Nat)(hm:fs.length=nf)(hk:k<=nf)(hl:nf<=1000)(r:Bool)(hr:r=true↔(y,z)∈(fs.take k).map (fun f=>f.2))(W:World)(hW:BxF2 w P F g x y z ps fs W):
  Calls Tryz.prog 143 #[.slice F k fc,.func (.func 142) #[] #[.pointer (some ⟨g,0,none⟩)]] W fun e w'=>e= .returned (.bool r)/\Below W.heap.size W w':=
 (has_future F fc k (fs.take k) 142 #[.pointer (some ⟨g,0,none⟩)] (eg_of Tryz.func142 (by kernel_rfl) rfl)
  (fun j=>decide (∃f,(fs.take k)[j]? =some f/\f.2=(y,z))) (fun _ V=>BxF2 w P F g x y z ps fs V/\Below W.heap.size W V) w.heap.size (by rw[List.length_take];omega) (by omega)
  (fun j V h=>h.1.f.take k)
  (fun j u v t V hj h=>(clash_any u v t x y z g (decide (∃f,(fs.take k)[j]? =some f/\f.2=(y,z))) (by rw[decide_eq_true_iff,hj];simp) V h.1.e1 h.1.e2).mono fun e w' ⟨he,hb⟩=>⟨he,h.1.next hb,h.2.trans (hb.mono h.2.size)⟩)
  r (by
   rw[hr,List.mem_map];constructor
   ·rintro ⟨f,hf,e⟩
    obtain⟨j,hj⟩:=List.mem_iff_getElem?.mp hf
    refine⟨j,?_,by rw[decide_eq_true_iff];exact⟨f,hj,e⟩⟩
    have:=(List.getElem?_eq_some_iff.1 hj).1
    rw[List.length_take]at this;omega
   ·rintro ⟨j,_,hj⟩
    obtain⟨f,hf,e⟩:=of_decide_eq_true hj;exact⟨f,List.mem_of_getElem? hf,e⟩) W ⟨hW,Below.refl _ _⟩).mono fun e w' ⟨he,_,_,hb⟩=>⟨he,hb⟩
theorem rfutures_any(P F:Option Addr)(pc np fc nf:Nat)(ps fs:List (Int×Int×Int))(r:Bool)(hr:r=true↔FutsOk ps fs)(w:World)(hn:ps.length=np)(hl0:np<=1000)(hm:fs.length=nf)(hl:nf<=1000)(hc:nf<=fc)(hT:Trips w w.heap.size P ps)(hP:Trips w w.heap.size F fs)(hok:partsOk ps):
  Calls Tryz.prog 107 #[.slice F nf fc,.slice P np pc] w fun e w'=>e= .returned (.bool r)/\Below w.heap.size w w':=by
 have HN:=Lib.hid hn;have HM:=Lib.hid hm;have HR:=Lib.hid hr;have HP:=Lib.hid hP;have HT:=Lib.hid hT;have HO:=Lib.hid hok;clear hP hm hr hT hn hok;go_enter Tryz.func107,Tryz.ntmps107;go_wp2;go_loopw [10] (fun v wr=> ∃k:Nat,k<=nf/\v= .int .i64 k/\Hid (Below w.heap.size w wr)/\Hid (FutsOk ps (fs.take k))) (fun v _=>nf - (intOf v).toNat)
 case atStart=>exact⟨0,Nat.zero_le _,rfl,Lib.hid (Below.refl _ _),Lib.hid ⟨fun e he=>by simp at he,by simp⟩⟩
 case round=>
  obtain⟨k,hk,rfl,BR,HE⟩:=hrel
  by_cases hlt:k<nf
  ·have hPr:=HP.out.below BR.out
   obtain⟨bk,off,x,y,z,rfl,hbg,hek,d1,d2,d3⟩:=hPr.at_ (k:=k) (by rw[HM.out];exact hlt)
   have HS:=Lib.hid (futsOk_snoc (ps:=ps) hek);have HBAD:=Lib.hid (fun h: ¬FutsOk ps (fs.take (k+1))=>show r=false by
    rw[<-Bool.not_eq_true];exact fun z=>h (futsOk_take (HR.out.mp z) _))
   have X1:Hid (BxF2 w P (some ⟨bk,off,none⟩) wr.heap.size x y z ps fs (wr.alloc (.cells #[.int .i64 x,.int .i64 y,.int .i64 z] 156))):=
    Lib.hid ⟨BR.out.trans ((below_alloc _).mono BR.out.size),by rw[World.cell?_alloc_at _ _ _ _ rfl];rfl,by rw[World.cell?_alloc_at _ _ _ _ rfl];rfl,by rw[World.cell?_alloc_at _ _ _ _ rfl];rfl,(HT.out.below BR.out).keep fun a ha=>World.cell?_alloc_lt _ _ _ (Nat.lt_of_lt_of_le ha BR.out.size),hPr.keep fun a ha=>World.cell?_alloc_lt _ _ _ (Nat.lt_of_lt_of_le ha BR.out.size)⟩
   have n6:=near_cell X1.out.e0;have n7:=near_cell X1.out.e1;have n8:=near_cell X1.out.e2;have CA:=Lib.hid (fun r' hr' W hW=>ahead_any fc nf k HM.out (by omega) hl r' hr' W (X1.out.next hW))
   have hk2:k<=fc:=by omega
   clear hek hPr
   by_cases p1:(0<=x/\x<np)/\(0<=y/\y<np)/\x≠y
   ·have C1:=Lib.hid (twoParts_any x y np hl0 true ⟨fun _ => p1,fun _ => rfl⟩)
    obtain⟨u,rfl⟩: ∃u:Nat,y=(u:Int):=⟨y.toNat,by omega⟩
    have hu:u<np:=by omega
    obtain⟨bp,op,o1,o2,wk,rfl,hbp,hpk,f1,f2,f3⟩:=X1.out.l.at_ (k:=u) (by rw[HN.out];exact hu)
    have n9:=near_cell f3;have hwk:=(HO.out _ (List.mem_of_getElem? hpk))
    have hw1:1<=wk:=hwk.2.2.2.2.1;have hw2:wk<=100:=hwk.2.2.2.2.2;have HPK:=Lib.hid hpk;clear f1 f2 f3 hpk hwk
    by_cases p2:1<=z/\z<=wk - 1
    ·have C2:=Lib.hid (within_any z 1 (wk - 1) true ⟨fun _ => p2,fun _ => rfl⟩)
     have HFO:Hid (FutOne ps (x,(u:Int),z)):=Lib.hid ⟨by rw[HN.out];exact p1.1,by rw[HN.out];exact p1.2.1,p1.2.2,p2.1,fun e he=>by
      simp only[Int.toNat_natCast]at he;rw[HPK.out]at he;injection he with he;subst he;show z<wk
      omega⟩
     by_cases p3:((u:Int),z)∈(fs.take k).map (fun f=>f.2)
     ·have C3:=Lib.hid (CA.out true ⟨fun _ => p3,fun _ => rfl⟩)
      have HX:=Lib.hid (HBAD.out (fun q=>(HS.out.mp q).2.2 p3))
      clear p1 p2 p3;go_wp2_with fail;refine wp_region_near _ (by kernel_rfl) (by kernel_rfl) (Nat.le_refl _) ?_
      repeat (go_big_quiet_step (first
       |(go_at_call 140;exact near_same (C1.out _))
       |(go_at_call 136;exact near_same (C2.out _))
       |(go_at_call 143;exact near_of (C3.out _ (Near.h _)) (Nat.le_refl _))))
      refine wpQuiet_nil ?_
      intro W hW;have X2:=Lib.hid (X1.out.next hW);clear hW d1 d2 d3;go_wp2;go_ret;exact⟨by rw[HX.out];rfl,X2.out.bel⟩
     ·have C3:=Lib.hid (CA.out false ⟨fun q => Bool.noConfusion q,fun q => absurd q p3⟩)
      have HOK:=Lib.hid (HS.out.mpr ⟨HE.out,HFO.out,p3⟩);clear p1 p2 p3;go_wp2_with fail;refine wp_region_near _ (by kernel_rfl) (by kernel_rfl) (Nat.le_refl _) ?_
      repeat (go_big_quiet_step (first
       |(go_at_call 140;exact near_same (C1.out _))
       |(go_at_call 136;exact near_same (C2.out _))
       |(go_at_call 143;exact near_of (C3.out _ (Near.h _)) (Nat.le_refl _))))
      refine wpQuiet_nil ?_
      intro W hW;have X2:=Lib.hid (X1.out.next hW);clear hW d1 d2 d3;go_wp2;go_roundw
      case rel=>exact⟨k+1,by omega,by go_num,Lib.hid X2.out.bel,HOK⟩
      case measure=>simp[intOf];omega
    ·have C2:=Lib.hid (within_any z 1 (wk - 1) false ⟨fun q => Bool.noConfusion q,fun q => absurd q p2⟩)
     have HX:=Lib.hid (HBAD.out (fun q=>p2 (by
      have h:=(HS.out.mp q).2.1;have h1:=h.first;have h2:=h.last _ (by simp only[Int.toNat_natCast];exact HPK.out)
      simp only at h1 h2;omega)))
     clear p1 p2;go_wp2_with fail;refine wp_region_near _ (by kernel_rfl) (by kernel_rfl) (Nat.le_refl _) ?_
     repeat (go_big_quiet_step (first
      |(go_at_call 140;exact near_same (C1.out _))
      |(go_at_call 136;exact near_same (C2.out _))))
     refine wpQuiet_nil ?_
     intro W hW;have X2:=Lib.hid (X1.out.next hW);clear hW d1 d2 d3;go_wp2;go_ret;exact⟨by rw[HX.out];rfl,X2.out.bel⟩
   ·have C1:=Lib.hid (twoParts_any x y np hl0 false ⟨fun q => Bool.noConfusion q,fun q => absurd q p1⟩)
    have HX:=Lib.hid (HBAD.out (fun q=>p1 (by
     have h:=(HS.out.mp q).2.1;have h1:=h.maker;have h2:=h.user;have h3:=h.apart;rw[HN.out]at h1 h2;exact⟨h1,h2,h3⟩)))
    clear p1;go_wp2_with fail;refine wp_region_near _ (by kernel_rfl) (by kernel_rfl) (Nat.le_refl _) ?_
    repeat (go_big_quiet_step (first
     |(go_at_call 140;exact near_same (C1.out _))))
    refine wpQuiet_nil ?_
    intro W hW;have X2:=Lib.hid (X1.out.next hW);clear hW d1 d2 d3;go_wp2;go_ret;exact⟨by rw[HX.out];rfl,X2.out.bel⟩
  ·have e: nf = k:=by omega
   subst e;have HYES:=Lib.hid (show r=true from HR.out.mpr (by
    have h:=HE.out
    rwa [List.take_of_length_le (by rw[HM.out];omega)]at h))
   go_wp2;go_ret
   exact⟨by rw[HYES.out];rfl,BR.out⟩
theorem side1_any(x last:Int)(np:Nat)(g gp:Nat)(hnp:np<=1000)(r:Bool)(hr:r=true↔ ¬(last<x/\0<=x/\x<np))(w:World)(h1:w.heap[g]? =some (.cells #[.int .i64 last] 3 (0,0)))
  (h2:w.cell? ⟨gp,0,none⟩=some (.int .i64 np)) (hne:g≠gp):
  Calls Tryz.prog 170 #[.int .i64 x,.pointer (some ⟨g,0,none⟩),.pointer (some ⟨gp,0,none⟩)] w fun e w'=>e= .returned (.bool r)/\w.setCell ⟨g,0,none⟩ (.int .i64 x)=w':=by
 have c1:w.cell? ⟨g,0,none⟩=some (.int .i64 last):=cell_of_one h1
 have f1:w.frozen? ⟨g,0,none⟩=false:=free_of_one h1
 have c2:(w.setCell ⟨g,0,none⟩ (.int .i64 x)).cell? ⟨gp,0,none⟩=some (.int .i64 np):=by
  rw[<-h2];simp[World.cell?,World.setCell,Array.getElem?_modify,hne]
 by_cases k1:last<x
 ·by_cases k2: 0 <= x /\ x < np
  ·have C:=Lib.hid (isPart_any x np hnp true ⟨fun _ => k2,fun _ => rfl⟩)
   obtain rfl:r=false:=by rw[<-Bool.not_eq_true];exact fun h=>hr.mp h ⟨k1,k2⟩
   clear hr k2 h1 h2 hne;go_enter Tryz.func170,Tryz.ntmps170;go_wp2_with fail;refine(C.out _).mono ?_
   rintro e w' ⟨rfl,rfl⟩;go_wp2;go_ret;exact⟨rfl,rfl⟩
  ·have C:=Lib.hid (isPart_any x np hnp false ⟨fun q => Bool.noConfusion q,fun q => absurd q k2⟩)
   obtain rfl:r=true:=hr.mpr fun h=>k2 h.2
   clear hr k2 h1 h2 hne;go_enter Tryz.func170,Tryz.ntmps170;go_wp2_with fail;refine(C.out _).mono ?_
   rintro e w' ⟨rfl,rfl⟩;go_wp2;go_ret;exact⟨rfl,rfl⟩
 ·obtain rfl: r = true:=hr.mpr fun h => k1 h.1
  clear hr h1 h2 hne;go_enter Tryz.func170,Tryz.ntmps170;go_wp2;go_ret;exact⟨rfl,rfl⟩
def prevI(l:List Int)(k:Nat):Int:=if k=0 then -1 else l.getD (k - 1) 0
def badI(np:Nat)(l:List Int)(k:Nat):Bool:=match l[k]? with|some x=>decide (¬(prevI l k<x/\0<=x/\x<np))|none=>false
theorem rowOk_iff{np:Nat}{l:List Int}:RowOk np l↔0<l.length/\ ¬ ∃j,j<l.length/\badI np l j=true:=by
 constructor
 ·intro h
  refine⟨h.some_,?_⟩
  rintro⟨j,hj,hb⟩;unfold badI at hb;rw[List.getElem?_eq_getElem hj]at hb
  refine of_decide_eq_true hb ⟨?_,h.parts _ (List.getElem_mem _)⟩
  unfold prevI
  split
  ·have:=(h.parts _ (List.getElem_mem hj)).1
   omega
  ·rename_i h0
   have e:l[j - 1]? =some (l.getD (j - 1) 0):=by
    rw[List.getD_eq_getElem?_getD,List.getElem?_eq_getElem (by omega)];rfl
   exact h.rises (j - 1) _ _ e (by rw[show j - 1+1=j by omega];exact List.getElem?_eq_getElem hj)
 ·rintro ⟨h0,h⟩
  have hg: ∀j x,l[j]? =some x->prevI l j<x/\0<=x/\x<np:=fun j x hx=>by
   refine Classical.byContradiction fun hn=>h ⟨j,(List.getElem?_eq_some_iff.1 hx).1,?_⟩
   unfold badI;rw[hx];exact decide_eq_true hn
  refine⟨h0,fun x hx=> ?_,fun i x y hx hy=> ?_⟩
  ·obtain ⟨j,hj⟩:=List.mem_iff_getElem?.mp hx
   exact(hg j x hj).2
  ·have:=(hg (i + 1) y hy).1
   unfold prevI at this;rw[if_neg (by omega),List.getD_eq_getElem?_getD,show i+1 - 1=i by omega,hx]at this
   exact this
structure StS(w:World)(A:Option Addr)(g gp np:Nat)(l:List Int)(k:Nat)(W:World):Prop where
 bel:Below w.heap.size w W
 last:W.heap[g]? =some (.cells #[.int .i64 (prevI l k)] 3 (0,0))
 np:W.cell? ⟨gp,0,none⟩=some (.int .i64 np)
 l:Ints W w.heap.size A l
theorem side_any(A:Option Addr)(c n np:Nat)(l:List Int)(r:Bool)(hr:r=true↔RowOk np l)(w:World)(hn:l.length=n)(hl:n<=1000)(hnp:np<=1000)(hI:Ints w w.heap.size A l):
    Calls Tryz.prog 147 #[.slice A n c, .int .i64 np] w fun e w'=>e= .returned (.bool r)/\Below w.heap.size w w':=by
  rw[rowOk_iff,hn]at hr;have C:=Lib.hid (fun(r':Bool) (hr':r'=true↔ ∃j,j<n/\badI np l j=true) W hW=>dhas_int A c n l 170 #[.pointer (some ⟨w.heap.size+1,0,none⟩), .pointer (some ⟨w.heap.size,0,none⟩)] (eg_of Tryz.func170 (by kernel_rfl) rfl)
    (badI np l) (fun k W=>StS w A (w.heap.size+1) w.heap.size np l k W) w.heap.size hn hl (fun k W h=>h.l)
    (fun k x W hk h=>(side1_any x (prevI l k) np (w.heap.size+1) w.heap.size hnp (badI np l k) (by unfold badI;rw[hk,decide_eq_true_iff]) W h.last h.np (by omega)).mono fun e w' ⟨he,hw⟩=>⟨he,by
      subst hw;have hb:Below (w.heap.size+1) W (W.setCell ⟨w.heap.size+1,0,none⟩ (.int .i64 x)):=(Below.refl (w.heap.size+1) W).setCell (p:=⟨w.heap.size+1,0,none⟩) (Nat.le_refl _) _;refine⟨h.bel.setCell (p:=⟨w.heap.size+1,0,none⟩) (Nat.le_succ _) _,?_,(hb.cell (by show w.heap.size<_;omega)).trans h.np,h.l.keep fun a ha=>hb.cell (by omega)⟩
      have:=one_setCell (u:= .int .i64 x) h.last;rw[this];unfold prevI;rw[if_neg (by omega),List.getD_eq_getElem?_getD,show k+1 - 1=k by omega,hk]
      rfl⟩)
    r' hr' W hW)
  have X0:Hid (StS w A (w.heap.size+1) w.heap.size np l 0 ((w.alloc (.cells #[.int .i64 np] 3)).alloc (.cells #[.int .i64 (-1)] 3))):=Lib.hid (by
    have hs:(w.alloc (.cells #[.int .i64 np] 3)).heap.size=w.heap.size+1:=by simp
    have hb:Below w.heap.size w ((w.alloc (.cells #[.int .i64 np] 3)).alloc (.cells #[.int .i64 (-1)] 3)):=(below_alloc _).trans ((below_alloc _).mono (by omega))
    refine⟨hb,?_,?_,hI.below hb⟩
    · rw[<-hs];exact heap_alloc_new _ _
    · rw[World.cell?_alloc_lt _ _ _ (by show w.heap.size<_;omega),World.cell?_alloc_at _ _ _ _ rfl]
      rfl)
  clear hI
  by_cases h0:n=0
  · obtain rfl:r=false:=by rw[<-Bool.not_eq_true];exact fun h=>absurd (hr.mp h).1 (by omega)
    subst h0;clear hr;go_enter Tryz.func147,Tryz.ntmps147;go_wp2;go_ret;exact⟨rfl,X0.out.bel⟩
  · have h1:decide ((0:Int)<(n:Int))=true:=by rw[decide_eq_true_iff];omega
    have h2:decide (0<n)=true:=by rw[decide_eq_true_iff];omega
    have C1:=Lib.hid (C.out (!r) (by
      rw[Bool.not_eq_true',<-Bool.not_eq_true,hr];constructor
      · intro h;exact Classical.byContradiction fun hn=>h ⟨by omega,hn⟩
      · rintro h ⟨_,hn⟩;exact hn h))
    clear hr h0;cases r with
    | true =>
      go_enter Tryz.func147,Tryz.ntmps147;go_wp2_with fail;refine(C1.out _ X0.out).mono ?_
      rintro e w' ⟨rfl,k,hX⟩;go_wp2;go_ret;exact⟨rfl,hX.bel⟩
    | false =>
      go_enter Tryz.func147,Tryz.ntmps147;go_wp2_with fail;refine(C1.out _ X0.out).mono ?_
      rintro e w' ⟨rfl,k,hX⟩;go_wp2;go_ret;exact⟨rfl,hX.bel⟩
theorem isIn_any(x:Int)(A1:Option Addr)(c1 n1:Nat)(xs:List Int)(g:Nat)(hn:xs.length=n1)(hl:n1<=1000)(r:Bool)(hr:r=true↔x∈xs)(w:World)(B:Nat)(hI:Ints w B A1 xs)(h0:w.cell? ⟨g,0,none⟩=some (.slice A1 n1 c1)):
  Calls Tryz.prog 146 #[.int .i64 x,.pointer (some ⟨g,0,none⟩)] w fun e w'=>e= .returned (.bool r)/\w=w':=by
 have C:=Lib.hid (in_any A1 c1 n1 xs x r hr w B hn hl hI);clear hr hI;go_enter Tryz.func146,Tryz.ntmps146;go_wp2_with fail;refine C.out.mono ?_
 rintro e w' ⟨rfl,rfl⟩;go_wp2;go_ret;exact⟨rfl,rfl⟩
structure StB(w:World)(A1:Option Addr)(n1 c1:Nat)(A2:Option Addr)(n2 c2 gp np:Nat)(xs ys:List Int)(W:World):Prop where
 bel:Below w.heap.size w W
 b0:W.cell? ⟨w.heap.size,0,none⟩=some (.slice A1 n1 c1)
 b1:W.cell? ⟨w.heap.size,1,none⟩=some (.slice A2 n2 c2)
 np:W.cell? ⟨gp,0,none⟩=some (.int .i64 np)
 xs:Ints W w.heap.size A1 xs
 ys:Ints W w.heap.size A2 ys
theorem StB.next{w w1 w2:World}{A1:Option Addr}{n1 c1:Nat}{A2:Option Addr}{n2 c2 gp np:Nat}{xs ys:List Int}(h:StB w A1 n1 c1 A2 n2 c2 gp np xs ys w1)(hb:Below w1.heap.size w1 w2):StB w A1 n1 c1 A2 n2 c2 gp np xs ys w2:=
 ⟨h.bel.trans (hb.mono h.bel.size),(hb.cell (World.block_lt_of_cell? _ _ h.b0)).trans h.b0,(hb.cell (World.block_lt_of_cell? _ _ h.b1)).trans h.b1,(hb.cell (World.block_lt_of_cell? _ _ h.np)).trans h.np,h.xs.keep fun a ha=>hb.cell (Nat.lt_of_lt_of_le ha h.bel.size),h.ys.keep fun a ha=>hb.cell (Nat.lt_of_lt_of_le ha h.bel.size)⟩
theorem bar1_any(A1:Option Addr)(c1 n1:Nat)(A2:Option Addr)(c2 n2 gp np:Nat)(xs ys:List Int)(r:Bool)(hr:r=true↔ ¬BarOne np (xs,ys))(w:World)(hn1:xs.length=n1)(hn2:ys.length=n2)(hl1:n1<=1000)(hl2:n2<=1000)(hnp:np<=1000)
  (hx:Ints w w.heap.size A1 xs) (hy:Ints w w.heap.size A2 ys) (hg:w.cell? ⟨gp,0,none⟩=some (.int .i64 np)):
  Calls Tryz.prog 145 #[.agg #[.slice A1 n1 c1,.slice A2 n2 c2],.pointer (some ⟨gp,0,none⟩)] w fun e w'=>e= .returned (.bool r)/\Below w.heap.size w w':=by
 have X0:Hid (StB w A1 n1 c1 A2 n2 c2 gp np xs ys (w.alloc (.cells #[.slice A1 n1 c1,.slice A2 n2 c2] 97))):=Lib.hid
  ⟨below_alloc _,by rw[World.cell?_alloc_at _ _ _ _ rfl];rfl,by rw[World.cell?_alloc_at _ _ _ _ rfl];rfl,(World.cell?_alloc_lt _ _ _ (World.block_lt_of_cell? _ _ hg)).trans hg,hx.below (below_alloc _),hy.below (below_alloc _)⟩
 have CS:=Lib.hid (fun(A:Option Addr) (c n:Nat) (l:List Int) (r:Bool) (hr:r=true↔RowOk np l) (W:World) hn hl hI=>side_any A c n np l r hr W hn hl hnp hI)
 have CI:=Lib.hid (fun(r':Bool) (hr':r'=true↔ ∃j,j<n2/\(match ys[j]? with|some x=>decide (x∈xs)|none=>false)=true) W hW=>dhas_int A2 c2 n2 ys 146 #[.pointer (some ⟨w.heap.size,0,none⟩)] (eg_of Tryz.func146 (by kernel_rfl) rfl)
  (fun j=>match ys[j]? with|some x=>decide (x∈xs)|none=>false) (fun _ W=>StB w A1 n1 c1 A2 n2 c2 gp np xs ys W) w.heap.size hn2 hl2 (fun k W h=>h.ys)
  (fun k x W hk h=>(isIn_any x A1 c1 n1 xs w.heap.size hn1 hl1 (match ys[k]? with|some x=>decide (x∈xs)|none=>false) (by rw[hk];exact decide_eq_true_iff) W w.heap.size h.xs h.b0).mono fun e w' ⟨he,hw⟩=>⟨he,hw▸h⟩)
  r' hr' W hW)
 have HIN:Hid ((∃j,j<n2/\(match ys[j]? with|some x=>decide (x∈xs)|none=>false)=true)↔ ¬ ∀x∈xs,x∉ys):=Lib.hid (by
  constructor
  ·rintro ⟨j,hj,h⟩ hall
   rw[List.getElem?_eq_getElem (by omega)]at h
   exact hall _ (of_decide_eq_true h) (List.getElem_mem _)
  ·intro h
   rw[Classical.not_forall]at h;obtain⟨x,h⟩:=h;rw[Classical.not_imp,Classical.not_not]at h;obtain⟨j,hj⟩:=List.mem_iff_getElem?.mp h.2
   refine⟨j,?_,by rw[hj];exact decide_eq_true h.1⟩
   have:=(List.getElem?_eq_some_iff.1 hj).1
   omega)
 obtain⟨k0,k1,k2⟩:w.heap.size<(w.alloc (.cells #[.slice A1 n1 c1,.slice A2 n2 c2] 97)).heap.size/\True/\True:=⟨by simp,trivial,trivial⟩
 have c0:=(World.cell?_alloc_lt w _ (o:=.cells #[.slice A1 n1 c1,.slice A2 n2 c2] 97) (World.block_lt_of_cell? _ _ hg)).trans hg
 clear hx hy hg k1 k2
 by_cases p1:RowOk np xs
 ·by_cases p2: RowOk np ys
  ·by_cases p3: ∀ x ∈ xs,x ∉ ys
   ·obtain rfl: r = false:=by rw [<- Bool.not_eq_true]; exact fun h => hr.mp h ⟨p1,p2,p3⟩
    have S1:=Lib.hid (CS.out A1 c1 n1 xs true ⟨fun _=>p1,fun _=>rfl⟩)
    have S2:=Lib.hid (CS.out A2 c2 n2 ys true ⟨fun _=>p2,fun _=>rfl⟩)
    have S3:=Lib.hid (CI.out false ⟨fun q=>Bool.noConfusion q,fun q=>absurd p3 (HIN.out.mp q)⟩)
    clear hr p1 p2 p3;go_enter Tryz.func145,Tryz.ntmps145;go_wp2_with fail;refine(S1.out _ hn1 hl1 (X0.out.xs.more X0.out.bel.size)).mono ?_
    rintro e w2 ⟨rfl,b⟩;have X2:=Lib.hid (X0.out.next b);clear b c0;have e1:=X2.out.b1;have e2:=X2.out.np;go_wp2_with fail;refine(S2.out _ hn2 hl2 (X2.out.ys.more X2.out.bel.size)).mono ?_
    rintro e w3 ⟨rfl,b⟩;have X3:=Lib.hid (X2.out.next b);clear b e1 e2;have e1:=X3.out.b1;go_wp2_with fail;refine(S3.out _ X3.out).mono ?_
    rintro e w4 ⟨rfl,_,hX⟩;go_wp2;go_ret;exact⟨rfl,hX.bel⟩
   ·obtain rfl: r = true:=hr.mpr fun h => p3 h.apart
    have S1:=Lib.hid (CS.out A1 c1 n1 xs true ⟨fun _=>p1,fun _=>rfl⟩)
    have S2:=Lib.hid (CS.out A2 c2 n2 ys true ⟨fun _=>p2,fun _=>rfl⟩)
    have S3:=Lib.hid (CI.out true ⟨fun _=>HIN.out.mpr p3,fun _=>rfl⟩)
    clear hr p1 p2 p3;go_enter Tryz.func145,Tryz.ntmps145;go_wp2_with fail;refine(S1.out _ hn1 hl1 (X0.out.xs.more X0.out.bel.size)).mono ?_
    rintro e w2 ⟨rfl,b⟩;have X2:=Lib.hid (X0.out.next b);clear b c0;have e1:=X2.out.b1;have e2:=X2.out.np;go_wp2_with fail;refine(S2.out _ hn2 hl2 (X2.out.ys.more X2.out.bel.size)).mono ?_
    rintro e w3 ⟨rfl,b⟩;have X3:=Lib.hid (X2.out.next b);clear b e1 e2;have e1:=X3.out.b1;go_wp2_with fail;refine(S3.out _ X3.out).mono ?_
    rintro e w4 ⟨rfl,_,hX⟩;go_wp2;go_ret;exact⟨rfl,hX.bel⟩
  ·obtain rfl: r = true:=hr.mpr fun h => p2 h.outs
   have S1:=Lib.hid (CS.out A1 c1 n1 xs true ⟨fun _=>p1,fun _=>rfl⟩)
   have S2:=Lib.hid (CS.out A2 c2 n2 ys false ⟨fun q=>Bool.noConfusion q,fun q=>absurd q p2⟩)
   clear hr p1 p2;go_enter Tryz.func145,Tryz.ntmps145;go_wp2_with fail;refine(S1.out _ hn1 hl1 (X0.out.xs.more X0.out.bel.size)).mono ?_
   rintro e w2 ⟨rfl,b⟩;have X2:=Lib.hid (X0.out.next b);clear b c0;have e1:=X2.out.b1;have e2:=X2.out.np;go_wp2_with fail;refine(S2.out _ hn2 hl2 (X2.out.ys.more X2.out.bel.size)).mono ?_
   rintro e w3 ⟨rfl,b⟩;have X3:=Lib.hid (X2.out.next b);clear b e1 e2;go_wp2;go_ret;exact⟨rfl,X3.out.bel⟩
 ·obtain rfl: r = true:=hr.mpr fun h => p1 h.ins
  have S1:=Lib.hid (CS.out A1 c1 n1 xs false ⟨fun q=>Bool.noConfusion q,fun q=>absurd q p1⟩)
  clear hr p1;go_enter Tryz.func145,Tryz.ntmps145;go_wp2_with fail;refine(S1.out _ hn1 hl1 (X0.out.xs.more X0.out.bel.size)).mono ?_
  rintro e w2 ⟨rfl,b⟩;have X2:=Lib.hid (X0.out.next b);clear b c0;go_wp2;go_ret;exact⟨rfl,X2.out.bel⟩
open Classical in
theorem rbars_any(A:Option Addr)(c n np:Nat)(bs:List (List Int×List Int))(r:Bool)(hr:r=true↔BarsOk np bs)(w:World)(hn:bs.length=n)(hl:n<=1000)(hnp:np<=1000)(hbl: ∀b∈bs,b.1.length<=900/\b.2.length<=900)(hB:Bars w w.heap.size A bs):
    Calls Tryz.prog 108 #[.slice A n c, .int .i64 np] w fun e w'=>e= .returned (.bool r)/\Below w.heap.size w w':=by
  have hb0:Below w.heap.size w (w.alloc (.cells #[.int .i64 np] 3)):=below_alloc _;have hc0:(w.alloc (.cells #[.int .i64 np] 3)).cell? ⟨w.heap.size,0,none⟩=some (.int .i64 np):=by rw[World.cell?_alloc_at _ _ _ _ rfl];rfl
  have C:=Lib.hid (has_bar A c n bs 145 #[.pointer (some ⟨w.heap.size,0,none⟩)] (eg_of Tryz.func145 (by kernel_rfl) rfl) (fun k=>match bs[k]? with|some e=>decide (¬BarOne np e)|none=>false)
    (fun _ W=>Below w.heap.size w W/\W.cell? ⟨w.heap.size,0,none⟩=some (.int .i64 np)) w.heap.size hn hl
    (fun k W h=>hB.below h.1)
    (fun k xs ys A1 n1 c1 A2 n2 c2 W hk q1 q2 q3 q4 q5 q6 h=>(bar1_any A1 c1 n1 A2 c2 n2 w.heap.size np xs ys (match bs[k]? with|some e=>decide (¬BarOne np e)|none=>false) (by rw[hk];exact decide_eq_true_iff) W q1 q2
      (by have:=(hbl _ (List.mem_of_getElem? hk)).1;simp only at this;omega) (by have:=(hbl _ (List.mem_of_getElem? hk)).2;simp only at this;omega) hnp (q3.more h.1.size) (q4.more h.1.size) h.2).mono fun e w' ⟨he,hb⟩=>⟨he,h.1.trans (hb.mono h.1.size),(hb.cell (World.block_lt_of_cell? _ _ h.2)).trans h.2⟩)
    (!r) (by
      rw[Bool.not_eq_true',<-Bool.not_eq_true,hr];unfold BarsOk;constructor
      · intro h;rw[Classical.not_forall]at h;obtain⟨e,h⟩:=h;rw[Classical.not_imp]at h;obtain⟨j,hj,he⟩:=List.getElem_of_mem h.1;refine⟨j,by omega,?_⟩
        rw[List.getElem?_eq_getElem hj,he]
        exact decide_eq_true h.2
      · rintro⟨j,hj,h⟩ hall;rw[List.getElem?_eq_getElem (by omega)]at h
        exact of_decide_eq_true h (hall _ (List.getElem_mem _)))
    _ ⟨hb0,hc0⟩)
  clear hB hr hbl hb0 hc0;cases r with
  | true =>
    go_enter Tryz.func108,Tryz.ntmps108;go_wp2_with fail;refine C.out.mono ?_
    rintro e w1 ⟨rfl,k,hb⟩;go_wp2;go_ret;exact⟨rfl,hb.1⟩
  | false =>
    go_enter Tryz.func108,Tryz.ntmps108;go_wp2_with fail;refine C.out.mono ?_
    rintro e w1 ⟨rfl,k,hb⟩;go_wp2;go_ret;exact⟨rfl,hb.1⟩
structure BxI(w:World)(p q:Int)(P:Option Addr)(np pc:Nat)(E:Option Addr)(ne ec:Nat)(F:Option Addr)(nf fc:Nat)(R:Option Addr)(nr rc:Nat)(T:Task)(w':World):Prop where
 b:BxD w p q P np pc E ne ec F nf fc R nr rc w'
 d:IsD w' ⟨P,np,pc,E,ne,ec,F,nf,fc,R,nr,rc⟩ T
section
variable {P: Option Addr} {np pc: Nat} {E: Option Addr} {ne ec: Nat} {F: Option Addr} {nf fc: Nat} {R: Option Addr} {nr rc: Nat} {p q: Int} {T: Task}
theorem BxI.next{w w1 w2:World}(h:BxI w p q P np pc E ne ec F nf fc R nr rc T w1)(hb:Below w1.heap.size w1 w2):BxI w p q P np pc E ne ec F nf fc R nr rc T w2:=⟨h.b.next hb,h.d.below hb⟩
theorem BxI.start{w:World}(h:IsD w ⟨P,np,pc,E,ne,ec,F,nf,fc,R,nr,rc⟩ T)(p q:Int):BxI w p q P np pc E ne ec F nf fc R nr rc T (w.alloc (.cells #[.int .i64 p,.int .i64 q,.slice P np pc,.slice E ne ec,.slice F nf fc,.slice R nr rc] 57)):=
 ⟨BxD.start w p q P np pc E ne ec F nf fc R nr rc,h.below (below_alloc _)⟩
end
theorem check_any5(s:Sh)(T:Task)(w:World)(hD:IsD w s T):
  Calls Tryz.prog 87 #[s.arg T.period T.deadline] w fun e w'=>e= .returned (.int .i64 (chkT T))/\Below w.heap.size w w':=by
 obtain⟨P,np,pc,E,ne,ec,F,nf,fc,R,nr,rc⟩:=s;obtain⟨p,q,ps,es,fs,bs⟩:=T;have B0:=Lib.hid (BxI.start hD p q);have hp:=hD.t.hp;have he:=hD.t.he;have hf:=hD.t.hf;have hr:=hD.t.hr;have hFp:=hD.few.np;have hFe:=hD.few.ne;have hFf:=hD.few.nf;have hFr:=hD.few.nr;simp only at hp he hf hr hFp hFe hFf hFr;have HFB:=Lib.hid hD.few.bars;have HP:=Lib.hid hp;have HE:=Lib.hid he;have HFL:=Lib.hid hf;have HRL:=Lib.hid hr;rw[hp]at hFp;rw[he]at hFe;rw[hf]at hFf;rw[hr]at hFr;simp only[Sh.arg];have HMANY:=Lib.hid (show(¬ManyT ⟨p,q,ps,es,fs,bs⟩)↔1<=np/\np<=16/\ne<=48/\nf<=16/\nr<=4 by unfold ManyT;simp only;rw[hp,he,hf,hr];omega)
 have C0:=Lib.hid (fun(r:Bool) (hr:r=true↔1<=np/\np<=16/\ne<=48/\nf<=16/\nr<=4) (W':World) (_:IsD W' ⟨P,np,pc,E,ne,ec,F,nf,fc,R,nr,rc⟩ ⟨p,q,ps,es,fs,bs⟩)=>counts_any (P:=P) (np:=np) (pc:=pc) (E:=E) (ne:=ne) (ec:=ec) (F:=F) (nf:=nf) (fc:=fc) (R:=R) (nr:=nr) (rc:=rc) (p:=p) (q:=q) r hr W' (by omega) (by omega) (by omega) (by omega))
 have C1:=Lib.hid (fun(r:Bool) (hr:r=true↔timeE p q=true) (W':World) (h:IsD W' ⟨P,np,pc,E,ne,ec,F,nf,fc,R,nr,rc⟩ ⟨p,q,ps,es,fs,bs⟩)=>(times_any (P:=P) (np:=np) (pc:=pc) (E:=E) (ne:=ne) (ec:=ec) (F:=F) (nf:=nf) (fc:=fc) (R:=R) (nr:=nr) (rc:=rc) (p:=p) (q:=q) W' h.tab).mono fun e w' k=>show e= .returned (.bool r)/\Below W'.heap.size W' w' from⟨by rw[k.1,Bool.eq_iff_iff.mpr hr],k.2⟩)
 have C2:=Lib.hid (fun(r:Bool) (hr:r=true↔partsOk ps) (W':World) (h:IsD W' ⟨P,np,pc,E,ne,ec,F,nf,fc,R,nr,rc⟩ ⟨p,q,ps,es,fs,bs⟩)=>rparts_any P pc np ps r hr W' hp (by omega) h.t.parts)
 have C3:=Lib.hid (fun(r:Bool) (hr:r=true↔EdgesOk np es) (W':World) (h:IsD W' ⟨P,np,pc,E,ne,ec,F,nf,fc,R,nr,rc⟩ ⟨p,q,ps,es,fs,bs⟩)=>redges_any E ec ne np es r hr W' he (by omega) (by omega) h.lE h.t.edges)
 have C4:=Lib.hid (fun(hok:partsOk ps) (r:Bool) (hr:r=true↔FutsOk ps fs) (W':World) (h:IsD W' ⟨P,np,pc,E,ne,ec,F,nf,fc,R,nr,rc⟩ ⟨p,q,ps,es,fs,bs⟩)=>rfutures_any P F pc np fc nf ps fs r hr W' hp (by omega) hf (by omega) h.lF h.t.parts h.t.futures hok)
 have C5:=Lib.hid (fun(r:Bool) (hr':r=true↔BarsOk np bs) (W':World) (h:IsD W' ⟨P,np,pc,E,ne,ec,F,nf,fc,R,nr,rc⟩ ⟨p,q,ps,es,fs,bs⟩)=>rbars_any R rc nr np bs r hr' W' hr (by omega) (by omega) (fun b hb=>by have:=HFB.out b hb;omega) h.t.bars)
 obtain⟨r,hres⟩: ∃r,r=chkT ⟨p,q,ps,es,fs,bs⟩:=⟨_,rfl⟩;rw[<-hres];have HRES:=Lib.hid hres;clear hD hp he hf hr hres hFp hFe hFf hFr
 by_cases p0:1<=np/\np<=16/\ne<=48/\nf<=16/\nr<=4
 ·have P0:=Lib.hid p0
  clear p0
  by_cases p1:timeE p q=true
  ·have P1:=Lib.hid p1
   clear p1
   by_cases p2:partsOk ps
   ·have P2:=Lib.hid p2
    clear p2
    by_cases p3:EdgesOk np es
    ·have P3:=Lib.hid p3
     clear p3
     by_cases p4:FutsOk ps fs
     ·have P4:=Lib.hid p4
      clear p4
      by_cases p5:BarsOk np bs
      ·have P5:=Lib.hid p5
       clear p5;have HX:=Lib.hid (show chkT ⟨p,q,ps,es,fs,bs⟩=0 by unfold chkT;rw[if_neg (HMANY.out.mpr P0.out),if_neg (by simp only;rw[P1.out];exact fun k=>Bool.noConfusion k),if_neg (fun k=>k P2.out),if_neg (fun k=>k (by simp only;rw[HP.out];exact P3.out)),if_neg (fun k=>k P4.out),if_neg (fun k=>k (by simp only;rw[HP.out];exact P5.out))])
       go_enter Tryz.func87,Tryz.ntmps87;go_wp2_with fail;refine(C0.out true ⟨fun _=>P0.out,fun _=>rfl⟩ _ B0.out.d).mono ?_
       rintro e w1 ⟨rfl,b⟩;have B1:=Lib.hid (B0.out.next b);clear b;obtain⟨c0,c1,c2,c3,c4,c5⟩:=B1.out.b.cells;go_wp2_with fail;refine(C1.out true ⟨fun _=>P1.out,fun _=>rfl⟩ _ B1.out.d).mono ?_
       rintro e w2 ⟨rfl,b⟩;have B2:=Lib.hid (B1.out.next b);clear b c0 c1 c2 c3 c4 c5;obtain⟨c0,c1,c2,c3,c4,c5⟩:=B2.out.b.cells;go_wp2_with fail;refine(C2.out true ⟨fun _=>P2.out,fun _=>rfl⟩ _ B2.out.d).mono ?_
       rintro e w3 ⟨rfl,b⟩;have B3:=Lib.hid (B2.out.next b);clear b c0 c1 c2 c3 c4 c5;obtain⟨c0,c1,c2,c3,c4,c5⟩:=B3.out.b.cells;go_wp2_with fail;refine(C3.out true ⟨fun _=>P3.out,fun _=>rfl⟩ _ B3.out.d).mono ?_
       rintro e w4 ⟨rfl,b⟩;have B4:=Lib.hid (B3.out.next b);clear b c0 c1 c2 c3 c4 c5;obtain⟨c0,c1,c2,c3,c4,c5⟩:=B4.out.b.cells;go_wp2_with fail;refine(C4.out P2.out true ⟨fun _=>P4.out,fun _=>rfl⟩ _ B4.out.d).mono ?_
       rintro e w5 ⟨rfl,b⟩;have B5:=Lib.hid (B4.out.next b);clear b c0 c1 c2 c3 c4 c5;obtain⟨c0,c1,c2,c3,c4,c5⟩:=B5.out.b.cells;go_wp2_with fail;refine(C5.out true ⟨fun _=>P5.out,fun _=>rfl⟩ _ B5.out.d).mono ?_
       rintro e w6 ⟨rfl,b⟩;have B6:=Lib.hid (B5.out.next b);clear b c0 c1 c2 c3 c4 c5;go_wp2;go_ret;exact⟨by rw[HRES.out,HX.out];rfl,B6.out.b.bel⟩
      ·have P5:=Lib.hid p5
       clear p5;have HX:=Lib.hid (show chkT ⟨p,q,ps,es,fs,bs⟩=55 by unfold chkT;rw[if_neg (HMANY.out.mpr P0.out),if_neg (by simp only;rw[P1.out];exact fun k=>Bool.noConfusion k),if_neg (fun k=>k P2.out),if_neg (fun k=>k (by simp only;rw[HP.out];exact P3.out)),if_neg (fun k=>k P4.out),if_pos (by simp only;rw[HP.out];exact P5.out)])
       go_enter Tryz.func87,Tryz.ntmps87;go_wp2_with fail;refine(C0.out true ⟨fun _=>P0.out,fun _=>rfl⟩ _ B0.out.d).mono ?_
       rintro e w1 ⟨rfl,b⟩;have B1:=Lib.hid (B0.out.next b);clear b;obtain⟨c0,c1,c2,c3,c4,c5⟩:=B1.out.b.cells;go_wp2_with fail;refine(C1.out true ⟨fun _=>P1.out,fun _=>rfl⟩ _ B1.out.d).mono ?_
       rintro e w2 ⟨rfl,b⟩;have B2:=Lib.hid (B1.out.next b);clear b c0 c1 c2 c3 c4 c5;obtain⟨c0,c1,c2,c3,c4,c5⟩:=B2.out.b.cells;go_wp2_with fail;refine(C2.out true ⟨fun _=>P2.out,fun _=>rfl⟩ _ B2.out.d).mono ?_
       rintro e w3 ⟨rfl,b⟩;have B3:=Lib.hid (B2.out.next b);clear b c0 c1 c2 c3 c4 c5;obtain⟨c0,c1,c2,c3,c4,c5⟩:=B3.out.b.cells;go_wp2_with fail;refine(C3.out true ⟨fun _=>P3.out,fun _=>rfl⟩ _ B3.out.d).mono ?_
       rintro e w4 ⟨rfl,b⟩;have B4:=Lib.hid (B3.out.next b);clear b c0 c1 c2 c3 c4 c5;obtain⟨c0,c1,c2,c3,c4,c5⟩:=B4.out.b.cells;go_wp2_with fail;refine(C4.out P2.out true ⟨fun _=>P4.out,fun _=>rfl⟩ _ B4.out.d).mono ?_
       rintro e w5 ⟨rfl,b⟩;have B5:=Lib.hid (B4.out.next b);clear b c0 c1 c2 c3 c4 c5;obtain⟨c0,c1,c2,c3,c4,c5⟩:=B5.out.b.cells;go_wp2_with fail;refine(C5.out false ⟨fun k=>Bool.noConfusion k,fun k=>absurd k P5.out⟩ _ B5.out.d).mono ?_
       rintro e w6 ⟨rfl,b⟩;have B6:=Lib.hid (B5.out.next b);clear b c0 c1 c2 c3 c4 c5;go_wp2;go_ret;exact⟨by rw[HRES.out,HX.out];rfl,B6.out.b.bel⟩
     ·have P4:=Lib.hid p4
      clear p4;have HX:=Lib.hid (show chkT ⟨p,q,ps,es,fs,bs⟩=54 by unfold chkT;rw[if_neg (HMANY.out.mpr P0.out),if_neg (by simp only;rw[P1.out];exact fun k=>Bool.noConfusion k),if_neg (fun k=>k P2.out),if_neg (fun k=>k (by simp only;rw[HP.out];exact P3.out)),if_pos P4.out])
      go_enter Tryz.func87,Tryz.ntmps87;go_wp2_with fail;refine(C0.out true ⟨fun _=>P0.out,fun _=>rfl⟩ _ B0.out.d).mono ?_
      rintro e w1 ⟨rfl,b⟩;have B1:=Lib.hid (B0.out.next b);clear b;obtain⟨c0,c1,c2,c3,c4,c5⟩:=B1.out.b.cells;go_wp2_with fail;refine(C1.out true ⟨fun _=>P1.out,fun _=>rfl⟩ _ B1.out.d).mono ?_
      rintro e w2 ⟨rfl,b⟩;have B2:=Lib.hid (B1.out.next b);clear b c0 c1 c2 c3 c4 c5;obtain⟨c0,c1,c2,c3,c4,c5⟩:=B2.out.b.cells;go_wp2_with fail;refine(C2.out true ⟨fun _=>P2.out,fun _=>rfl⟩ _ B2.out.d).mono ?_
      rintro e w3 ⟨rfl,b⟩;have B3:=Lib.hid (B2.out.next b);clear b c0 c1 c2 c3 c4 c5;obtain⟨c0,c1,c2,c3,c4,c5⟩:=B3.out.b.cells;go_wp2_with fail;refine(C3.out true ⟨fun _=>P3.out,fun _=>rfl⟩ _ B3.out.d).mono ?_
      rintro e w4 ⟨rfl,b⟩;have B4:=Lib.hid (B3.out.next b);clear b c0 c1 c2 c3 c4 c5;obtain⟨c0,c1,c2,c3,c4,c5⟩:=B4.out.b.cells;go_wp2_with fail;refine(C4.out P2.out false ⟨fun k=>Bool.noConfusion k,fun k=>absurd k P4.out⟩ _ B4.out.d).mono ?_
      rintro e w5 ⟨rfl,b⟩;have B5:=Lib.hid (B4.out.next b);clear b c0 c1 c2 c3 c4 c5;go_wp2;go_ret;exact⟨by rw[HRES.out,HX.out];rfl,B5.out.b.bel⟩
    ·have P3:=Lib.hid p3
     clear p3;have HX:=Lib.hid (show chkT ⟨p,q,ps,es,fs,bs⟩=53 by unfold chkT;rw[if_neg (HMANY.out.mpr P0.out),if_neg (by simp only;rw[P1.out];exact fun k=>Bool.noConfusion k),if_neg (fun k=>k P2.out),if_pos (by simp only;rw[HP.out];exact P3.out)])
     go_enter Tryz.func87,Tryz.ntmps87;go_wp2_with fail;refine(C0.out true ⟨fun _=>P0.out,fun _=>rfl⟩ _ B0.out.d).mono ?_
     rintro e w1 ⟨rfl,b⟩;have B1:=Lib.hid (B0.out.next b);clear b;obtain⟨c0,c1,c2,c3,c4,c5⟩:=B1.out.b.cells;go_wp2_with fail;refine(C1.out true ⟨fun _=>P1.out,fun _=>rfl⟩ _ B1.out.d).mono ?_
     rintro e w2 ⟨rfl,b⟩;have B2:=Lib.hid (B1.out.next b);clear b c0 c1 c2 c3 c4 c5;obtain⟨c0,c1,c2,c3,c4,c5⟩:=B2.out.b.cells;go_wp2_with fail;refine(C2.out true ⟨fun _=>P2.out,fun _=>rfl⟩ _ B2.out.d).mono ?_
     rintro e w3 ⟨rfl,b⟩;have B3:=Lib.hid (B2.out.next b);clear b c0 c1 c2 c3 c4 c5;obtain⟨c0,c1,c2,c3,c4,c5⟩:=B3.out.b.cells;go_wp2_with fail;refine(C3.out false ⟨fun k=>Bool.noConfusion k,fun k=>absurd k P3.out⟩ _ B3.out.d).mono ?_
     rintro e w4 ⟨rfl,b⟩;have B4:=Lib.hid (B3.out.next b);clear b c0 c1 c2 c3 c4 c5;go_wp2;go_ret;exact⟨by rw[HRES.out,HX.out];rfl,B4.out.b.bel⟩
   ·have P2:=Lib.hid p2
    clear p2;have HX:=Lib.hid (show chkT ⟨p,q,ps,es,fs,bs⟩=52 by unfold chkT;rw[if_neg (HMANY.out.mpr P0.out),if_neg (by simp only;rw[P1.out];exact fun k=>Bool.noConfusion k),if_pos P2.out])
    go_enter Tryz.func87,Tryz.ntmps87;go_wp2_with fail;refine(C0.out true ⟨fun _=>P0.out,fun _=>rfl⟩ _ B0.out.d).mono ?_
    rintro e w1 ⟨rfl,b⟩;have B1:=Lib.hid (B0.out.next b);clear b;obtain⟨c0,c1,c2,c3,c4,c5⟩:=B1.out.b.cells;go_wp2_with fail;refine(C1.out true ⟨fun _=>P1.out,fun _=>rfl⟩ _ B1.out.d).mono ?_
    rintro e w2 ⟨rfl,b⟩;have B2:=Lib.hid (B1.out.next b);clear b c0 c1 c2 c3 c4 c5;obtain⟨c0,c1,c2,c3,c4,c5⟩:=B2.out.b.cells;go_wp2_with fail;refine(C2.out false ⟨fun k=>Bool.noConfusion k,fun k=>absurd k P2.out⟩ _ B2.out.d).mono ?_
    rintro e w3 ⟨rfl,b⟩;have B3:=Lib.hid (B2.out.next b);clear b c0 c1 c2 c3 c4 c5;go_wp2;go_ret;exact⟨by rw[HRES.out,HX.out];rfl,B3.out.b.bel⟩
  ·have P1:=Lib.hid p1
   clear p1;have HX:=Lib.hid (show chkT ⟨p,q,ps,es,fs,bs⟩=51 by unfold chkT;rw[if_neg (HMANY.out.mpr P0.out),if_pos (by simp only;rw[<-Bool.not_eq_true];exact P1.out)])
   go_enter Tryz.func87,Tryz.ntmps87;go_wp2_with fail;refine(C0.out true ⟨fun _=>P0.out,fun _=>rfl⟩ _ B0.out.d).mono ?_
   rintro e w1 ⟨rfl,b⟩;have B1:=Lib.hid (B0.out.next b);clear b;obtain⟨c0,c1,c2,c3,c4,c5⟩:=B1.out.b.cells;go_wp2_with fail;refine(C1.out false ⟨fun k=>Bool.noConfusion k,fun k=>absurd k P1.out⟩ _ B1.out.d).mono ?_
   rintro e w2 ⟨rfl,b⟩;have B2:=Lib.hid (B1.out.next b);clear b c0 c1 c2 c3 c4 c5;go_wp2;go_ret;exact⟨by rw[HRES.out,HX.out];rfl,B2.out.b.bel⟩
 ·have P0:=Lib.hid p0
  clear p0;have HX:=Lib.hid (show chkT ⟨p,q,ps,es,fs,bs⟩=50 by unfold chkT;rw[if_pos (Classical.not_not.mp fun k=>P0.out (HMANY.out.mp k))])
  go_enter Tryz.func87,Tryz.ntmps87;go_wp2_with fail;refine(C0.out false ⟨fun k=>Bool.noConfusion k,fun k=>absurd k P0.out⟩ _ B0.out.d).mono ?_
  rintro e w1 ⟨rfl,b⟩;have B1:=Lib.hid (B0.out.next b);clear b;go_wp2;go_ret;exact⟨by rw[HRES.out,HX.out];rfl,B1.out.b.bel⟩
theorem byAt_any(F:Option Addr)(nf fc:Nat)(fs:List (Int×Int×Int))(gb i j:Nat)(w:World)(B:Nat)(hm:fs.length=nf)(hl:nf<=1000)(hi:i<nf)(hj:j<nf)(hT:Trips w B F fs)(hbox:w.cell? ⟨gb,4,none⟩=some (.slice F nf fc)):
  Calls Tryz.prog 172 #[.int .i64 i,.int .i64 j,.pointer (some ⟨gb,0,none⟩)] w fun e w'=>e= .returned (.int .i64 (cmpI (futAt fs i).2.2 (futAt fs j).2.2))/\ ∃q,w'=w.drewN q:=by
 obtain⟨b,off,x1,x2,x3,rfl,_,hk1,d1,d2,d3⟩:=hT.at_ (k:=i) (by omega)
 obtain⟨b',off',y1,y2,y3,e,_,hk2,f1,f2,f3⟩:=hT.at_ (k:=j) (by omega)
 injection e with e;injection e with e1 e2;subst e1 e2;have g1:(futAt fs i).2.2=x3:=by unfold futAt;rw[List.getD_eq_getElem?_getD,hk1];rfl
 have g2:(futAt fs j).2.2=y3:=by unfold futAt;rw[List.getD_eq_getElem?_getD,hk2];rfl
 rw[g1,g2];have C:=Lib.hid (compare_any x3 y3);generalize cmpI x3 y3=r at C⊢;clear hT hk1 hk2 d1 d2 f1 f2 g1 g2;go_enter Tryz.func172,Tryz.ntmps172;go_wp2
 go_quiet (first
  |(go_at_call 173;exact Calls.quiet_of_same (C.out _)))
 go_wp2;go_ret
 exact⟨rfl,_,rfl⟩
end Go.Proofs.YtlfekmbalgkmeaaGreatDoor
