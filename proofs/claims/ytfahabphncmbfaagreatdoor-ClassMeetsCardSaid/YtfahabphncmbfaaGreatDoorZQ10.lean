import Derived.Test.YtfahabphncmbfaaGreatDoorZQ9
set_option linter.all false
set_option maxRecDepth 100000
set_option maxHeartbeats 8000000
namespace Go.Proofs.YtfahabphncmbfaaGreatDoor
open Go.RowKit
open Go.RowKit.Below renaming refl→Zl
open Bool renaming noConfusion→Zx,not_eq_true→ZF
open Classical renaming byContradiction→Zn,not_not→Z8
open Go.Lib renaming hid→Zf
open List renaming getD_eq_getElem?_getD→Zi,getElem?_eq_getElem→Zh,getElem?_eq_some_iff→Zs,getElem?_take→YO,getElem_mem→Zz,length_take→ZP,mem_iff_getElem?→YB,mem_of_getElem?→ZC,take_of_length_le→Z6
open Nat renaming le_refl→Zm,lt_of_lt_of_le→ZE,zero_le→Zu
open Go.Proofs.Tryz renaming prog→Zg
open Go.World renaming block_lt_of_cell?→Zw,cell?_alloc_at→Zp,cell?_alloc_lt→Yu
open Go.Proofs.Tryz
theorem ZjP:(Zg.fieldsOf 179).toList.map (fun f=>(f.name,f.type,f.offset))= [("From",3,0),("To",3,1)]:=by kernel_rfl
theorem ZfA(x y:Int)(W:World):(part 3 #[.int .i64 x,.int .i64 y] 0).run Zg W=.ok (.int .i64 x) W/\(part 3 #[.int .i64 x,.int .i64 y] 1).run Zg W=.ok (.int .i64 y) W:=⟨by kernel_rfl,by kernel_rfl⟩
theorem Zrf(x y u v:Int)(W:World):(Op.equalIn 10000 179 (.agg #[.int .i64 x,.int .i64 y]) (.agg #[.int .i64 u,.int .i64 v])).run Zg W=.ok (x==u&&y==v) W:=by
  have hf:=ZjP;rw[run_equalIn_agg (d:=9999) W 179 _ _ (by kernel_rfl) (by kernel_rfl)];generalize (Zg.fieldsOf 179).toList=fs at hf
  match fs,hf with
  | [],hf=>simp at hf
  | [_],hf=>simp at hf
  |_::_::_::_,hf=>simp at hf
  | [f, g], hf =>
    simp only[List.map_cons,List.map_nil,List.cons.injEq,Prod.mk.injEq,and_true]at hf;obtain⟨⟨n1,t1,o1⟩,n2,t2,o2⟩:=hf;have e1:=fun a b W=>run_equalIn_int (P:=Zg) W 9998 3 .i64 .i64 a b underlying3;have p1:=fun a b W=>(ZfA a b W).1;have p2:=fun a b W=>(ZfA a b W).2;simp only[Op.eqFields,n1,n2,t1,t2,o1,o2];by_cases h1:x=u
    · subst h1;by_cases h2:y=v
      · simp[p1,p2,e1,h2]
      · simp[p1,p2,e1,h2]
    · simp[p1,p2,e1,h1]
theorem ZiF(x y u v:Int)(W:World):(binOp .eql 179 (.agg #[.int .i64 x,.int .i64 y]) (.agg #[.int .i64 u,.int .i64 v])).run Zg W=.ok (.bool (x==u&&y==v)) W:=by rw[run_eql_struct,Zrf];rfl
theorem ZiG(x y u v:Int)(g:Nat)(r:Bool)(hr:r=true↔(x,y)=(u,v))(w:World)(h0:w.cell? ⟨g,0,none⟩=some (.int .i64 u))(h1:w.cell? ⟨g,1,none⟩=some (.int .i64 v)):
  Calls Zg 186 #[.agg #[.int .i64 x,.int .i64 y],.pointer (some ⟨g,0,none⟩)] w fun e w'=>e=.returned (.bool r)/\Below w.heap.size w w':=by
 have hrun:=fun W=>ZiF x y u v W;obtain rfl:r=(x==u&&y==v):=by rw[Bool.eq_iff_iff,hr];simp
 have hg:=Zw _ _ h0;simp only at hg;clear hr;go_enter func186,ntmps186;go_wp2;go_ret;exact⟨rfl,Zaa _⟩
structure BxE2(w:World)(E:Option Addr)(g:Nat)(x y:Int)(es:List (Int×Int))(w':World):Prop where
 bel:Below w.heap.size w w'
 e0:w'.cell? ⟨g,0,none⟩=some (.int .i64 x)
 e1:w'.cell? ⟨g,1,none⟩=some (.int .i64 y)
 l:Pairs w' w.heap.size E es
theorem BxE2.next{w w1 w2:World}{E:Option Addr}{g:Nat}{x y:Int}{es:List (Int×Int)}(h:BxE2 w E g x y es w1)(hb:Below w1.heap.size w1 w2):BxE2 w E g x y es w2:=
 ⟨h.bel.trans (hb.mono h.bel.size),(hb.cell (Zw _ _ h.e0)).trans h.e0,(hb.cell (Zw _ _ h.e1)).trans h.e1,h.l.keep fun a ha=>hb.cell (ZE ha h.bel.size)⟩
theorem Pairs.take{w:World}{B:Nat}{A:Option Addr}{es:List (Int×Int)}(h:Pairs w B A es)(k:Nat):Pairs w B A (es.take k):=fun hn=>by
 obtain⟨b,off,e,hb,hc⟩:=h (by rw[ZP]at hn;omega);refine⟨b,off,e,hb,fun j x hx=>hc j x ?_⟩;rw[YO]at hx;split at hx
 ·exact hx
 ·cases hx
theorem ZlW(E:Option Addr)(ec ne np:Nat)(es:List (Int×Int))(r:Bool)(hr:r=true↔ZaI np es)(w:World)(hm:es.length=ne)(hl:ne<=1000)(hp:np<=1000)(hc:ne<=ec)(hP:Pairs w w.heap.size E es):
  Calls Zg 133 #[.slice E ne ec,.int .i64 np] w fun e w'=>e=.returned (.bool r)/\Below w.heap.size w w':=by
 have HM:=Zf hm;have HR:=Zf hr;have HP:=Zf hP;clear hP hm hr;go_enter func133,ntmps133;go_wp2;go_loopw [10] (fun v wr=>∃k:Nat,k<=ne/\v=.int .i64 k/\Hid (Below w.heap.size w wr)/\Hid (ZaI np (es.take k))) (fun v _=>ne - (intOf v).toNat)
 case atStart=>exact⟨0,Zu _,rfl,Zf (Zl _ _),Zf ⟨fun e he=>by simp at he,fun e he=>by simp at he,by simp⟩⟩
 case round=>
  obtain⟨k,hk,rfl,BR,HE⟩:=hrel;by_cases hlt:k<ne
  ·have hPr:=HP.out.below BR.out
   obtain⟨bk,off,⟨x,y⟩,rfl,hbg,hek,d1,d2⟩:=hPr.at_ (k:=k) (by rw[HM.out];exact hlt);simp only at d1 d2;have HS:=Zf (Zfk (n:=np) hek);have HBAD:=Zf (fun h:¬ZaI np (es.take (k+1))=>show r=false by
    rw[<-ZF];exact fun z=>h (Zfl (HR.out.mp z) _))
   have X1:Hid (BxE2 w (some ⟨bk,off,none⟩) wr.heap.size x y es (wr.alloc (.cells #[.int .i64 x,.int .i64 y] 179))):=
    Zf ⟨BR.out.trans ((Zaa _).mono BR.out.size),by rw[Zp _ _ _ _ rfl];rfl,by rw[Zp _ _ _ _ rfl];rfl,hPr.keep fun a ha=>Yu _ _ _ (ZE ha BR.out.size)⟩
   clear hek hPr;by_cases p1:(0<=x/\x<np)/\(0<=y/\y<np)/\x≠y
   ·have C1:=Zf (Zcx x y np hp true ⟨fun _ => p1,fun _ => rfl⟩)
    have C2:=Zf (fun(r':Bool) (hr':r'=true↔(x,y)∈es.take k) W hW=>ZpK (some ⟨bk,off,none⟩) ec k (es.take k) 186 #[.pointer (some ⟨wr.heap.size,0,none⟩)] (Za1 func186 (by kernel_rfl) rfl)
     (fun j=>decide ((es.take k)[j]?=some (x,y))) (fun _ W=>BxE2 w (some ⟨bk,off,none⟩) wr.heap.size x y es W) w.heap.size (by rw[ZP,HM.out];omega) (by omega)
     (fun j W h=>h.l.take k)
     (fun j u v W hj h=>(ZiG u v x y wr.heap.size (decide ((es.take k)[j]?=some (x,y))) (by rw[decide_eq_true_iff,hj];simp) W h.e0 h.e1).mono fun e w' ⟨he,hb⟩=>⟨he,h.next hb⟩)
     r' (by
      rw[hr',YB];constructor
      ·rintro ⟨j,hj⟩
       refine⟨j,?_,by rw[hj];simp⟩;have:=(Zs.1 hj).1;rw[ZP]at this;omega
      ·rintro ⟨j,_,hj⟩
       exact⟨j,by simpa using hj⟩) W hW)
    have hk2:k<=ec:=by omega
    by_cases p2:(x,y)∈es.take k
    ·have C3:=Zf (C2.out true ⟨fun _ => p2,fun _ => rfl⟩)
     have HX:=Zf (HBAD.out (fun z=>(HS.out.mp z).2.2.2.2 p2));clear p1 p2;go_wp2_with fail;refine(C1.out _).mono ?_;rintro e w2 ⟨rfl,rfl⟩;go_wp2_with fail;refine(C3.out _ X1.out).mono ?_;rintro e w3 ⟨rfl,_,hX⟩;have X3:=Zf hX;clear hX d1 d2;go_wp2;go_ret;exact⟨by rw[HX.out];rfl,X3.out.bel⟩
    ·have C3:=Zf (C2.out false ⟨fun q => Zx q,fun q => absurd q p2⟩)
     have HOK:=Zf (HS.out.mpr ⟨HE.out,p1.1,p1.2.1,p1.2.2,p2⟩);clear p1 p2;go_wp2_with fail;refine(C1.out _).mono ?_;rintro e w2 ⟨rfl,rfl⟩;go_wp2_with fail;refine(C3.out _ X1.out).mono ?_;rintro e w3 ⟨rfl,_,hX⟩;have X3:=Zf hX;clear hX d1 d2;go_wp2;go_roundw
     case rel=>exact⟨k+1,by omega,by go_num,Zf X3.out.bel,HOK⟩
     case measure=>simp[intOf];omega
   ·have C1:=Zf (Zcx x y np hp false ⟨fun q => Zx q,fun q => absurd q p1⟩)
    have HX:=Zf (HBAD.out (fun z=>p1 ⟨(HS.out.mp z).2.1,(HS.out.mp z).2.2.1,(HS.out.mp z).2.2.2.1⟩));clear p1;go_wp2_with fail;refine(C1.out _).mono ?_;rintro e w2 ⟨rfl,rfl⟩;go_wp2;go_ret;exact⟨by rw[HX.out];rfl,X1.out.bel⟩
  ·have e: ne = k:=by omega
   subst e;have HYES:=Zf (show r=true from HR.out.mpr (by
    have h:=HE.out
    rwa [Z6 (by rw[HM.out];omega)]at h))
   go_wp2;go_ret;exact⟨by rw[HYES.out];rfl,BR.out⟩
theorem Znx(x y z:Int)(v1 v2 v3:Int)(g:Nat)(r:Bool)(hr:r=true↔(y,z)=(v2,v3))(w:World)(h1:w.cell? ⟨g,1,none⟩=some (.int .i64 v2))(h2:w.cell? ⟨g,2,none⟩=some (.int .i64 v3)):
  Calls Zg 189 #[.agg #[.int .i64 x,.int .i64 y,.int .i64 z],.pointer (some ⟨g,0,none⟩)] w fun e w'=>e=.returned (.bool r)/\Below w.heap.size w w':=by
 have hg:=Zw _ _ h1;simp only at hg;by_cases k1:y=v2
 ·have b1: (y == v2) = true:=by simpa using k1
  by_cases k2:z=v3
  ·obtain rfl: r = true:=hr.mpr (by rw [k1,k2])
   have b2:(z==v3)=true:=by simpa using k2
   clear hr k1 k2;go_enter func189,ntmps189;go_wp2;go_ret;exact⟨rfl,Zaa _⟩
  ·obtain rfl: r = false:=by rw [<- ZF]; exact fun h => k2 (by injection hr.mp h)
   have b2:(z==v3)=false:=by simpa using k2
   clear hr k1 k2;go_enter func189,ntmps189;go_wp2;go_ret;exact⟨rfl,Zaa _⟩
 ·obtain rfl: r = false:=by rw [<- ZF]; exact fun h => k1 (by injection hr.mp h)
  have b1:(y==v2)=false:=by simpa using k1
  clear hr k1;go_enter func189,ntmps189;go_wp2;go_ret;exact⟨rfl,Zaa _⟩
structure BxF2(w:World)(P F:Option Addr)(g:Nat)(x y z:Int)(ps fs:List (Int×Int×Int))(w':World):Prop where
 bel:Below w.heap.size w w'
 e0:w'.cell? ⟨g,0,none⟩=some (.int .i64 x)
 e1:w'.cell? ⟨g,1,none⟩=some (.int .i64 y)
 e2:w'.cell? ⟨g,2,none⟩=some (.int .i64 z)
 l:Trips w' w.heap.size P ps
 f:Trips w' w.heap.size F fs
theorem BxF2.next{w w1 w2:World}{P F:Option Addr}{g:Nat}{x y z:Int}{ps fs:List (Int×Int×Int)}(h:BxF2 w P F g x y z ps fs w1)(hb:Below w1.heap.size w1 w2):BxF2 w P F g x y z ps fs w2:=
 ⟨h.bel.trans (hb.mono h.bel.size),(hb.cell (Zw _ _ h.e0)).trans h.e0,(hb.cell (Zw _ _ h.e1)).trans h.e1,(hb.cell (Zw _ _ h.e2)).trans h.e2,h.l.keep fun a ha=>hb.cell (ZE ha h.bel.size),h.f.keep fun a ha=>hb.cell (ZE ha h.bel.size)⟩
theorem Trips.take{w:World}{B:Nat}{A:Option Addr}{es:List (Int×Int×Int)}(h:Trips w B A es)(k:Nat):Trips w B A (es.take k):=fun hn=>by
 obtain⟨b,off,e,hb,hc⟩:=h (by rw[ZP]at hn;omega);refine⟨b,off,e,hb,fun j x hx=>hc j x ?_⟩;rw[YO]at hx;split at hx
 ·exact hx
 ·cases hx
open Classical in
theorem Zny{w:World}{P F:Option Addr}{g:Nat}{x y z:Int}{ps fs:List (Int×Int×Int)}(fc nf k:Nat)(hm:fs.length=nf)(hk:k<=nf)(hl:nf<=1000)(r:Bool)(hr:r=true↔(y,z)∈(fs.take k).map (fun f=>f.2))(W:World)(hW:BxF2 w P F g x y z ps fs W):
  Calls Zg 190 #[.slice F k fc,.func (.func 189) #[] #[.pointer (some ⟨g,0,none⟩)]] W fun e w'=>e=.returned (.bool r)/\Below W.heap.size W w':=
 (Zl1 F fc k (fs.take k) 189 #[.pointer (some ⟨g,0,none⟩)] (Za1 func189 (by kernel_rfl) rfl)
  (fun j=>decide (∃f,(fs.take k)[j]?=some f/\f.2=(y,z))) (fun _ V=>BxF2 w P F g x y z ps fs V/\Below W.heap.size W V) w.heap.size (by rw[ZP];omega) (by omega)
  (fun j V h=>h.1.f.take k)
  (fun j u v t V hj h=>(Znx u v t x y z g (decide (∃f,(fs.take k)[j]?=some f/\f.2=(y,z))) (by rw[decide_eq_true_iff,hj];simp) V h.1.e1 h.1.e2).mono fun e w' ⟨he,hb⟩=>⟨he,h.1.next hb,h.2.trans (hb.mono h.2.size)⟩)
  r (by
   rw[hr,List.mem_map];constructor
   ·rintro ⟨f,hf,e⟩
    obtain⟨j,hj⟩:=YB.mp hf;refine⟨j,?_,by rw[decide_eq_true_iff];exact⟨f,hj,e⟩⟩;have:=(Zs.1 hj).1;rw[ZP]at this;omega
   ·rintro ⟨j,_,hj⟩
    obtain⟨f,hf,e⟩:=of_decide_eq_true hj;exact⟨f,ZC hf,e⟩) W ⟨hW,Zl _ _⟩).mono fun e w' ⟨he,_,_,hb⟩=>⟨he,hb⟩
theorem ZiH(P F:Option Addr)(pc np fc nf:Nat)(ps fs:List (Int×Int×Int))(r:Bool)(hr:r=true↔FutsOk ps fs)(w:World)(hn:ps.length=np)(hl0:np<=1000)(hm:fs.length=nf)(hl:nf<=1000)(hc:nf<=fc)(hT:Trips w w.heap.size P ps)(hP:Trips w w.heap.size F fs)(hok:ZaM ps):
  Calls Zg 134 #[.slice F nf fc,.slice P np pc] w fun e w'=>e=.returned (.bool r)/\Below w.heap.size w w':=by
 have HN:=Zf hn;have HM:=Zf hm;have HR:=Zf hr;have HP:=Zf hP;have HT:=Zf hT;have HO:=Zf hok;clear hP hm hr hT hn hok;go_enter func134,ntmps134;go_wp2;go_loopw [10] (fun v wr=>∃k:Nat,k<=nf/\v=.int .i64 k/\Hid (Below w.heap.size w wr)/\Hid (FutsOk ps (fs.take k))) (fun v _=>nf - (intOf v).toNat)
 case atStart=>exact⟨0,Zu _,rfl,Zf (Zl _ _),Zf ⟨fun e he=>by simp at he,by simp⟩⟩
 case round=>
  obtain⟨k,hk,rfl,BR,HE⟩:=hrel;by_cases hlt:k<nf
  ·have hPr:=HP.out.below BR.out
   obtain⟨bk,off,x,y,z,rfl,hbg,hek,d1,d2,d3⟩:=hPr.at_ (k:=k) (by rw[HM.out];exact hlt);have HS:=Zf (ZjO (ps:=ps) hek);have HBAD:=Zf (fun h:¬FutsOk ps (fs.take (k+1))=>show r=false by
    rw[<-ZF];exact fun z=>h (ZjN (HR.out.mp z) _))
   have X1:Hid (BxF2 w P (some ⟨bk,off,none⟩) wr.heap.size x y z ps fs (wr.alloc (.cells #[.int .i64 x,.int .i64 y,.int .i64 z] 220))):=
    Zf ⟨BR.out.trans ((Zaa _).mono BR.out.size),by rw[Zp _ _ _ _ rfl];rfl,by rw[Zp _ _ _ _ rfl];rfl,by rw[Zp _ _ _ _ rfl];rfl,(HT.out.below BR.out).keep fun a ha=>Yu _ _ _ (ZE ha BR.out.size),hPr.keep fun a ha=>Yu _ _ _ (ZE ha BR.out.size)⟩
   have n6:=Zeg X1.out.e0;have n7:=Zeg X1.out.e1;have n8:=Zeg X1.out.e2;have CA:=Zf (fun r' hr' W hW=>Zny fc nf k HM.out (by omega) hl r' hr' W (X1.out.next hW));have hk2:k<=fc:=by omega
   clear hek hPr;by_cases p1:(0<=x/\x<np)/\(0<=y/\y<np)/\x≠y
   ·have C1:=Zf (Zcx x y np hl0 true ⟨fun _ => p1,fun _ => rfl⟩)
    obtain⟨u,rfl⟩:∃u:Nat,y=(u:Int):=⟨y.toNat,by omega⟩;have hu:u<np:=by omega
    obtain⟨bp,op,o1,o2,wk,rfl,hbp,hpk,f1,f2,f3⟩:=X1.out.l.at_ (k:=u) (by rw[HN.out];exact hu);have n9:=Zeg f3;have hwk:=(HO.out _ (ZC hpk));have hw1:1<=wk:=hwk.2.2.2.2.1;have hw2:wk<=100:=hwk.2.2.2.2.2;have HPK:=Zf hpk;clear f1 f2 f3 hpk hwk;by_cases p2:1<=z/\z<=wk - 1
    ·have C2:=Zf (ZaY z 1 (wk - 1) true ⟨fun _ => p2,fun _ => rfl⟩)
     have HFO:Hid (FutOne ps (x,(u:Int),z)):=Zf ⟨by rw[HN.out];exact p1.1,by rw[HN.out];exact p1.2.1,p1.2.2,p2.1,fun e he=>by simp only[Int.toNat_natCast]at he;rw[HPK.out]at he;injection he with he;subst he;show z<wk;omega⟩
     by_cases p3:((u:Int),z)∈(fs.take k).map (fun f=>f.2)
     ·have C3:=Zf (CA.out true ⟨fun _ => p3,fun _ => rfl⟩)
      have HX:=Zf (HBAD.out (fun q=>(HS.out.mp q).2.2 p3));clear p1 p2 p3;go_wp2_with fail;refine ZbS _ (by kernel_rfl) (by kernel_rfl) (Zm _) ?_
      repeat (go_big_quiet_step (first
       |(go_at_call 187;exact Zcg (C1.out _))
       |(go_at_call 183;exact Zcg (C2.out _))
       |(go_at_call 190;exact ZmY (C3.out _ (Near.h _)) (Zm _))))
      refine wpQuiet_nil ?_;intro W hW;have X2:=Zf (X1.out.next hW);clear hW d1 d2 d3;go_wp2;go_ret;exact⟨by rw[HX.out];rfl,X2.out.bel⟩
     ·have C3:=Zf (CA.out false ⟨fun q => Zx q,fun q => absurd q p3⟩)
      have HOK:=Zf (HS.out.mpr ⟨HE.out,HFO.out,p3⟩);clear p1 p2 p3;go_wp2_with fail;refine ZbS _ (by kernel_rfl) (by kernel_rfl) (Zm _) ?_
      repeat (go_big_quiet_step (first
       |(go_at_call 187;exact Zcg (C1.out _))
       |(go_at_call 183;exact Zcg (C2.out _))
       |(go_at_call 190;exact ZmY (C3.out _ (Near.h _)) (Zm _))))
      refine wpQuiet_nil ?_;intro W hW;have X2:=Zf (X1.out.next hW);clear hW d1 d2 d3;go_wp2;go_roundw
      case rel=>exact⟨k+1,by omega,by go_num,Zf X2.out.bel,HOK⟩
      case measure=>simp[intOf];omega
    ·have C2:=Zf (ZaY z 1 (wk - 1) false ⟨fun q => Zx q,fun q => absurd q p2⟩)
     have HX:=Zf (HBAD.out (fun q=>p2 (by
      have h:=(HS.out.mp q).2.1;have h1:=h.first;have h2:=h.last _ (by simp only[Int.toNat_natCast];exact HPK.out)
      simp only at h1 h2;omega)))
     clear p1 p2;go_wp2_with fail;refine ZbS _ (by kernel_rfl) (by kernel_rfl) (Zm _) ?_
     repeat (go_big_quiet_step (first
      |(go_at_call 187;exact Zcg (C1.out _))
      |(go_at_call 183;exact Zcg (C2.out _))))
     refine wpQuiet_nil ?_;intro W hW;have X2:=Zf (X1.out.next hW);clear hW d1 d2 d3;go_wp2;go_ret;exact⟨by rw[HX.out];rfl,X2.out.bel⟩
   ·have C1:=Zf (Zcx x y np hl0 false ⟨fun q => Zx q,fun q => absurd q p1⟩)
    have HX:=Zf (HBAD.out (fun q=>p1 (by
     have h:=(HS.out.mp q).2.1;have h1:=h.maker;have h2:=h.user;have h3:=h.apart;rw[HN.out]at h1 h2;exact⟨h1,h2,h3⟩)))
    clear p1;go_wp2_with fail;refine ZbS _ (by kernel_rfl) (by kernel_rfl) (Zm _) ?_
    repeat (go_big_quiet_step (first
     |(go_at_call 187;exact Zcg (C1.out _))))
    refine wpQuiet_nil ?_;intro W hW;have X2:=Zf (X1.out.next hW);clear hW d1 d2 d3;go_wp2;go_ret;exact⟨by rw[HX.out];rfl,X2.out.bel⟩
  ·have e: nf = k:=by omega
   subst e;have HYES:=Zf (show r=true from HR.out.mpr (by
    have h:=HE.out
    rwa [Z6 (by rw[HM.out];omega)]at h))
   go_wp2;go_ret;exact⟨by rw[HYES.out];rfl,BR.out⟩
theorem Znz(x last:Int)(np:Nat)(g gp:Nat)(hnp:np<=1000)(r:Bool)(hr:r=true↔ ¬(last<x/\0<=x/\x<np))(w:World)(h1:w.heap[g]?=some (.cells #[.int .i64 last] 3 (0,0)))
  (h2:w.cell? ⟨gp,0,none⟩=some (.int .i64 np))(hne:g≠gp):
  Calls Zg 223 #[.int .i64 x,.pointer (some ⟨g,0,none⟩),.pointer (some ⟨gp,0,none⟩)] w fun e w'=>e=.returned (.bool r)/\w.setCell ⟨g,0,none⟩ (.int .i64 x)=w':=by
 have c1:w.cell? ⟨g,0,none⟩=some (.int .i64 last):=cell_of_one h1;have f1:w.frozen? ⟨g,0,none⟩=false:=free_of_one h1;have c2:(w.setCell ⟨g,0,none⟩ (.int .i64 x)).cell? ⟨gp,0,none⟩=some (.int .i64 np):=by rw[<-h2];simp[World.cell?,World.setCell,Array.getElem?_modify,hne]
 by_cases k1:last<x
 ·by_cases k2: 0 <= x /\ x < np
  ·have C:=Zf (Zcc x np hnp true ⟨fun _ => k2,fun _ => rfl⟩)
   obtain rfl:r=false:=by rw[<-ZF];exact fun h=>hr.mp h ⟨k1,k2⟩
   clear hr k2 h1 h2 hne;go_enter func223,ntmps223;go_wp2_with fail;refine(C.out _).mono ?_;rintro e w' ⟨rfl,rfl⟩;go_wp2;go_ret;exact⟨rfl,rfl⟩
  ·have C:=Zf (Zcc x np hnp false ⟨fun q => Zx q,fun q => absurd q k2⟩)
   obtain rfl:r=true:=hr.mpr fun h=>k2 h.2;clear hr k2 h1 h2 hne;go_enter func223,ntmps223;go_wp2_with fail;refine(C.out _).mono ?_;rintro e w' ⟨rfl,rfl⟩;go_wp2;go_ret;exact⟨rfl,rfl⟩
 ·obtain rfl: r = true:=hr.mpr fun h => k1 h.1
  clear hr h1 h2 hne;go_enter func223,ntmps223;go_wp2;go_ret;exact⟨rfl,rfl⟩
def ZjQ(l:List Int)(k:Nat):Int:=if k=0 then -1 else l.getD (k - 1) 0
def badI(np:Nat)(l:List Int)(k:Nat):Bool:=match l[k]? with|some x=>decide (¬(ZjQ l k<x/\0<=x/\x<np))|none=>false
theorem ZnA{np:Nat}{l:List Int}:RowOk np l↔0<l.length/\¬ ∃j,j<l.length/\badI np l j=true:=by
 constructor
 ·intro h
  refine⟨h.some_,?_⟩;rintro⟨j,hj,hb⟩;unfold badI at hb;rw[Zh hj]at hb;refine of_decide_eq_true hb ⟨?_,h.parts _ (Zz _)⟩;unfold ZjQ;split
  ·have:=(h.parts _ (Zz hj)).1
   omega
  ·rename_i h0
   have e:l[j - 1]?=some (l.getD (j - 1) 0):=by rw[Zi,Zh (by omega)];rfl
   exact h.rises (j - 1) _ _ e (by rw[show j - 1+1=j by omega];exact Zh hj)
 ·rintro ⟨h0,h⟩
  have hg:∀j x,l[j]?=some x->ZjQ l j<x/\0<=x/\x<np:=fun j x hx=>by refine Zn fun hn=>h ⟨j,(Zs.1 hx).1,?_⟩;unfold badI;rw[hx];exact Ze hn
  refine⟨h0,fun x hx=> ?_,fun i x y hx hy=> ?_⟩
  ·obtain ⟨j,hj⟩:=YB.mp hx
   exact(hg j x hj).2
  ·have:=(hg (i + 1) y hy).1
   unfold ZjQ at this;rw[Zb (by omega),Zi,show i+1 - 1=i by omega,hx]at this;exact this
structure StS(w:World)(A:Option Addr)(g gp np:Nat)(l:List Int)(k:Nat)(W:World):Prop where
 bel:Below w.heap.size w W
 last:W.heap[g]?=some (.cells #[.int .i64 (ZjQ l k)] 3 (0,0))
 np:W.cell? ⟨gp,0,none⟩=some (.int .i64 np)
 l:Ints W w.heap.size A l
theorem ZpD(A:Option Addr)(c n np:Nat)(l:List Int)(r:Bool)(hr:r=true↔RowOk np l)(w:World)(hn:l.length=n)(hl:n<=1000)(hnp:np<=1000)(hI:Ints w w.heap.size A l):
    Calls Zg 194 #[.slice A n c,.int .i64 np] w fun e w'=>e=.returned (.bool r)/\Below w.heap.size w w':=by
  rw[ZnA,hn]at hr;have C:=Zf (fun(r':Bool) (hr':r'=true↔ ∃j,j<n/\badI np l j=true) W hW=>Zk9 A c n l 223 #[.pointer (some ⟨w.heap.size+1,0,none⟩),.pointer (some ⟨w.heap.size,0,none⟩)] (Za1 func223 (by kernel_rfl) rfl)
    (badI np l) (fun k W=>StS w A (w.heap.size+1) w.heap.size np l k W) w.heap.size hn hl (fun k W h=>h.l)
    (fun k x W hk h=>(Znz x (ZjQ l k) np (w.heap.size+1) w.heap.size hnp (badI np l k) (by unfold badI;rw[hk,decide_eq_true_iff]) W h.last h.np (by omega)).mono fun e w' ⟨he,hw⟩=>⟨he,by
      subst hw;have hb:Below (w.heap.size+1) W (W.setCell ⟨w.heap.size+1,0,none⟩ (.int .i64 x)):=(Zl (w.heap.size+1) W).setCell (p:=⟨w.heap.size+1,0,none⟩) (Zm _) _;refine⟨h.bel.setCell (p:=⟨w.heap.size+1,0,none⟩) (Nat.le_succ _) _,?_,(hb.cell (by show w.heap.size<_;omega)).trans h.np,h.l.keep fun a ha=>hb.cell (by omega)⟩;have:=one_setCell (u:=.int .i64 x) h.last;rw[this];unfold ZjQ;rw[Zb (by omega),Zi,show k+1 - 1=k by omega,hk];rfl⟩)
    r' hr' W hW)
  have X0:Hid (StS w A (w.heap.size+1) w.heap.size np l 0 ((w.alloc (.cells #[.int .i64 np] 3)).alloc (.cells #[.int .i64 (-1)] 3))):=Zf (by
    have hs:(w.alloc (.cells #[.int .i64 np] 3)).heap.size=w.heap.size+1:=by simp
    have hb:Below w.heap.size w ((w.alloc (.cells #[.int .i64 np] 3)).alloc (.cells #[.int .i64 (-1)] 3)):=(Zaa _).trans ((Zaa _).mono (by omega));refine⟨hb,?_,?_,hI.below hb⟩
    · rw[<-hs];exact heap_alloc_new _ _
    · rw[Yu _ _ _ (by show w.heap.size<_;omega),Zp _ _ _ _ rfl];rfl)
  clear hI;by_cases h0:n=0
  · obtain rfl:r=false:=by rw[<-ZF];exact fun h=>absurd (hr.mp h).1 (by omega)
    subst h0;clear hr;go_enter func194,ntmps194;go_wp2;go_ret;exact⟨rfl,X0.out.bel⟩
  · have h1:decide ((0:Int)<(n:Int))=true:=by rw[decide_eq_true_iff];omega
    have h2:decide (0<n)=true:=by rw[decide_eq_true_iff];omega
    have C1:=Zf (C.out (!r) (by
      rw[Bool.not_eq_true',<-ZF,hr];constructor
      · intro h;exact Zn fun hn=>h ⟨by omega,hn⟩
      · rintro h ⟨_,hn⟩;exact hn h))
    clear hr h0;cases r with
    | true =>
      go_enter func194,ntmps194;go_wp2_with fail;refine(C1.out _ X0.out).mono ?_
      rintro e w' ⟨rfl,k,hX⟩;go_wp2;go_ret;exact⟨rfl,hX.bel⟩
    | false =>go_enter func194,ntmps194;go_wp2_with fail;refine(C1.out _ X0.out).mono ?_;rintro e w' ⟨rfl,k,hX⟩;go_wp2;go_ret;exact⟨rfl,hX.bel⟩
theorem ZpE(x:Int)(A1:Option Addr)(c1 n1:Nat)(xs:List Int)(g:Nat)(hn:xs.length=n1)(hl:n1<=1000)(r:Bool)(hr:r=true↔x∈xs)(w:World)(B:Nat)(hI:Ints w B A1 xs)(h0:w.cell? ⟨g,0,none⟩=some (.slice A1 n1 c1)):
  Calls Zg 193 #[.int .i64 x,.pointer (some ⟨g,0,none⟩)] w fun e w'=>e=.returned (.bool r)/\w=w':=by
 have C:=Zf (Zsk A1 c1 n1 xs x r hr w B hn hl hI);clear hr hI;go_enter func193,ntmps193;go_wp2_with fail;refine C.out.mono ?_;rintro e w' ⟨rfl,rfl⟩;go_wp2;go_ret;exact⟨rfl,rfl⟩
structure StB(w:World)(A1:Option Addr)(n1 c1:Nat)(A2:Option Addr)(n2 c2 gp np:Nat)(xs ys:List Int)(W:World):Prop where
 bel:Below w.heap.size w W
 b0:W.cell? ⟨w.heap.size,0,none⟩=some (.slice A1 n1 c1)
 b1:W.cell? ⟨w.heap.size,1,none⟩=some (.slice A2 n2 c2)
 np:W.cell? ⟨gp,0,none⟩=some (.int .i64 np)
 xs:Ints W w.heap.size A1 xs
 ys:Ints W w.heap.size A2 ys
theorem StB.next{w w1 w2:World}{A1:Option Addr}{n1 c1:Nat}{A2:Option Addr}{n2 c2 gp np:Nat}{xs ys:List Int}(h:StB w A1 n1 c1 A2 n2 c2 gp np xs ys w1)(hb:Below w1.heap.size w1 w2):StB w A1 n1 c1 A2 n2 c2 gp np xs ys w2:=
 ⟨h.bel.trans (hb.mono h.bel.size),(hb.cell (Zw _ _ h.b0)).trans h.b0,(hb.cell (Zw _ _ h.b1)).trans h.b1,(hb.cell (Zw _ _ h.np)).trans h.np,h.xs.keep fun a ha=>hb.cell (ZE ha h.bel.size),h.ys.keep fun a ha=>hb.cell (ZE ha h.bel.size)⟩
theorem ZpF(A1:Option Addr)(c1 n1:Nat)(A2:Option Addr)(c2 n2 gp np:Nat)(xs ys:List Int)(r:Bool)(hr:r=true↔ ¬BarOne np (xs,ys))(w:World)(hn1:xs.length=n1)(hn2:ys.length=n2)(hl1:n1<=1000)(hl2:n2<=1000)(hnp:np<=1000)
  (hx:Ints w w.heap.size A1 xs)(hy:Ints w w.heap.size A2 ys)(hg:w.cell? ⟨gp,0,none⟩=some (.int .i64 np)):
  Calls Zg 192 #[.agg #[.slice A1 n1 c1,.slice A2 n2 c2],.pointer (some ⟨gp,0,none⟩)] w fun e w'=>e=.returned (.bool r)/\Below w.heap.size w w':=by
 have X0:Hid (StB w A1 n1 c1 A2 n2 c2 gp np xs ys (w.alloc (.cells #[.slice A1 n1 c1,.slice A2 n2 c2] 122))):=Zf
  ⟨Zaa _,by rw[Zp _ _ _ _ rfl];rfl,by rw[Zp _ _ _ _ rfl];rfl,(Yu _ _ _ (Zw _ _ hg)).trans hg,hx.below (Zaa _),hy.below (Zaa _)⟩
 have CS:=Zf (fun(A:Option Addr) (c n:Nat) (l:List Int) (r:Bool) (hr:r=true↔RowOk np l) (W:World) hn hl hI=>ZpD A c n np l r hr W hn hl hnp hI);have CI:=Zf (fun(r':Bool) (hr':r'=true↔ ∃j,j<n2/\(match ys[j]? with|some x=>decide (x∈xs)|none=>false)=true) W hW=>Zk9 A2 c2 n2 ys 193 #[.pointer (some ⟨w.heap.size,0,none⟩)] (Za1 func193 (by kernel_rfl) rfl)
  (fun j=>match ys[j]? with|some x=>decide (x∈xs)|none=>false) (fun _ W=>StB w A1 n1 c1 A2 n2 c2 gp np xs ys W) w.heap.size hn2 hl2 (fun k W h=>h.ys)
  (fun k x W hk h=>(ZpE x A1 c1 n1 xs w.heap.size hn1 hl1 (match ys[k]? with|some x=>decide (x∈xs)|none=>false) (by rw[hk];exact decide_eq_true_iff) W w.heap.size h.xs h.b0).mono fun e w' ⟨he,hw⟩=>⟨he,hw▸h⟩)
  r' hr' W hW)
 have HIN:Hid ((∃j,j<n2/\(match ys[j]? with|some x=>decide (x∈xs)|none=>false)=true)↔ ¬ ∀x∈xs,x∉ys):=Zf (by
  constructor
  ·rintro ⟨j,hj,h⟩ hall
   rw[Zh (by omega)]at h;exact hall _ (of_decide_eq_true h) (Zz _)
  ·intro h
   rw[Classical.not_forall]at h;obtain⟨x,h⟩:=h;rw[Classical.not_imp,Z8]at h;obtain⟨j,hj⟩:=YB.mp h.2;refine⟨j,?_,by rw[hj];exact Ze h.1⟩;have:=(Zs.1 hj).1;omega)
 obtain⟨k0,k1,k2⟩:w.heap.size<(w.alloc (.cells #[.slice A1 n1 c1,.slice A2 n2 c2] 122)).heap.size/\True/\True:=⟨by simp,trivial,trivial⟩;have c0:=(Yu w _ (o:=.cells #[.slice A1 n1 c1,.slice A2 n2 c2] 122) (Zw _ _ hg)).trans hg;clear hx hy hg k1 k2;by_cases p1:RowOk np xs
 ·by_cases p2: RowOk np ys
  ·by_cases p3:∀ x ∈ xs,x ∉ ys
   ·obtain rfl: r = false:=by rw [<- ZF]; exact fun h => hr.mp h ⟨p1,p2,p3⟩
    have S1:=Zf (CS.out A1 c1 n1 xs true ⟨fun _=>p1,fun _=>rfl⟩);have S2:=Zf (CS.out A2 c2 n2 ys true ⟨fun _=>p2,fun _=>rfl⟩);have S3:=Zf (CI.out false ⟨fun q=>Zx q,fun q=>absurd p3 (HIN.out.mp q)⟩);clear hr p1 p2 p3;go_enter func192,ntmps192;go_wp2_with fail;refine(S1.out _ hn1 hl1 (X0.out.xs.more X0.out.bel.size)).mono ?_;rintro e w2 ⟨rfl,b⟩;have X2:=Zf (X0.out.next b);clear b c0;have e1:=X2.out.b1;have e2:=X2.out.np;go_wp2_with fail;refine(S2.out _ hn2 hl2 (X2.out.ys.more X2.out.bel.size)).mono ?_;rintro e w3 ⟨rfl,b⟩;have X3:=Zf (X2.out.next b);clear b e1 e2;have e1:=X3.out.b1;go_wp2_with fail;refine(S3.out _ X3.out).mono ?_;rintro e w4 ⟨rfl,_,hX⟩;go_wp2;go_ret;exact⟨rfl,hX.bel⟩
   ·obtain rfl: r = true:=hr.mpr fun h => p3 h.apart
    have S1:=Zf (CS.out A1 c1 n1 xs true ⟨fun _=>p1,fun _=>rfl⟩);have S2:=Zf (CS.out A2 c2 n2 ys true ⟨fun _=>p2,fun _=>rfl⟩);have S3:=Zf (CI.out true ⟨fun _=>HIN.out.mpr p3,fun _=>rfl⟩);clear hr p1 p2 p3;go_enter func192,ntmps192;go_wp2_with fail;refine(S1.out _ hn1 hl1 (X0.out.xs.more X0.out.bel.size)).mono ?_;rintro e w2 ⟨rfl,b⟩;have X2:=Zf (X0.out.next b);clear b c0;have e1:=X2.out.b1;have e2:=X2.out.np;go_wp2_with fail;refine(S2.out _ hn2 hl2 (X2.out.ys.more X2.out.bel.size)).mono ?_;rintro e w3 ⟨rfl,b⟩;have X3:=Zf (X2.out.next b);clear b e1 e2;have e1:=X3.out.b1;go_wp2_with fail;refine(S3.out _ X3.out).mono ?_;rintro e w4 ⟨rfl,_,hX⟩;go_wp2;go_ret;exact⟨rfl,hX.bel⟩
  ·obtain rfl: r = true:=hr.mpr fun h => p2 h.outs
   have S1:=Zf (CS.out A1 c1 n1 xs true ⟨fun _=>p1,fun _=>rfl⟩);have S2:=Zf (CS.out A2 c2 n2 ys false ⟨fun q=>Zx q,fun q=>absurd q p2⟩);clear hr p1 p2;go_enter func192,ntmps192;go_wp2_with fail;refine(S1.out _ hn1 hl1 (X0.out.xs.more X0.out.bel.size)).mono ?_;rintro e w2 ⟨rfl,b⟩;have X2:=Zf (X0.out.next b);clear b c0;have e1:=X2.out.b1;have e2:=X2.out.np;go_wp2_with fail;refine(S2.out _ hn2 hl2 (X2.out.ys.more X2.out.bel.size)).mono ?_;rintro e w3 ⟨rfl,b⟩;have X3:=Zf (X2.out.next b);clear b e1 e2;go_wp2;go_ret;exact⟨rfl,X3.out.bel⟩
 ·obtain rfl: r = true:=hr.mpr fun h => p1 h.ins
  have S1:=Zf (CS.out A1 c1 n1 xs false ⟨fun q=>Zx q,fun q=>absurd q p1⟩);clear hr p1;go_enter func192,ntmps192;go_wp2_with fail;refine(S1.out _ hn1 hl1 (X0.out.xs.more X0.out.bel.size)).mono ?_;rintro e w2 ⟨rfl,b⟩;have X2:=Zf (X0.out.next b);clear b c0;go_wp2;go_ret;exact⟨rfl,X2.out.bel⟩
open Classical in
theorem ZnB(A:Option Addr)(c n np:Nat)(bs:List (List Int×List Int))(r:Bool)(hr:r=true↔Zg6 np bs)(w:World)(hn:bs.length=n)(hl:n<=1000)(hnp:np<=1000)(hbl:∀b∈bs,b.1.length<=900/\b.2.length<=900)(hB:Bars w w.heap.size A bs):
    Calls Zg 135 #[.slice A n c,.int .i64 np] w fun e w'=>e=.returned (.bool r)/\Below w.heap.size w w':=by
  have hb0:Below w.heap.size w (w.alloc (.cells #[.int .i64 np] 3)):=Zaa _;have hc0:(w.alloc (.cells #[.int .i64 np] 3)).cell? ⟨w.heap.size,0,none⟩=some (.int .i64 np):=by rw[Zp _ _ _ _ rfl];rfl
  have C:=Zf (Zrj A c n bs 192 #[.pointer (some ⟨w.heap.size,0,none⟩)] (Za1 func192 (by kernel_rfl) rfl) (fun k=>match bs[k]? with|some e=>decide (¬BarOne np e)|none=>false)
    (fun _ W=>Below w.heap.size w W/\W.cell? ⟨w.heap.size,0,none⟩=some (.int .i64 np)) w.heap.size hn hl
    (fun k W h=>hB.below h.1)
    (fun k xs ys A1 n1 c1 A2 n2 c2 W hk q1 q2 q3 q4 q5 q6 h=>(ZpF A1 c1 n1 A2 c2 n2 w.heap.size np xs ys (match bs[k]? with|some e=>decide (¬BarOne np e)|none=>false) (by rw[hk];exact decide_eq_true_iff) W q1 q2
      (by have:=(hbl _ (ZC hk)).1;simp only at this;omega) (by have:=(hbl _ (ZC hk)).2;simp only at this;omega) hnp (q3.more h.1.size) (q4.more h.1.size) h.2).mono fun e w' ⟨he,hb⟩=>⟨he,h.1.trans (hb.mono h.1.size),(hb.cell (Zw _ _ h.2)).trans h.2⟩)
    (!r) (by
      rw[Bool.not_eq_true',<-ZF,hr];unfold Zg6;constructor
      · intro h;rw[Classical.not_forall]at h;obtain⟨e,h⟩:=h;rw[Classical.not_imp]at h;obtain⟨j,hj,he⟩:=List.getElem_of_mem h.1;refine⟨j,by omega,?_⟩;rw[Zh hj,he];exact Ze h.2
      · rintro⟨j,hj,h⟩ hall;rw[Zh (by omega)]at h;exact of_decide_eq_true h (hall _ (Zz _)))
    _ ⟨hb0,hc0⟩)
  clear hB hr hbl hb0 hc0;cases r with
  | true =>
    go_enter func135,ntmps135;go_wp2_with fail;refine C.out.mono ?_
    rintro e w1 ⟨rfl,k,hb⟩;go_wp2;go_ret;exact⟨rfl,hb.1⟩
  | false =>go_enter func135,ntmps135;go_wp2_with fail;refine C.out.mono ?_;rintro e w1 ⟨rfl,k,hb⟩;go_wp2;go_ret;exact⟨rfl,hb.1⟩
structure BxI(w:World)(p q:Int)(P:Option Addr)(np pc:Nat)(E:Option Addr)(ne ec:Nat)(F:Option Addr)(nf fc:Nat)(R:Option Addr)(nr rc:Nat)(T:Task)(w':World):Prop where
 b:BxD w p q P np pc E ne ec F nf fc R nr rc w'
 d:IsD w' ⟨P,np,pc,E,ne,ec,F,nf,fc,R,nr,rc⟩ T
section
variable {P: Option Addr}{np pc: Nat}{E: Option Addr}{ne ec: Nat}{F: Option Addr}{nf fc: Nat}{R: Option Addr}{nr rc: Nat}{p q: Int}{T: Task}
theorem BxI.next{w w1 w2:World}(h:BxI w p q P np pc E ne ec F nf fc R nr rc T w1)(hb:Below w1.heap.size w1 w2):BxI w p q P np pc E ne ec F nf fc R nr rc T w2:=⟨h.b.next hb,h.d.below hb⟩
theorem BxI.start{w:World}(h:IsD w ⟨P,np,pc,E,ne,ec,F,nf,fc,R,nr,rc⟩ T)(p q:Int):BxI w p q P np pc E ne ec F nf fc R nr rc T (w.alloc (.cells #[.int .i64 p,.int .i64 q,.slice P np pc,.slice E ne ec,.slice F nf fc,.slice R nr rc] 64)):=
 ⟨BxD.start w p q P np pc E ne ec F nf fc R nr rc,h.below (Zaa _)⟩
end
theorem ZeP(s:Sh)(T:Task)(w:World)(hD:IsD w s T):
  Calls Zg 72 #[s.arg T.period T.deadline] w fun e w'=>e=.returned (.int .i64 (chkT T))/\Below w.heap.size w w':=by
 obtain⟨P,np,pc,E,ne,ec,F,nf,fc,R,nr,rc⟩:=s;obtain⟨p,q,ps,es,fs,bs⟩:=T;have B0:=Zf (BxI.start hD p q);have hp:=hD.t.hp;have he:=hD.t.he;have hf:=hD.t.hf;have hr:=hD.t.hr;have hFp:=hD.few.np;have hFe:=hD.few.ne;have hFf:=hD.few.nf;have hFr:=hD.few.nr;simp only at hp he hf hr hFp hFe hFf hFr;have HFB:=Zf hD.few.bars;have HP:=Zf hp;have HE:=Zf he;have HFL:=Zf hf;have HRL:=Zf hr;rw[hp]at hFp;rw[he]at hFe;rw[hf]at hFf;rw[hr]at hFr;simp only[Sh.arg];have HMANY:=Zf (show(¬ZhK ⟨p,q,ps,es,fs,bs⟩)↔1<=np/\np<=16/\ne<=48/\nf<=16/\nr<=4 by unfold ZhK;simp only;rw[hp,he,hf,hr];omega);have C0:=Zf (fun(r:Bool) (hr:r=true↔1<=np/\np<=16/\ne<=48/\nf<=16/\nr<=4) (W':World) (_:IsD W' ⟨P,np,pc,E,ne,ec,F,nf,fc,R,nr,rc⟩ ⟨p,q,ps,es,fs,bs⟩)=>ZlZ (P:=P) (np:=np) (pc:=pc) (E:=E) (ne:=ne) (ec:=ec) (F:=F) (nf:=nf) (fc:=fc) (R:=R) (nr:=nr) (rc:=rc) (p:=p) (q:=q) r hr W' (by omega) (by omega) (by omega) (by omega));have C1:=Zf (fun(r:Bool) (hr:r=true↔Zjq p q=true) (W':World) (h:IsD W' ⟨P,np,pc,E,ne,ec,F,nf,fc,R,nr,rc⟩ ⟨p,q,ps,es,fs,bs⟩)=>(ZnF (P:=P) (np:=np) (pc:=pc) (E:=E) (ne:=ne) (ec:=ec) (F:=F) (nf:=nf) (fc:=fc) (R:=R) (nr:=nr) (rc:=rc) (p:=p) (q:=q) W' h.tab).mono fun e w' k=>show e=.returned (.bool r)/\Below W'.heap.size W' w' from⟨by rw[k.1,Bool.eq_iff_iff.mpr hr],k.2⟩);have C2:=Zf (fun(r:Bool) (hr:r=true↔ZaM ps) (W':World) (h:IsD W' ⟨P,np,pc,E,ne,ec,F,nf,fc,R,nr,rc⟩ ⟨p,q,ps,es,fs,bs⟩)=>Zl2 P pc np ps r hr W' hp (by omega) h.t.parts);have C3:=Zf (fun(r:Bool) (hr:r=true↔ZaI np es) (W':World) (h:IsD W' ⟨P,np,pc,E,ne,ec,F,nf,fc,R,nr,rc⟩ ⟨p,q,ps,es,fs,bs⟩)=>ZlW E ec ne np es r hr W' he (by omega) (by omega) h.lE h.t.edges);have C4:=Zf (fun(hok:ZaM ps) (r:Bool) (hr:r=true↔FutsOk ps fs) (W':World) (h:IsD W' ⟨P,np,pc,E,ne,ec,F,nf,fc,R,nr,rc⟩ ⟨p,q,ps,es,fs,bs⟩)=>ZiH P F pc np fc nf ps fs r hr W' hp (by omega) hf (by omega) h.lF h.t.parts h.t.futures hok);have C5:=Zf (fun(r:Bool) (hr':r=true↔Zg6 np bs) (W':World) (h:IsD W' ⟨P,np,pc,E,ne,ec,F,nf,fc,R,nr,rc⟩ ⟨p,q,ps,es,fs,bs⟩)=>ZnB R rc nr np bs r hr' W' hr (by omega) (by omega) (fun b hb=>by have:=HFB.out b hb;omega) h.t.bars);obtain⟨r,hres⟩:∃r,r=chkT ⟨p,q,ps,es,fs,bs⟩:=⟨_,rfl⟩;rw[<-hres];have HRES:=Zf hres;clear hD hp he hf hr hres hFp hFe hFf hFr;by_cases p0:1<=np/\np<=16/\ne<=48/\nf<=16/\nr<=4
 ·have P0:=Zf p0
  clear p0;by_cases p1:Zjq p q=true
  ·have P1:=Zf p1
   clear p1;by_cases p2:ZaM ps
   ·have P2:=Zf p2
    clear p2;by_cases p3:ZaI np es
    ·have P3:=Zf p3
     clear p3;by_cases p4:FutsOk ps fs
     ·have P4:=Zf p4
      clear p4;by_cases p5:Zg6 np bs
      ·have P5:=Zf p5
       clear p5;have HX:=Zf (show chkT ⟨p,q,ps,es,fs,bs⟩=0 by unfold chkT;rw[Zb (HMANY.out.mpr P0.out),Zb (by simp only;rw[P1.out];exact fun k=>Zx k),Zb (fun k=>k P2.out),Zb (fun k=>k (by simp only;rw[HP.out];exact P3.out)),Zb (fun k=>k P4.out),Zb (fun k=>k (by simp only;rw[HP.out];exact P5.out))]);go_enter func72,ntmps72;go_wp2_with fail;refine(C0.out true ⟨fun _=>P0.out,fun _=>rfl⟩ _ B0.out.d).mono ?_;rintro e w1 ⟨rfl,b⟩;have B1:=Zf (B0.out.next b);clear b;obtain⟨c0,c1,c2,c3,c4,c5⟩:=B1.out.b.cells;go_wp2_with fail;refine(C1.out true ⟨fun _=>P1.out,fun _=>rfl⟩ _ B1.out.d).mono ?_;rintro e w2 ⟨rfl,b⟩;have B2:=Zf (B1.out.next b);clear b c0 c1 c2 c3 c4 c5;obtain⟨c0,c1,c2,c3,c4,c5⟩:=B2.out.b.cells;go_wp2_with fail;refine(C2.out true ⟨fun _=>P2.out,fun _=>rfl⟩ _ B2.out.d).mono ?_;rintro e w3 ⟨rfl,b⟩;have B3:=Zf (B2.out.next b);clear b c0 c1 c2 c3 c4 c5;obtain⟨c0,c1,c2,c3,c4,c5⟩:=B3.out.b.cells;go_wp2_with fail;refine(C3.out true ⟨fun _=>P3.out,fun _=>rfl⟩ _ B3.out.d).mono ?_;rintro e w4 ⟨rfl,b⟩;have B4:=Zf (B3.out.next b);clear b c0 c1 c2 c3 c4 c5;obtain⟨c0,c1,c2,c3,c4,c5⟩:=B4.out.b.cells;go_wp2_with fail;refine(C4.out P2.out true ⟨fun _=>P4.out,fun _=>rfl⟩ _ B4.out.d).mono ?_;rintro e w5 ⟨rfl,b⟩;have B5:=Zf (B4.out.next b);clear b c0 c1 c2 c3 c4 c5;obtain⟨c0,c1,c2,c3,c4,c5⟩:=B5.out.b.cells;go_wp2_with fail;refine(C5.out true ⟨fun _=>P5.out,fun _=>rfl⟩ _ B5.out.d).mono ?_;rintro e w6 ⟨rfl,b⟩;have B6:=Zf (B5.out.next b);clear b c0 c1 c2 c3 c4 c5;go_wp2;go_ret;exact⟨by rw[HRES.out,HX.out];rfl,B6.out.b.bel⟩
      ·have P5:=Zf p5
       clear p5;have HX:=Zf (show chkT ⟨p,q,ps,es,fs,bs⟩=55 by unfold chkT;rw[Zb (HMANY.out.mpr P0.out),Zb (by simp only;rw[P1.out];exact fun k=>Zx k),Zb (fun k=>k P2.out),Zb (fun k=>k (by simp only;rw[HP.out];exact P3.out)),Zb (fun k=>k P4.out),Zc (by simp only;rw[HP.out];exact P5.out)]);go_enter func72,ntmps72;go_wp2_with fail;refine(C0.out true ⟨fun _=>P0.out,fun _=>rfl⟩ _ B0.out.d).mono ?_;rintro e w1 ⟨rfl,b⟩;have B1:=Zf (B0.out.next b);clear b;obtain⟨c0,c1,c2,c3,c4,c5⟩:=B1.out.b.cells;go_wp2_with fail;refine(C1.out true ⟨fun _=>P1.out,fun _=>rfl⟩ _ B1.out.d).mono ?_;rintro e w2 ⟨rfl,b⟩;have B2:=Zf (B1.out.next b);clear b c0 c1 c2 c3 c4 c5;obtain⟨c0,c1,c2,c3,c4,c5⟩:=B2.out.b.cells;go_wp2_with fail;refine(C2.out true ⟨fun _=>P2.out,fun _=>rfl⟩ _ B2.out.d).mono ?_;rintro e w3 ⟨rfl,b⟩;have B3:=Zf (B2.out.next b);clear b c0 c1 c2 c3 c4 c5;obtain⟨c0,c1,c2,c3,c4,c5⟩:=B3.out.b.cells;go_wp2_with fail;refine(C3.out true ⟨fun _=>P3.out,fun _=>rfl⟩ _ B3.out.d).mono ?_;rintro e w4 ⟨rfl,b⟩;have B4:=Zf (B3.out.next b);clear b c0 c1 c2 c3 c4 c5;obtain⟨c0,c1,c2,c3,c4,c5⟩:=B4.out.b.cells;go_wp2_with fail;refine(C4.out P2.out true ⟨fun _=>P4.out,fun _=>rfl⟩ _ B4.out.d).mono ?_;rintro e w5 ⟨rfl,b⟩;have B5:=Zf (B4.out.next b);clear b c0 c1 c2 c3 c4 c5;obtain⟨c0,c1,c2,c3,c4,c5⟩:=B5.out.b.cells;go_wp2_with fail;refine(C5.out false ⟨fun k=>Zx k,fun k=>absurd k P5.out⟩ _ B5.out.d).mono ?_;rintro e w6 ⟨rfl,b⟩;have B6:=Zf (B5.out.next b);clear b c0 c1 c2 c3 c4 c5;go_wp2;go_ret;exact⟨by rw[HRES.out,HX.out];rfl,B6.out.b.bel⟩
     ·have P4:=Zf p4
      clear p4;have HX:=Zf (show chkT ⟨p,q,ps,es,fs,bs⟩=54 by unfold chkT;rw[Zb (HMANY.out.mpr P0.out),Zb (by simp only;rw[P1.out];exact fun k=>Zx k),Zb (fun k=>k P2.out),Zb (fun k=>k (by simp only;rw[HP.out];exact P3.out)),Zc P4.out]);go_enter func72,ntmps72;go_wp2_with fail;refine(C0.out true ⟨fun _=>P0.out,fun _=>rfl⟩ _ B0.out.d).mono ?_;rintro e w1 ⟨rfl,b⟩;have B1:=Zf (B0.out.next b);clear b;obtain⟨c0,c1,c2,c3,c4,c5⟩:=B1.out.b.cells;go_wp2_with fail;refine(C1.out true ⟨fun _=>P1.out,fun _=>rfl⟩ _ B1.out.d).mono ?_;rintro e w2 ⟨rfl,b⟩;have B2:=Zf (B1.out.next b);clear b c0 c1 c2 c3 c4 c5;obtain⟨c0,c1,c2,c3,c4,c5⟩:=B2.out.b.cells;go_wp2_with fail;refine(C2.out true ⟨fun _=>P2.out,fun _=>rfl⟩ _ B2.out.d).mono ?_;rintro e w3 ⟨rfl,b⟩;have B3:=Zf (B2.out.next b);clear b c0 c1 c2 c3 c4 c5;obtain⟨c0,c1,c2,c3,c4,c5⟩:=B3.out.b.cells;go_wp2_with fail;refine(C3.out true ⟨fun _=>P3.out,fun _=>rfl⟩ _ B3.out.d).mono ?_;rintro e w4 ⟨rfl,b⟩;have B4:=Zf (B3.out.next b);clear b c0 c1 c2 c3 c4 c5;obtain⟨c0,c1,c2,c3,c4,c5⟩:=B4.out.b.cells;go_wp2_with fail;refine(C4.out P2.out false ⟨fun k=>Zx k,fun k=>absurd k P4.out⟩ _ B4.out.d).mono ?_;rintro e w5 ⟨rfl,b⟩;have B5:=Zf (B4.out.next b);clear b c0 c1 c2 c3 c4 c5;go_wp2;go_ret;exact⟨by rw[HRES.out,HX.out];rfl,B5.out.b.bel⟩
    ·have P3:=Zf p3
     clear p3;have HX:=Zf (show chkT ⟨p,q,ps,es,fs,bs⟩=53 by unfold chkT;rw[Zb (HMANY.out.mpr P0.out),Zb (by simp only;rw[P1.out];exact fun k=>Zx k),Zb (fun k=>k P2.out),Zc (by simp only;rw[HP.out];exact P3.out)]);go_enter func72,ntmps72;go_wp2_with fail;refine(C0.out true ⟨fun _=>P0.out,fun _=>rfl⟩ _ B0.out.d).mono ?_;rintro e w1 ⟨rfl,b⟩;have B1:=Zf (B0.out.next b);clear b;obtain⟨c0,c1,c2,c3,c4,c5⟩:=B1.out.b.cells;go_wp2_with fail;refine(C1.out true ⟨fun _=>P1.out,fun _=>rfl⟩ _ B1.out.d).mono ?_;rintro e w2 ⟨rfl,b⟩;have B2:=Zf (B1.out.next b);clear b c0 c1 c2 c3 c4 c5;obtain⟨c0,c1,c2,c3,c4,c5⟩:=B2.out.b.cells;go_wp2_with fail;refine(C2.out true ⟨fun _=>P2.out,fun _=>rfl⟩ _ B2.out.d).mono ?_;rintro e w3 ⟨rfl,b⟩;have B3:=Zf (B2.out.next b);clear b c0 c1 c2 c3 c4 c5;obtain⟨c0,c1,c2,c3,c4,c5⟩:=B3.out.b.cells;go_wp2_with fail;refine(C3.out false ⟨fun k=>Zx k,fun k=>absurd k P3.out⟩ _ B3.out.d).mono ?_;rintro e w4 ⟨rfl,b⟩;have B4:=Zf (B3.out.next b);clear b c0 c1 c2 c3 c4 c5;go_wp2;go_ret;exact⟨by rw[HRES.out,HX.out];rfl,B4.out.b.bel⟩
   ·have P2:=Zf p2
    clear p2;have HX:=Zf (show chkT ⟨p,q,ps,es,fs,bs⟩=52 by unfold chkT;rw[Zb (HMANY.out.mpr P0.out),Zb (by simp only;rw[P1.out];exact fun k=>Zx k),Zc P2.out]);go_enter func72,ntmps72;go_wp2_with fail;refine(C0.out true ⟨fun _=>P0.out,fun _=>rfl⟩ _ B0.out.d).mono ?_;rintro e w1 ⟨rfl,b⟩;have B1:=Zf (B0.out.next b);clear b;obtain⟨c0,c1,c2,c3,c4,c5⟩:=B1.out.b.cells;go_wp2_with fail;refine(C1.out true ⟨fun _=>P1.out,fun _=>rfl⟩ _ B1.out.d).mono ?_;rintro e w2 ⟨rfl,b⟩;have B2:=Zf (B1.out.next b);clear b c0 c1 c2 c3 c4 c5;obtain⟨c0,c1,c2,c3,c4,c5⟩:=B2.out.b.cells;go_wp2_with fail;refine(C2.out false ⟨fun k=>Zx k,fun k=>absurd k P2.out⟩ _ B2.out.d).mono ?_;rintro e w3 ⟨rfl,b⟩;have B3:=Zf (B2.out.next b);clear b c0 c1 c2 c3 c4 c5;go_wp2;go_ret;exact⟨by rw[HRES.out,HX.out];rfl,B3.out.b.bel⟩
  ·have P1:=Zf p1
   clear p1;have HX:=Zf (show chkT ⟨p,q,ps,es,fs,bs⟩=51 by unfold chkT;rw[Zb (HMANY.out.mpr P0.out),Zc (by simp only;rw[<-ZF];exact P1.out)]);go_enter func72,ntmps72;go_wp2_with fail;refine(C0.out true ⟨fun _=>P0.out,fun _=>rfl⟩ _ B0.out.d).mono ?_;rintro e w1 ⟨rfl,b⟩;have B1:=Zf (B0.out.next b);clear b;obtain⟨c0,c1,c2,c3,c4,c5⟩:=B1.out.b.cells;go_wp2_with fail;refine(C1.out false ⟨fun k=>Zx k,fun k=>absurd k P1.out⟩ _ B1.out.d).mono ?_;rintro e w2 ⟨rfl,b⟩;have B2:=Zf (B1.out.next b);clear b c0 c1 c2 c3 c4 c5;go_wp2;go_ret;exact⟨by rw[HRES.out,HX.out];rfl,B2.out.b.bel⟩
 ·have P0:=Zf p0
  clear p0;have HX:=Zf (show chkT ⟨p,q,ps,es,fs,bs⟩=50 by unfold chkT;rw[Zc (Z8.mp fun k=>P0.out (HMANY.out.mp k))]);go_enter func72,ntmps72;go_wp2_with fail;refine(C0.out false ⟨fun k=>Zx k,fun k=>absurd k P0.out⟩ _ B0.out.d).mono ?_;rintro e w1 ⟨rfl,b⟩;have B1:=Zf (B0.out.next b);clear b;go_wp2;go_ret;exact⟨by rw[HRES.out,HX.out];rfl,B1.out.b.bel⟩
end Go.Proofs.YtfahabphncmbfaaGreatDoor
