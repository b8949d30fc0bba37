import Derived.Test.YtlfekmbalgkmeaaGreatDoorZM1
import Derived.Test.YtlfekmbalgkmeaaGreatDoorChecked
import Derived.Lib.Hide
import Derived.WalkKit
import Derived.WalkSmall
import Derived.Handy
import Derived.Test.YtlfekmbalgkmeaaGreatDoorZM2
import Derived.Test.YtlfekmbalgkmeaaGreatDoorZM4
import Derived.Test.YtlfekmbalgkmeaaGreatDoorZM11
set_option linter.unusedSimpArgs false
set_option linter.unnecessarySimpa false
set_option linter.unusedVariables false
set_option maxRecDepth 100000
set_option maxHeartbeats 16000000
namespace Go.Proofs.YtlfekmbalgkmeaaGreatDoor
open Go Go.RowKit
def maxL:List Int->Int
 | []=>0
 |a::l=>l.foldl max a
theorem max_take{zs:List Int}{k:Nat}{z:Int}(h0:1<=k)(h:zs[k]? =some z):maxL (zs.take (k+1))=max (maxL (zs.take k)) z:=by
  rw[List.take_add_one,h]
  match zs,h with
  | a :: l, h =>
    obtain⟨k,rfl⟩: ∃j,k=j+1:=⟨k - 1,by omega⟩
    simp[maxL,List.foldl_append]
theorem smax_any(A:Option Addr)(n c:Nat)(zs:List Int)(w:World)(hn:zs.length=n)(h1:1<=n)(h4:n<=1000)(hr: ∀z∈zs,0<=z/\z<=1000000)(hI:Ints w w.heap.size A zs):
  Calls Tryz.prog 60 #[.slice A n c] w fun e w'=>e= .returned (.int .i64 (maxL zs))/\w=w':=by
 obtain⟨b0,o0,z0,hA,hb0,hz0,hc0⟩:=hI.at_ (k:=0) (by rw[hn];omega)
 have HI:=Lib.hid hI;have HN:=Lib.hid hn;have HM:=Lib.hid (show maxL (zs.take 1)=z0 by
  match zs,hz0 with
  |a::l,h=>simp at h;simp[maxL,h])
 have HR:=Lib.hid hr;have hzr:=hr z0 (List.mem_of_getElem? hz0)
 subst hA;clear hI hn hr hb0 hz0;simp only[Nat.add_zero]at hc0;go_enter Tryz.func60,Tryz.ntmps60;go_wp2;go_loop [3,4] (fun mv i=> ∃(k:Nat) (z:Int),1<=k/\k<=n/\i= .int .i64 k/\mv= .int .i64 z/\0<=z/\z<=1000000/\Hid (maxL (zs.take k)=z)) (fun _ i=>n - (intOf i).toNat)
 case atStart=>exact⟨1,z0,by omega,h1,rfl,rfl,hzr.1,hzr.2,HM⟩
 case round=>
  obtain⟨k,z,k1,kn,rfl,rfl,z1,z2,HZ⟩:=hrel
  by_cases hk:k<n
  ·obtain ⟨b,o,y,hA,hb,hy,hc⟩:=HI.out.at_ (k:=k) (by rw [HN.out]; exact hk)
   have hyr:=HR.out y (List.mem_of_getElem? hy)
   have hmx:=max_take k1 hy;rw[HZ.out]at hmx;injection hA with hA;injection hA with hA1 hA2;subst hA1 hA2;have HX:=Lib.hid hmx;clear hmx hb hy HZ
   by_cases hzy:z<=y
   ·have hm: max z y = y:=by omega
    rw[hm]at HX;go_wp2;go_round
    case rel=>exact⟨k+1,y,by omega,by omega,by go_num,by first|(simp[hm];done)|(simp[hm];omega),by omega,by omega,HX⟩
    case measure=>simp[intOf];omega
   ·have hm: max z y = z:=by omega
    rw[hm]at HX;go_wp2;go_round
    case rel=>exact⟨k+1,z,by omega,by omega,by go_num,by first|(simp[hm];done)|(simp[hm];omega),by omega,by omega,HX⟩
    case measure=>simp[intOf];omega
  ·obtain rfl: k = n:=by omega
   have hz:=HZ.out;rw[<-HN.out,List.take_length]at hz;go_wp2;go_ret;exact⟨rfl,rfl⟩
end Go.Proofs.YtlfekmbalgkmeaaGreatDoor
namespace Go.Proofs.YtlfekmbalgkmeaaGreatDoor
open Go.RowKit
def Trips(w:World)(B:Nat)(A:Option Addr)(es:List (Int×Int×Int)):Prop:=
 0<es.length-> ∃b off,A=some ⟨b,off,none⟩/\b<B/\ ∀k e,es[k]? =some e->w.cell? ⟨b,off+k * 3,none⟩=some (.int .i64 e.1)/\w.cell? ⟨b,off+k * 3+1,none⟩=some (.int .i64 e.2.1)/\w.cell? ⟨b,off+k * 3+2,none⟩=some (.int .i64 e.2.2)
theorem Trips.at_{w:World}{B:Nat}{A:Option Addr}{es:List (Int×Int×Int)}{k:Nat}(h:Trips w B A es)(hk:k<es.length):
  ∃b off x y z,A=some ⟨b,off,none⟩/\b<B/\es[k]? =some (x,y,z)/\w.cell? ⟨b,off+k * 3,none⟩=some (.int .i64 x)/\w.cell? ⟨b,off+k * 3+1,none⟩=some (.int .i64 y)/\w.cell? ⟨b,off+k * 3+2,none⟩=some (.int .i64 z):=by
 obtain⟨b,off,e,hb,hc⟩:=h (by omega)
 have he:es[k]? =some es[k]:=List.getElem?_eq_getElem hk
 exact⟨b,off,es[k].1,es[k].2.1,es[k].2.2,e,hb,he,hc k _ he⟩
theorem Trips.keep{w w':World}{B:Nat}{A:Option Addr}{es:List (Int×Int×Int)}(h:Trips w B A es)(hk: ∀p:Addr,p.block<B->w'.cell? p=w.cell? p):Trips w' B A es:=fun hn=>by
 obtain⟨b,off,e,hb,hc⟩:=h hn;exact⟨b,off,e,hb,fun k x hx=>⟨(hk _ hb).trans (hc k x hx).1,(hk _ hb).trans (hc k x hx).2.1,(hk _ hb).trans (hc k x hx).2.2⟩⟩
theorem Trips.more{w:World}{B B':Nat}{A:Option Addr}{es:List (Int×Int×Int)}(h:Trips w B A es)(hB:B<=B'):Trips w B' A es:=fun hn=>by
 obtain⟨b,off,e,hb,hc⟩:=h hn;exact⟨b,off,e,by omega,hc⟩
theorem Trips.below{w w':World}{B:Nat}{A:Option Addr}{es:List (Int×Int×Int)}(h:Trips w B A es)(hb:Below B w w'):Trips w' B A es:=h.keep fun _ hp=>hb.cell hp
def Bars(w:World)(B:Nat)(A:Option Addr)(bs:List (List Int×List Int)):Prop:=
 0<bs.length-> ∃b off,A=some ⟨b,off,none⟩/\b<B/\ ∀k e,bs[k]? =some e-> ∃A1 c1 A2 c2,w.cell? ⟨b,off+k * 2,none⟩=some (.slice A1 e.1.length c1)/\w.cell? ⟨b,off+k * 2+1,none⟩=some (.slice A2 e.2.length c2)/\
  Ints w B A1 e.1/\Ints w B A2 e.2/\(A1=none->e.1.length=0/\c1=0)/\(A2=none->e.2.length=0/\c2=0)
theorem Bars.at_{w:World}{B:Nat}{A:Option Addr}{bs:List (List Int×List Int)}{k:Nat}(h:Bars w B A bs)(hk:k<bs.length):
  ∃b off xs ys A1 n1 c1 A2 n2 c2,A=some ⟨b,off,none⟩/\b<B/\bs[k]? =some (xs,ys)/\xs.length=n1/\ys.length=n2/\w.cell? ⟨b,off+k * 2,none⟩=some (.slice A1 n1 c1)/\w.cell? ⟨b,off+k * 2+1,none⟩=some (.slice A2 n2 c2)/\
   Ints w B A1 xs/\Ints w B A2 ys/\(A1=none->n1=0/\c1=0)/\(A2=none->n2=0/\c2=0):=by
 obtain⟨b,off,e,hb,hc⟩:=h (by omega)
 have he:bs[k]? =some bs[k]:=List.getElem?_eq_getElem hk
 obtain⟨A1,c1,A2,c2,h1,h2,h3,h4,h5,h6⟩:=hc k _ he;exact⟨b,off,bs[k].1,bs[k].2,A1,_,c1,A2,_,c2,e,hb,he,rfl,rfl,h1,h2,h3,h4,h5,h6⟩
theorem Bars.keep{w w':World}{B:Nat}{A:Option Addr}{bs:List (List Int×List Int)}(h:Bars w B A bs)(hk: ∀p:Addr,p.block<B->w'.cell? p=w.cell? p):Bars w' B A bs:=fun hn=>by
 obtain⟨b,off,e,hb,hc⟩:=h hn;refine⟨b,off,e,hb,fun k x hx=> ?_⟩
 obtain⟨A1,c1,A2,c2,h1,h2,h3,h4,h5⟩:=hc k x hx;exact⟨A1,c1,A2,c2,(hk _ hb).trans h1,(hk _ hb).trans h2,h3.keep hk,h4.keep hk,h5⟩
theorem Bars.more{w:World}{B B':Nat}{A:Option Addr}{bs:List (List Int×List Int)}(h:Bars w B A bs)(hB:B<=B'):Bars w B' A bs:=fun hn=>by
 obtain⟨b,off,e,hb,hc⟩:=h hn;refine⟨b,off,e,by omega,fun k x hx=> ?_⟩
 obtain⟨A1,c1,A2,c2,h1,h2,h3,h4,h5⟩:=hc k x hx;exact⟨A1,c1,A2,c2,h1,h2,h3.more hB,h4.more hB,h5⟩
theorem Bars.below{w w':World}{B:Nat}{A:Option Addr}{bs:List (List Int×List Int)}(h:Bars w B A bs)(hb:Below B w w'):Bars w' B A bs:=h.keep fun _ hp=>hb.cell hp
structure Task where
 period:Int
 deadline:Int
 parts:List (Int×Int×Int)
 edges:List (Int×Int)
 futures:List (Int×Int×Int)
 bars:List (List Int×List Int)
deriving DecidableEq
structure Sh where
 P:Option Addr
 np:Nat
 pc:Nat
 E:Option Addr
 ne:Nat
 ec:Nat
 F:Option Addr
 nf:Nat
 fc:Nat
 R:Option Addr
 nr:Nat
 rc:Nat
structure IsT(w:World)(B:Nat)(s:Sh)(T:Task):Prop where
 hp:T.parts.length=s.np
 he:T.edges.length=s.ne
 hf:T.futures.length=s.nf
 hr:T.bars.length=s.nr
 parts:Trips w B s.P T.parts
 edges:Pairs w B s.E T.edges
 futures:Trips w B s.F T.futures
 bars:Bars w B s.R T.bars
 nP:s.P=none->s.np=0/\s.pc=0
 nE:s.E=none->s.ne=0/\s.ec=0
 nF:s.F=none->s.nf=0/\s.fc=0
 nR:s.R=none->s.nr=0/\s.rc=0
theorem IsT.below{w w':World}{B:Nat}{s:Sh}{T:Task}(h:IsT w B s T)(hb:Below B w w'):IsT w' B s T:=
 ⟨h.hp,h.he,h.hf,h.hr,h.parts.below hb,h.edges.below hb,h.futures.below hb,h.bars.below hb,h.nP,h.nE,h.nF,h.nR⟩
theorem IsT.more{w:World}{B B':Nat}{s:Sh}{T:Task}(h:IsT w B s T)(hB:B<=B'):IsT w B' s T:=
 ⟨h.hp,h.he,h.hf,h.hr,h.parts.more hB,h.edges.more hB,h.futures.more hB,h.bars.more hB,h.nP,h.nE,h.nF,h.nR⟩
section
variable {P: Option Addr} {np pc: Nat} {E: Option Addr} {ne ec: Nat} {F: Option Addr} {nf fc: Nat} {R: Option Addr} {nr rc: Nat} {p q: Int}
theorem dpart_any(x:Int)(w:World):
  Calls Tryz.prog 158 #[.agg #[.int .i64 p,.int .i64 q,.slice P np pc,.slice E ne ec,.slice F nf fc,.slice R nr rc],.int .i64 x] w fun e w'=>e= .returned (.bool (decide (0<=x/\x<np)))/\Below w.heap.size w w':=by
 by_cases h:0<=x
 ·by_cases k: x < np
  ·rw [decide_eq_true (⟨h,k⟩: 0 <= x /\ x < np)]
   go_enter Tryz.func158,Tryz.ntmps158;go_wp2;go_ret;exact⟨rfl,below_alloc _⟩
  ·rw [decide_eq_false (fun q: 0 <= x /\ x < np => k q.2)]
   go_enter Tryz.func158,Tryz.ntmps158;go_wp2;go_ret;exact⟨rfl,below_alloc _⟩
 ·rw [decide_eq_false (fun q: 0 <= x /\ x < np => h q.1)]
  have h':x<0:=by omega
  clear h;go_enter Tryz.func158,Tryz.ntmps158;go_wp2;go_ret;exact⟨rfl,below_alloc _⟩
end
def isTwo(p:Int):Bool:=(List.range 40).any fun k=>p==((2^k:Nat):Int)
theorem isTwo_iff{p:Int}:isTwo p=true↔ ∃k:Nat,k<40/\p=((2^k:Nat):Int):=by
 unfold isTwo;rw[List.any_eq_true];constructor
 ·rintro ⟨k,hk,h⟩
  exact⟨k,List.mem_range.mp hk,by simpa using h⟩
 ·rintro ⟨k,hk,h⟩
  exact⟨k,List.mem_range.mpr hk,by simpa using h⟩
theorem rtwo_any(p:Int): ∃k:Int,∀w:World,Calls Tryz.prog 78 #[.int .i64 p] w fun e w'=>e= .returned (.tuple #[.int .i64 k,.bool (isTwo p)])/\w=w':=by
 by_cases h:isTwo p=true
 ·rw [h]
  obtain⟨k,hk,rfl⟩:=isTwo_iff.mp h;exact⟨k,rtwo_yes k hk⟩
 ·rw [Bool.not_eq_true] at h
  rw[h];refine⟨0,fun w=>rtwo_no p w fun k hk e=> ?_⟩
  rw[isTwo_iff.mpr ⟨k,hk,e⟩]at h;cases h
def timeE(p q:Int):Bool:=isTwo p&&decide (p<=4096)&&decide (1<=q)&&decide (q<=p)
section
variable {P: Option Addr} {np pc: Nat} {E: Option Addr} {ne ec: Nat} {F: Option Addr} {nf fc: Nat} {R: Option Addr} {nr rc: Nat} {p q: Int}
theorem dtime_any(w:World):
    Calls Tryz.prog 120 #[.agg #[.int .i64 p, .int .i64 q, .slice P np pc, .slice E ne ec, .slice F nf fc, .slice R nr rc]] w fun e w'=>e= .returned (.bool (timeE p q))/\Below w.heap.size w w':=by
  obtain⟨k,hC⟩:=rtwo_any p;have C:=Lib.hid hC;clear hC;unfold timeE;cases ht:isTwo p with
  | false =>
    rw[ht]at C;clear ht;go_enter Tryz.func120,Tryz.ntmps120;go_wp2_with fail;refine(C.out _).mono ?_
    rintro e w' ⟨rfl,rfl⟩;go_wp2;go_ret;exact⟨rfl,below_alloc _⟩
  | true =>
    rw[ht]at C;clear ht
    by_cases h1:p<=4096
    · rw[decide_eq_true h1]
      by_cases h2:1<=q
      · rw[decide_eq_true h2]
        by_cases h3:q<=p
        · rw[decide_eq_true h3];go_enter Tryz.func120,Tryz.ntmps120;go_wp2_with fail;refine(C.out _).mono ?_
          rintro e w' ⟨rfl,rfl⟩;go_wp2;go_ret;exact⟨rfl,below_alloc _⟩
        · have hd:decide (q<=p)=false:=decide_eq_false h3;rw[hd];go_enter Tryz.func120,Tryz.ntmps120;go_wp2_with fail;refine(C.out _).mono ?_
          rintro e w' ⟨rfl,rfl⟩;go_wp2;go_ret;exact⟨rfl,below_alloc _⟩
      · rw[decide_eq_false h2];go_enter Tryz.func120,Tryz.ntmps120;go_wp2_with fail;refine(C.out _).mono ?_
        rintro e w' ⟨rfl,rfl⟩;go_wp2;go_ret;exact⟨rfl,below_alloc _⟩
    · rw[decide_eq_false h1];go_enter Tryz.func120,Tryz.ntmps120;go_wp2_with fail;refine(C.out _).mono ?_
      rintro e w' ⟨rfl,rfl⟩;go_wp2;go_ret;exact⟨rfl,below_alloc _⟩
end
def partOk(e:Int×Int×Int):Prop:=0<=e.1/\e.1<=5/\0<=e.2.1/\e.2.1<=2147483647/\1<=e.2.2/\e.2.2<=100
instance (e:Int×Int×Int):Decidable (partOk e):=by unfold partOk;infer_instance
def partsOk(es:List (Int×Int×Int)):Prop:=∀ e∈es,partOk e
instance (es:List (Int×Int×Int)):Decidable (partsOk es):=by unfold partsOk;infer_instance
section
variable {P: Option Addr} {np pc: Nat} {E: Option Addr} {ne ec: Nat} {F: Option Addr} {nf fc: Nat} {R: Option Addr} {nr rc: Nat} {p q: Int}
structure BxD(w:World)(p q:Int)(P:Option Addr)(np pc:Nat)(E:Option Addr)(ne ec:Nat)(F:Option Addr)(nf fc:Nat)(R:Option Addr)(nr rc:Nat)(w':World):Prop where
 bel:Below w.heap.size w w'
 c0:w'.cell? ⟨w.heap.size,0,none⟩=some (.int .i64 p)
 c1:w'.cell? ⟨w.heap.size,1,none⟩=some (.int .i64 q)
 c2:w'.cell? ⟨w.heap.size,2,none⟩=some (.slice P np pc)
 c3:w'.cell? ⟨w.heap.size,3,none⟩=some (.slice E ne ec)
 c4:w'.cell? ⟨w.heap.size,4,none⟩=some (.slice F nf fc)
 c5:w'.cell? ⟨w.heap.size,5,none⟩=some (.slice R nr rc)
theorem BxD.next{w w1 w2:World}(h:BxD w p q P np pc E ne ec F nf fc R nr rc w1)(hb:Below w1.heap.size w1 w2):BxD w p q P np pc E ne ec F nf fc R nr rc w2:=by
 have hlt:w.heap.size<w1.heap.size:=World.block_lt_of_cell? _ _ h.c0
 exact⟨h.bel.trans (hb.mono h.bel.size),(hb.cell hlt).trans h.c0,(hb.cell hlt).trans h.c1,(hb.cell hlt).trans h.c2,(hb.cell hlt).trans h.c3,(hb.cell hlt).trans h.c4,(hb.cell hlt).trans h.c5⟩
theorem BxD.start(w:World)(p q:Int)(P:Option Addr)(np pc:Nat)(E:Option Addr)(ne ec:Nat)(F:Option Addr)(nf fc:Nat)(R:Option Addr)(nr rc:Nat):
  BxD w p q P np pc E ne ec F nf fc R nr rc (w.alloc (.cells #[.int .i64 p,.int .i64 q,.slice P np pc,.slice E ne ec,.slice F nf fc,.slice R nr rc] 57)):=by
 refine⟨below_alloc _,?_,?_,?_,?_,?_,?_⟩<;>(rw[World.cell?_alloc_at _ _ _ _ rfl];rfl)
theorem BxD.cells{w w':World}(h:BxD w p q P np pc E ne ec F nf fc R nr rc w'):w'.cell? ⟨w.heap.size,0,none⟩=some (.int .i64 p)/\w'.cell? ⟨w.heap.size,1,none⟩=some (.int .i64 q)/\w'.cell? ⟨w.heap.size,2,none⟩=some (.slice P np pc)/\
  w'.cell? ⟨w.heap.size,3,none⟩=some (.slice E ne ec)/\w'.cell? ⟨w.heap.size,4,none⟩=some (.slice F nf fc)/\w'.cell? ⟨w.heap.size,5,none⟩=some (.slice R nr rc):=⟨h.c0,h.c1,h.c2,h.c3,h.c4,h.c5⟩
theorem dparts_any(es:List (Int×Int×Int))(w:World)(hm:es.length=np)(hl:np<=1000)(hT:Trips w w.heap.size P es):
  Calls Tryz.prog 121 #[.agg #[.int .i64 p,.int .i64 q,.slice P np pc,.slice E ne ec,.slice F nf fc,.slice R nr rc]] w fun e w'=>e= .returned (.bool (decide (partsOk es)))/\Below w.heap.size w w':=by
 have B0:=Lib.hid (BxD.start w p q P np pc E ne ec F nf fc R nr rc);have HT:=Lib.hid hT;have HM:=Lib.hid hm;obtain⟨r,hr⟩: ∃r,r=decide (partsOk es):=⟨_,rfl⟩;rw[<-hr];have HR:=Lib.hid hr;clear hT hm hr;go_enter Tryz.func121,Tryz.ntmps121;go_wp2;go_loopw [3] (fun v wr=> ∃k:Nat,k<=np/\v= .int .i64 k/\Hid (BxD w p q P np pc E ne ec F nf fc R nr rc wr)/\Hid (∀e∈es.take k,partOk e)) (fun v _=>np - (intOf v).toNat)
 case atStart=>exact⟨0,Nat.zero_le _,rfl,B0,Lib.hid (by simp)⟩
 case round=>
  obtain⟨k,hk,rfl,BR,HN⟩:=hrel;obtain⟨c0,c1,c2,c3,c4,c5⟩:=BR.out.cells;have hlt0:=World.block_lt_of_cell? _ _ c0
  simp only at hlt0;clear B0
  by_cases hlt:k<np
  ·obtain ⟨bk,off,x,y,z,rfl,hbg,hek,d1,d2,d3⟩:=(HT.out.below BR.out.bel).at_ (k:=k) (by rw [HM.out]; exact hlt)
   have HEK:=Lib.hid hek;clear hek
   by_cases hok:partOk (x,y,z)
   ·have HOK:=Lib.hid hok
    obtain⟨o1,o2,o3,o4,o5,o6⟩:=hok;simp only at o1 o2 o3 o4 o5 o6;go_wp2;go_roundw
    case rel=>exact⟨k+1,by omega,by go_num,Lib.hid (BR.out.next (below_alloc _)),Lib.hid (by
     intro e he;rw[List.take_add_one,HEK.out]at he;rcases List.mem_append.mp he with h|h
     ·exact HN.out e h
     ·obtain rfl: e = (x,y,z):=by simpa using h
      exact HOK.out)⟩
    case measure=>simp[intOf];omega
   ·have HNO:=Lib.hid (show decide (partsOk es) = false from decide_eq_false fun h => hok (h _ (List.mem_of_getElem? HEK.out)))
    have hd:x<0\/(0<=x/\5<x)\/(0<=x/\x<=5/\y<0)\/(0<=x/\x<=5/\0<=y/\2147483647<y)\/(0<=x/\x<=5/\0<=y/\y<=2147483647/\z<1)\/(0<=x/\x<=5/\0<=y/\y<=2147483647/\1<=z/\100<z):=by
     unfold partOk at hok;simp only at hok;omega
    clear hok;have HB:=Lib.hid (BR.out.bel.trans ((below_alloc (w:=wr) (.cells #[.int .i64 x,.int .i64 y,.int .i64 z] 62)).mono BR.out.bel.size));rcases hd with h1|⟨h1,h2⟩|⟨h1,h2,h3⟩|⟨h1,h2,h3,h4⟩|⟨h1,h2,h3,h4,h5⟩|⟨h1,h2,h3,h4,h5,h6⟩
    all_goals
     go_wp2;go_ret
     exact⟨by rw[HR.out,HNO.out];rfl,HB.out⟩
  ·have e: np = k:=by omega
   subst e;have HYES:=Lib.hid (show decide (partsOk es)=true from decide_eq_true fun e he=>HN.out e (by rwa [List.take_of_length_le (by rw[HM.out];omega)]))
   go_wp2;go_ret
   exact⟨by rw[HR.out,HYES.out];rfl,BR.out.bel⟩
end
structure RowOk(np:Nat)(l:List Int):Prop where
 some_:0<l.length
 parts: ∀x∈l,0<=x/\x<np
 rises: ∀i x y,l[i]? =some x->l[i+1]? =some y->x<y
section
variable {P: Option Addr} {np pc: Nat} {E: Option Addr} {ne ec: Nat} {F: Option Addr} {nf fc: Nat} {R: Option Addr} {nr rc: Nat} {p q: Int}
structure BxR(w:World)(p q:Int)(P:Option Addr)(np pc:Nat)(E:Option Addr)(ne ec:Nat)(F:Option Addr)(nf fc:Nat)(R:Option Addr)(nr rc:Nat)(A:Option Addr)(l:List Int)(w':World):Prop where
 b:BxD w p q P np pc E ne ec F nf fc R nr rc w'
 l:Ints w' w.heap.size A l
theorem BxR.next{w w1 w2:World}{A:Option Addr}{l:List Int}(h:BxR w p q P np pc E ne ec F nf fc R nr rc A l w1)(hb:Below w1.heap.size w1 w2):BxR w p q P np pc E ne ec F nf fc R nr rc A l w2:=
 ⟨h.b.next hb,h.l.keep fun a ha=>hb.cell (Nat.lt_of_lt_of_le ha h.b.bel.size)⟩
theorem ints_cell{w:World}{B bk off k:Nat}{l:List Int}{z:Int}(h:Ints w B (some ⟨bk,off,none⟩) l)(hz:l[k]? =some z):w.cell? ⟨bk,off+k,none⟩=some (.int .i64 z):=by
 have hk:=(List.getElem?_eq_some_iff.1 hz).1
 obtain⟨b',o',z',e,_,hz',hc⟩:=h.at_ hk;injection e with e;injection e with e1 e2;subst e1 e2;rw[hz]at hz';injection hz' with hz';subst hz';exact hc
theorem near_cell{w:World}{a:Addr}{v:Value}(h:w.cell? a=some v)(x:Near w.heap.size w):x.W.cell? a=some v:=(x.h.cell (World.block_lt_of_cell? _ _ h)).trans h
theorem row_step{l:List Int}{k:Nat}{z:Int}(h: ∀x∈l.take k,0<=x/\x<np)(hz:l[k]? =some z)(hp:0<=z/\z<np): ∀x∈l.take (k+1),0<=x/\x<np:=by
 intro x hx;rw[List.take_add_one,hz]at hx;rcases List.mem_append.mp hx with hx|hx
 ·exact h x hx
 ·obtain rfl: x = z:=by simpa using hx
  exact hp
theorem rise_step{l:List Int}{k:Nat}{y z:Int}(h: ∀i a b,i+1<k->l[i]? =some a->l[i+1]? =some b->a<b)(hy:l[k - 1]? =some y)(hz:l[k]? =some z)(hyz:y<z): ∀i a b,i+1<k+1->l[i]? =some a->l[i+1]? =some b->a<b:=by
 intro i a b hi ha hb
 by_cases e:i+1=k
 ·rw [e,hz] at hb
  rw[show i=k - 1 by omega,hy]at ha
  injection ha with ha;injection hb with hb;omega
 ·exact h i a b (by omega) ha hb
theorem drow_any(A:Option Addr)(c:Nat)(l:List Int)(len:Nat)(r:Bool)(hr:r=true↔RowOk np l)(w:World)(hm:l.length=len)(hl:len<=1000)(hI:Ints w w.heap.size A l):
  Calls Tryz.prog 159 #[.agg #[.int .i64 p,.int .i64 q,.slice P np pc,.slice E ne ec,.slice F nf fc,.slice R nr rc],.slice A len c] w fun e w'=>e= .returned (.bool r)/\Below w.heap.size w w':=by
 have B0:=Lib.hid (BxR.mk (BxD.start w p q P np pc E ne ec F nf fc R nr rc) (hI.below (below_alloc _)));have HM:=Lib.hid hm;have HR:=Lib.hid hr;clear hI hm hr;go_enter Tryz.func159,Tryz.ntmps159;go_wp2;go_loopw [5] (fun v wr=> ∃k:Nat,k<=len/\v= .int .i64 k/\Hid (BxR w p q P np pc E ne ec F nf fc R nr rc A l wr)/\Hid ((∀x∈l.take k,0<=x/\x<np)/\ ∀i x y,i+1<k->l[i]? =some x->l[i+1]? =some y->x<y)) (fun v _=>len - (intOf v).toNat)
 case atStart=>exact⟨0,Nat.zero_le _,rfl,B0,Lib.hid ⟨by simp,by omega⟩⟩
 case round=>
  obtain⟨k,hk,rfl,BR,HN⟩:=hrel;clear B0
  by_cases hlt:k<len
  ·obtain ⟨bk,off,z,rfl,hbg,hz,hc⟩:=BR.out.l.at_ (k:=k) (by rw [HM.out]; exact hlt)
   have HZ:=Lib.hid hz;obtain⟨b0,b1,b2,b3,b4,b5⟩:=BR.out.b.cells;have n0:=near_cell b0;have n1:=near_cell b1;have n2:=near_cell b2;have n3:=near_cell b3;have n4:=near_cell b4;have n5:=near_cell b5;have n6:=near_cell hc;clear b0 b1 b2 b3 b4 b5;have C:=Lib.hid (dpart_any (P:=P) (np:=np) (pc:=pc) (E:=E) (ne:=ne) (ec:=ec) (F:=F) (nf:=nf) (fc:=fc) (R:=R) (nr:=nr) (rc:=rc) (p:=p) (q:=q) z);clear hz hc
   by_cases hp:0<=z/\z<np
   ·simp only [decide_eq_true hp] at C
    by_cases h0:k=0
    ·have g1: decide ((0: Int) < (k: Int)) = false:=by rw [decide_eq_false_iff_not]; omega
     have g2:decide (0<k)=false:=by rw[decide_eq_false_iff_not];omega
     have HPP:=Lib.hid hp;clear g1 g2 hp;subst h0;simp only[Nat.add_zero]at n6;rw[show((0:Nat):Int)=0 from rfl]
     go_wp2_with fail;refine wp_region_near wr.heap.size (by kernel_rfl) (by kernel_rfl) (Nat.le_refl _) ?_
     repeat (go_big_quiet_step (first
      |(go_at_call 158;exact near_of (C.out _) (Nat.le_refl _))))
     refine wpQuiet_nil ?_
     intro W hW;have HB:=Lib.hid (BR.out.next hW);clear hW;go_wp2;go_roundw
     case rel=>exact⟨1,by omega,rfl,HB,Lib.hid ⟨row_step HN.out.1 HZ.out HPP.out,fun i x y hi=>by omega⟩⟩
     case measure=>simp[intOf];omega
    ·obtain ⟨j,rfl⟩: ∃ j,k = j + 1:=⟨k - 1,by omega⟩
     obtain⟨y,hy⟩: ∃y,l[j]? =some y:=⟨_,List.getElem?_eq_getElem (by rw[HM.out];omega)⟩
     have HY:=Lib.hid hy;have HPP:=Lib.hid hp;have n7:=near_cell (ints_cell BR.out.l hy);clear hy hp h0;rw[show((j+1:Nat):Int)=(j:Int)+1 from rfl]
     by_cases hyz:y<z
     ·have hd: decide (z <= y) = false:=by rw [decide_eq_false_iff_not]; omega
      go_wp2_with fail;refine wp_region_near wr.heap.size (by kernel_rfl) (by kernel_rfl) (Nat.le_refl _) ?_
      repeat (go_big_quiet_step (first
       |(go_at_call 158;exact near_of (C.out _) (Nat.le_refl _))))
      refine wpQuiet_nil ?_
      intro W hW;have HB:=Lib.hid (BR.out.next hW);clear hW;go_wp2;go_roundw
      case rel=>exact⟨j+1+1,by omega,by go_num,HB,Lib.hid ⟨row_step HN.out.1 HZ.out HPP.out,rise_step HN.out.2 HY.out HZ.out hyz⟩⟩
      case measure=>simp[intOf];omega
     ·have hd: decide (z <= y) = true:=by rw [decide_eq_true_iff]; omega
      have HNO:=Lib.hid (show r=false from by
       rw[<-Bool.not_eq_true];intro h;have:=(HR.out.mp h).rises j y z HY.out HZ.out;omega)
      go_wp2_with fail;refine wp_region_near wr.heap.size (by kernel_rfl) (by kernel_rfl) (Nat.le_refl _) ?_
      repeat (go_big_quiet_step (first
       |(go_at_call 158;exact near_of (C.out _) (Nat.le_refl _))))
      refine wpQuiet_nil ?_
      intro W hW;have HB:=Lib.hid (BR.out.next hW);clear hW;go_wp2;go_ret;exact⟨by rw[HNO.out];rfl,HB.out.b.bel⟩
   ·simp only [decide_eq_false hp] at C
    have HNO:=Lib.hid (show r=false from by
     rw[<-Bool.not_eq_true];intro h;exact hp ((HR.out.mp h).parts z (List.mem_of_getElem? HZ.out)))
    clear hp;go_wp2_with fail;refine wp_region_near wr.heap.size (by kernel_rfl) (by kernel_rfl) (Nat.le_refl _) ?_
    repeat (go_big_quiet_step (first
     |(go_at_call 158;exact near_of (C.out _) (Nat.le_refl _))))
    refine wpQuiet_nil ?_
    intro W hW;have HB:=Lib.hid (BR.out.next hW);clear hW;go_wp2;go_ret;exact⟨by rw[HNO.out];rfl,HB.out.b.bel⟩
  ·have e: len = k:=by omega
   subst e;clear hlt hk
   by_cases h0:len=0
   ·have HNO:=Lib.hid (show r = false from by
     rw[<-Bool.not_eq_true];intro h;have:=(HR.out.mp h).some_;rw[HM.out]at this;omega)
    have g1:decide ((0:Int)<(len:Int))=false:=by rw[decide_eq_false_iff_not];omega
    have g2:decide (0<len)=false:=by rw[decide_eq_false_iff_not];omega
    clear h0;go_wp2;go_ret;exact⟨by rw[HNO.out];rfl,BR.out.b.bel⟩
   ·have HYES:=Lib.hid (show r = true from by
     refine HR.out.mpr ⟨by rw[HM.out];omega,fun x hx=>HN.out.1 x (by rwa [List.take_of_length_le (by rw[HM.out];omega)]),fun i x y hx hy=>HN.out.2 i x y ?_ hx hy⟩
     have:=(List.getElem?_eq_some_iff.1 hy).1
     rw[HM.out]at this;exact this)
    have g1:decide ((0:Int)<(len:Int))=true:=by rw[decide_eq_true_iff];omega
    have g2:decide (0<len)=true:=by rw[decide_eq_true_iff];omega
    clear h0;go_wp2;go_ret;exact⟨by rw[HYES.out];rfl,BR.out.b.bel⟩
end
end Go.Proofs.YtlfekmbalgkmeaaGreatDoor
namespace Go.Proofs.YtlfekmbalgkmeaaGreatDoor
def ed(E:List (Int×Int))(a b:Nat):Prop:=((a:Int),(b:Int))∈E
instance (E:List (Int×Int)) (a b:Nat):Decidable (ed E a b):=by unfold ed;infer_instance
inductive Way (E:List (Int×Int)):Nat->Nat->Prop
 |one {a b:Nat}:ed E a b->Way E a b
 |more {a b c:Nat}:Way E a b->ed E b c->Way E a c
def Acyc(E:List (Int×Int)):Prop:=∀ a,¬Way E a a
def Fits(n:Nat)(E:List (Int×Int)):Prop:=∀ e∈E,0<=e.1/\e.1<n/\0<=e.2/\e.2<n
def Up(E:List (Int×Int)):List Nat->Prop
 | []=>False
 | [_]=>True
 |b::a::r=>ed E a b/\Up E (a::r)
variable {E: List (Int × Int)}
theorem Way.trans{a b c:Nat}(h:Way E a b)(k:Way E b c):Way E a c:=by
 induction k with
 |one e=>exact .more h e
 |more _ e ih=>exact .more ih e
theorem Way.first{a b:Nat}(h:Way E a b):ed E a b\/ ∃c,ed E a c/\Way E c b:=by
  induction h with
  |one e=>exact .inl e
  | more _ e ih =>
    rcases ih with h|⟨c,h1,h2⟩
    · exact .inr ⟨_,h, .one e⟩
    · exact .inr ⟨c,h1, .more h2 e⟩
theorem Way.last{a b:Nat}(h:Way E a b): ∃c,ed E c b/\(c=a\/Way E a c):=by
 cases h with
 |one e=>exact⟨a,e,.inl rfl⟩
 |more h e=>exact⟨_,e,.inr h⟩
theorem Way.mono{E':List (Int×Int)}{a b:Nat}(h:Way E a b)(hE: ∀a b,ed E a b->ed E' a b):Way E' a b:=by
 induction h with
 |one e=>exact .one (hE _ _ e)
 |more _ e ih=>exact .more ih (hE _ _ e)
theorem ed_lt{n a b:Nat}(hF:Fits n E)(h:ed E a b):a<n/\b<n:=by
 have:=hF _ h;simp at this;omega
theorem Way.lt{n a b:Nat}(hF:Fits n E)(h:Way E a b):a<n/\b<n:=by
 induction h with
 |one e=>exact ed_lt hF e
 |more _ e ih=>exact⟨ih.1,(ed_lt hF e).2⟩
theorem Up.tail{b:Nat}{r:List Nat}(h:Up E (b::r))(hr:r≠ []):Up E r:=by
 cases r with
 |nil=>exact absurd rfl hr
 |cons a r=>exact h.2
theorem Up.way: ∀{r:List Nat} {b:Nat},Up E (b::r)-> ∀a∈r,Way E a b
  | [],_,_,a,ha=>by simp at ha
  | c :: r, b, h, a, ha => by
    rcases List.mem_cons.mp ha with rfl|ha
    · exact .one h.1
    · exact .more (Up.way h.2 a ha) h.1
theorem Up.nodup(hA:Acyc E): ∀{p:List Nat},Up E p->p.Nodup
  | [],h=>h.elim
  | [b],_=>by simp
  | b :: a :: r, h => by
    rw[List.nodup_cons];refine⟨fun hm=>hA b (Up.way h b hm),Up.nodup hA h.2⟩
theorem Up.lt{n:Nat}(hF:Fits n E): ∀{p:List Nat},Up E p->(∀b,p= [b]->b<n)-> ∀x∈p,x<n
  | [],h,_,_,_=>h.elim
  | [b], _, h1, x, hx => by
    obtain rfl:x=b:=by simpa using hx
    exact h1 x rfl
  | b :: a :: r, h, _, x, hx => by
    have hab:=ed_lt hF h.1;rcases List.mem_cons.mp hx with rfl|hx
    · exact hab.2
    · exact Up.lt hF h.2 (fun c hc=>by injection hc with hc _;omega) x hx
theorem Way.up{a b:Nat}(h:Way E a b): ∃r,Up E (b::r)/\r.getLast? =some a:=by
  induction h with
  |one e=>exact⟨[_],⟨e,trivial⟩,rfl⟩
  | more _ e ih =>
    obtain⟨r,hr,hl⟩:=ih;refine⟨_::r,⟨e,hr⟩,?_⟩
    cases r with
    |nil=>simp at hl
    |cons x r=>rw[List.getLast?_cons_cons];exact hl
theorem sum_below(w:Nat->Nat): ∀(n:Nat) (l:List Nat),l.Nodup->(∀x∈l,x<n)->(l.map w).sum<=((List.range n).map w).sum
  | 0, l, _, h => by
    cases l with
    |nil=>exact Nat.le_refl _
    |cons x r=>exact absurd (h x (by simp)) (by omega)
  | n + 1, l, hn, h => by
    rw[List.range_succ,List.map_append,List.sum_append]
    by_cases hm:n∈l
    · have hp:=List.perm_cons_erase hm;have hs:=(hp.map w).sum_nat;rw[hs];have ih:=sum_below w n (l.erase n) (hn.erase n) (fun x hx=>by
        have h1:=(hn.mem_erase_iff).mp hx;have:=h x h1.2;omega)
      simp only[List.map_cons,List.sum_cons,List.map_nil,List.sum_nil];omega
    · have ih:=sum_below w n l hn (fun x hx=>by
        have:=h x hx;have:x≠n:=fun e=>hm (e▸hx)
        omega)
      simp only[List.map_cons,List.sum_cons,List.map_nil,List.sum_nil];omega
theorem length_below(n:Nat)(l:List Nat)(hn:l.Nodup)(h: ∀x∈l,x<n):l.length<=n:=by
 have h1:=sum_below (fun _=>1) n l hn h
 rw[List.map_const',List.map_const',List.sum_replicate_nat,List.sum_replicate_nat,List.length_range]at h1;omega
def Dn(E:List (Int×Int)):List Nat->Prop
 | []=>False
 | [_]=>True
 |a::b::r=>ed E a b/\Dn E (b::r)
theorem Dn.way: ∀{r:List Nat} {a:Nat},Dn E (a::r)-> ∀b∈r,Way E a b
  | [],_,_,b,hb=>by simp at hb
  | c :: r, a, h, b, hb => by
    rcases List.mem_cons.mp hb with rfl|hb
    · exact .one h.1
    · exact(Way.one h.1).trans (Dn.way h.2 b hb)
theorem Dn.nodup(hA:Acyc E): ∀{p:List Nat},Dn E p->p.Nodup
  | [],h=>h.elim
  | [b],_=>by simp
  | a :: b :: r, h => by
    rw[List.nodup_cons];exact⟨fun hm=>hA a (Dn.way h a hm),Dn.nodup hA h.2⟩
theorem Dn.lt{n:Nat}(hF:Fits n E): ∀{p:List Nat},Dn E p->2<=p.length-> ∀x∈p,x<n
  | [],h,_,_,_=>h.elim
  | [b],_,h1,x,hx=>by simp at h1
  | [a, b], h, _, x, hx => by
    have hab:=ed_lt hF h.1;simp at hx;rcases hx with rfl|rfl
    · exact hab.1
    · exact hab.2
  | a :: b :: c :: r, h, _, x, hx => by
    have hab:=ed_lt hF h.1;rcases List.mem_cons.mp hx with rfl|hx
    · exact hab.1
    · exact Dn.lt hF h.2 (by simp) x hx
theorem source{n:Nat}(hF:Fits n E)(hA:Acyc E)(S:Nat->Prop)(u:Nat)(hu:S u): ∃v,S v/\ ∀a,ed E a v-> ¬S a:=by
  apply Classical.byContradiction
  intro hno;have hall: ∀v,S v-> ∃a,ed E a v/\S a:=fun v hv=>Classical.byContradiction fun h=>hno ⟨v,hv,fun a ha hs=>h ⟨a,ha,hs⟩⟩
  have key: ∀k:Nat,∃(a:Nat) (r:List Nat),r.length=k/\Dn E (a::r)/\S a:=by
    intro k
    induction k with
    |zero=>exact⟨u, [],rfl,trivial,hu⟩
    | succ k ih =>
      obtain⟨a,r,hl,hp,ha⟩:=ih;obtain⟨b,hb,hs⟩:=hall a ha;exact⟨b,a::r,by simp[hl],⟨hb,hp⟩,hs⟩
  obtain⟨a,r,hl,hp,_⟩:=key (n+1);have h1:=length_below n (a::r) (hp.nodup hA) (hp.lt hF (by simp[hl]))
  simp[hl]at h1;omega
theorem ed_snoc{a b x y:Nat}:ed (E++ [((a:Int),(b:Int))]) x y↔ed E x y\/(x=a/\y=b):=by
 unfold ed;rw[List.mem_append,List.mem_singleton,Prod.mk.injEq,Int.ofNat_inj,Int.ofNat_inj]
theorem Acyc.mono{E':List (Int×Int)}(hA:Acyc E)(h: ∀a b,ed E' a b->ed E a b):Acyc E':=fun a hw=>hA a (hw.mono h)
theorem Up.mono{E':List (Int×Int)}(h: ∀a b,ed E a b->ed E' a b): ∀{p:List Nat},Up E p->Up E' p
 | [],k=>k.elim
 | [_],_=>trivial
 |b::a::r,k=>⟨h _ _ k.1,Up.mono h k.2⟩
def wsum(W:List Int)(p:List Nat):Int:=(p.map fun x=>W.getD x 0).sum
def In(n:Nat)(p:List Nat):Prop:=∀ x∈p,x<n
def IsLong(W:List Int)(E:List (Int×Int))(L:Int):Prop:=
 (∀p,Up E p->In W.length p->wsum W p<=L)/\((W= []/\L=0)\/ ∃p,Up E p/\In W.length p/\wsum W p=L)
theorem wsum_le{W:List Int}(hw: ∀z∈W,0<=z){p:List Nat}(hn:p.Nodup)(hi:In W.length p):wsum W p<=W.sum:=by
  have h:=sum_below (fun x=>(W.getD x 0).toNat) W.length p hn hi
  have e1: ∀q:List Nat,(((q.map fun x=>(W.getD x 0).toNat).sum:Nat):Int)=wsum W q:=by
    intro q
    induction q with
    |nil=>rfl
    | cons x q ih =>
      have h0:0<=W.getD x 0:=by
        rw[List.getD_eq_getElem?_getD]
        cases hx:W[x]? with
        |none=>exact Int.le_refl _
        |some z=>exact hw z (List.mem_of_getElem? hx)
      unfold wsum at ih⊢;simp only[List.map_cons,List.sum_cons];rw[<-ih];omega
  have e2:wsum W (List.range W.length)=W.sum:=by
    unfold wsum;congr 1;apply List.ext_getElem?
    intro i;rw[List.getElem?_map]
    rcases Nat.lt_or_ge i W.length with h|h
    · rw[List.getElem?_range h]
      simp[List.getElem?_eq_getElem h]
    · rw[List.getElem?_eq_none (by simpa using h),List.getElem?_eq_none h]
      rfl
  have h2:(((p.map fun x=>(W.getD x 0).toNat).sum:Nat):Int)<=(((List.range W.length).map fun x=>(W.getD x 0).toNat).sum:Nat):=by exact_mod_cast h
  rw[e1,e1,e2]at h2;exact h2
end Go.Proofs.YtlfekmbalgkmeaaGreatDoor
namespace Go.Proofs.YtlfekmbalgkmeaaGreatDoor
open Go.RowKit
def EdgesOk(n:Nat)(E:List (Int×Int)):Prop:=Fits n E/\(∀e∈E,e.1≠e.2)/\E.Nodup
theorem edgesOk_snoc{n:Nat}{E:List (Int×Int)}{j:Nat}{e:Int×Int}(h:E[j]? =some e):EdgesOk n (E.take (j+1))↔EdgesOk n (E.take j)/\(0<=e.1/\e.1<n)/\(0<=e.2/\e.2<n)/\e.1≠e.2/\e∉E.take j:=by
 rw[take_snoc' h];unfold EdgesOk Fits;rw[List.nodup_append];constructor
 ·rintro ⟨k1,k2,k3⟩
  have q:=k1 e (by simp)
  refine⟨⟨fun x hx=>k1 x (by simp[hx]),fun x hx=>k2 x (by simp[hx]),k3.1⟩,⟨q.1,q.2.1⟩,q.2.2,k2 e (by simp),fun hm=>k3.2.2 e hm e (by simp) rfl⟩
 ·rintro ⟨⟨k1,k2,k3⟩,q1,q2,q3,q4⟩
  refine⟨fun x hx=> ?_,fun x hx=> ?_,k3,by simp,fun a ha b hb=> ?_⟩
  ·rcases List.mem_append.mp hx with hx | hx
   ·exact k1 x hx
   ·obtain rfl: x = e:=by simpa using hx
    exact⟨q1.1,q1.2,q2.1,q2.2⟩
  ·rcases List.mem_append.mp hx with hx | hx
   ·exact k2 x hx
   ·obtain rfl: x = e:=by simpa using hx
    exact q3
  ·obtain rfl: b = e:=by simpa using hb
   exact fun h=>q4 (h▸ha)
theorem edgesOk_take{n:Nat}{E:List (Int×Int)}(h:EdgesOk n E)(j:Nat):EdgesOk n (E.take j):=
 ⟨fun e he=>h.1 e (List.mem_of_mem_take he),fun e he=>h.2.1 e (List.mem_of_mem_take he),h.2.2.sublist (List.take_sublist j E)⟩
end Go.Proofs.YtlfekmbalgkmeaaGreatDoor
