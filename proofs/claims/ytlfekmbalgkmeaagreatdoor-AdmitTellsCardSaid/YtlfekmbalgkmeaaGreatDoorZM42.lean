import Derived.Test.YtlfekmbalgkmeaaGreatDoorZM29
import Derived.Test.YtlfekmbalgkmeaaGreatDoorZM1
import Derived.Deep.SlicePairs
import Derived.Lib.SmallJoins
import Derived.Test.YtlfekmbalgkmeaaGreatDoorZM2
import Derived.Test.YtlfekmbalgkmeaaGreatDoorZM38
import Derived.Test.YtlfekmbalgkmeaaGreatDoorZAdmTellsWalk
set_option linter.unusedSimpArgs false
set_option linter.unnecessarySimpa false
set_option linter.unusedVariables false
set_option maxRecDepth 100000
namespace Go.Proofs.YtlfekmbalgkmeaaGreatDoor
open Go.ChangeShapes Go.WideShapes Go.ChangeAt Go.RowKit Go.Joins Go.Deep
section
variable {H: Type} {enc: TypeId × Value -> H} {W: World}
theorem spotless{a:Addr}{v:Value}(h:W.cell? a=some v): ∃b off,a=⟨b,off,none⟩:=by
 obtain⟨b,off,spot⟩:=a;have hspot:spot=none:=World.cell?_spot h
 exact⟨b,off,by rw[hspot]⟩
theorem open_trips{t e:TypeId}{f0 f1 f2:Field}{fuel:Nat}{cs:List Value}{x:DataW H×List MemPlace}(ht:Tryz.prog.underlying t=some (.slice e))(he:Tryz.prog.underlying e=some (.struct #[f0,f1,f2]))
    (ce:Tryz.prog.cellsOf e=3) (o0:f0.offset=0) (o1:f1.offset=1) (o2:f2.offset=2) (c0:Tryz.prog.cellsOf f0.type=1) (c1:Tryz.prog.cellsOf f1.type=1) (c2:Tryz.prog.cellsOf f2.type=1)
    (u0:Tryz.prog.underlying f0.type=some (.int .i64)) (u1:Tryz.prog.underlying f1.type=some (.int .i64)) (u2:Tryz.prog.underlying f2.type=some (.int .i64))
    (h:DataW.trod enc Tryz.prog W 0 (fun _=>true) true fuel t cs=some x):
    ∃A n c,∃es:List (Int×Int×Int),cs= [.slice A n c]/\es.length=n/\Trips W W.heap.size A es/\n<=c/\(A=none->n=0/\c=0):=by
  rcases open_slice ht h with⟨h0,_⟩|⟨a,len,cap,m,n,D,Pl,rfl,_,hl,_,hmm,_,hx⟩
  · exact⟨none,0,0, [],h0,rfl,fun hp=>absurd hp (by simp),Nat.le_refl _,fun _=>⟨rfl,rfl⟩⟩
  · have hlm:len<=m:=by rw[hmm];simpa using hl
    have each: ∀i,i<m-> ∃q:Int×Int×Int,W.cell? (a.add (i * 3))=some (.int .i64 q.1)/\W.cell? (a.add (i * 3+1))=some (.int .i64 q.2.1)/\W.cell? (a.add (i * 3+2))=some (.int .i64 q.2.2):=by
      intro i hi;obtain⟨cs',h1,h2⟩:=hx i hi;rw[ce]at h1;obtain⟨_,hlen,hcell⟩:=World.cells?_some h1
      obtain⟨xs,k,_,_,_,hxl,hf⟩:=DataW.trod_struct he h2
      match xs,hxl,cs',hlen with
      | [y0, y1, y2], _, [v0, v1, v2], _ =>
        have g0:=hf 0 f0 rfl;have g1:=hf 1 f1 rfl;have g2:=hf 2 f2 rfl;simp[o0,o1,o2,c0,c1,c2]at g0 g1 g2;obtain⟨z0,e0,_,_⟩:=DataW.trod_int u0 g0;obtain⟨z1,e1,_,_⟩:=DataW.trod_int u1 g1;obtain⟨z2,e2,_,_⟩:=DataW.trod_int u2 g2;simp at e0 e1 e2;subst e0 e1 e2;have q0:=hcell 0 (by omega)
        have q1:=hcell 1 (by omega)
        have q2:=hcell 2 (by omega)
        rw[add_add]at q0 q1 q2;exact⟨(z0,z1,z2),by simpa using q0,by simpa using q1,by simpa using q2⟩
    obtain⟨q,hq⟩:=choose_lt each;refine⟨some a,len,cap,(List.range len).map q,rfl,by simp,fun hp=> ?_,hl,fun e=>by cases e⟩
    have hp:0<len:=by simpa using hp
    obtain⟨b,off,rfl⟩:=spotless (by simpa[Addr.add]using(hq 0 (by omega)).1)
    refine⟨b,off,rfl,cell_below (hq 0 (by omega)).1,fun k x hx=> ?_⟩
    have hk:k<len:=by
      have:=(List.getElem?_eq_some_iff.1 hx).1
      simpa using this
    rw[List.getElem?_map,List.getElem?_range hk]at hx
    obtain rfl:q k=x:=by simpa using hx
    obtain⟨q0,q1,q2⟩:=hq k (by omega)
    rw[addr_add]at q0 q1 q2;exact⟨q0,by rw[show off+k * 3+1=off+(k * 3+1) by omega];exact q1,by rw[show off+k * 3+2=off+(k * 3+2) by omega];exact q2⟩
theorem open_edges{fuel:Nat}{cs:List Value}{x:DataW H×List MemPlace}(h1:DataW.trod enc Tryz.prog W 0 (fun _=>true) true fuel 53 cs=some x):
  ∃A n c,∃es:List (Int×Int),cs= [.slice A n c]/\es.length=n/\Pairs W W.heap.size A es/\n<=c/\(A=none->n=0/\c=0):=by
 rcases open_slice_pairs Tryz.underlying53 Tryz.underlying131 (by kernel_rfl) rfl rfl (by kernel_rfl) (by kernel_rfl) h1 with⟨hcs,_⟩|⟨a,len,cap,m,nn,V0,V1,D0,D1,P0,P1,hcs,_,hl,hm,hmm,_,hx⟩
 ·exact⟨none,0,0,[],hcs,rfl,fun h=>absurd h (by simp),Nat.le_refl _,fun _=>⟨rfl,rfl⟩⟩
 ·have hlm: len <= m:=by rw [hmm]; simpa using hl
  have each: ∀i,i<m-> ∃q:Int×Int,W.cell? (a.add (i * 2))=some (.int .i64 q.1)/\W.cell? (a.add (i * 2+1))=some (.int .i64 q.2):=fun i hi=>by
   obtain⟨c0,c1,t0,t1⟩:=hx i hi;obtain⟨n0,e0,_,w0⟩:=DataW.trod_int Tryz.underlying3 t0;obtain⟨n1,e1,_,w1⟩:=DataW.trod_int Tryz.underlying3 t1;simp at e0 e1;rw[e0]at c0;rw[e1]at c1;exact⟨(n0,n1),c0,c1⟩
  obtain⟨q,hq⟩:=choose_lt each;refine⟨some a,len,cap,(List.range len).map q,hcs,by simp,fun hp=> ?_,hl,fun e=>by cases e⟩
  have hp:0<len:=by simpa using hp
  obtain⟨b,off,rfl⟩:=spotless (by simpa[Addr.add]using(hq 0 (by omega)).1)
  refine⟨b,off,rfl,cell_below (hq 0 (by omega)).1,fun k x hx=> ?_⟩
  have hk:k<len:=by
   have:=(List.getElem?_eq_some_iff.1 hx).1
   simpa using this
  rw[List.getElem?_map,List.getElem?_range hk]at hx
  obtain rfl:q k=x:=by simpa using hx
  obtain⟨q0,q1⟩:=hq k (by omega)
  rw[addr_add]at q0 q1;exact⟨q0,by rw[show off+k * 2+1=off+(k * 2+1) by omega];exact q1⟩
theorem open_ints'{fuel:Nat}{cs:List Value}{x:DataW H×List MemPlace}(h0:DataW.trod enc Tryz.prog W 0 (fun _=>true) true fuel 40 cs=some x):
  ∃A n c,∃zs:List Int,cs= [.slice A n c]/\zs.length=n/\Ints W W.heap.size A zs/\(A=none->n=0/\c=0):=by
 obtain⟨A,n,c,zs,hcs,hrow⟩: ∃A n c zs,cs= [.slice A n c]/\IsRow .i64 W A n c zs:=by
  rcases open_ints Tryz.underlying40 Tryz.underlying3 (by kernel_rfl) h0 with⟨hcs,_⟩|⟨x,l,c,zs,hcs,_,hl,hm,hz,_,hcell,hwz⟩
  ·exact⟨none,0,0,[],hcs,.inl ⟨rfl,rfl,rfl,rfl⟩⟩
  ·exact⟨_,_,_,zs,hcs,.inr ⟨_,rfl,hl,hm,by simpa using hz,hcell,hwz⟩⟩
 obtain⟨r1,r2,r3,r4,r5⟩:=row_ints hrow;refine⟨A,n,c,zs.take n,hcs,r2,r1,fun e=> ?_⟩
 have:=r3 e;omega
theorem open_bars{fuel:Nat}{cs:List Value}{x:DataW H×List MemPlace}(h1:DataW.trod enc Tryz.prog W 0 (fun _=>true) true fuel 55 cs=some x):
  ∃A n c,∃bs:List (List Int×List Int),cs= [.slice A n c]/\bs.length=n/\Bars W W.heap.size A bs/\n<=c/\(A=none->n=0/\c=0):=by
 rcases open_slice_pairs Tryz.underlying55 Tryz.underlying97 (by kernel_rfl) rfl rfl (by kernel_rfl) (by kernel_rfl) h1 with⟨hcs,_⟩|⟨a,len,cap,m,nn,V0,V1,D0,D1,P0,P1,hcs,_,hl,hm,hmm,_,hx⟩
 ·exact⟨none,0,0,[],hcs,rfl,fun h=>absurd h (by simp),Nat.le_refl _,fun _=>⟨rfl,rfl⟩⟩
 ·have hlm: len <= m:=by rw [hmm]; simpa using hl
  have each: ∀i,i<m-> ∃q:List Int×List Int,∃A1 c1 A2 c2,W.cell? (a.add (i * 2))=some (.slice A1 q.1.length c1)/\W.cell? (a.add (i * 2+1))=some (.slice A2 q.2.length c2)/\
    Ints W W.heap.size A1 q.1/\Ints W W.heap.size A2 q.2/\(A1=none->q.1.length=0/\c1=0)/\(A2=none->q.2.length=0/\c2=0):=fun i hi=>by
   obtain⟨c0,c1,t0,t1⟩:=hx i hi;obtain⟨A1,n1,k1,z1,e1,hl1,hi1,hn1⟩:=open_ints' t0;obtain⟨A2,n2,k2,z2,e2,hl2,hi2,hn2⟩:=open_ints' t1;simp at e1 e2;rw[e1]at c0;rw[e2]at c1;subst hl1 hl2;exact⟨(z1,z2),A1,k1,A2,k2,c0,c1,hi1,hi2,hn1,hn2⟩
  obtain⟨q,hq⟩:=choose_lt each;refine⟨some a,len,cap,(List.range len).map q,hcs,by simp,fun hp=> ?_,hl,fun e=>by cases e⟩
  have hp:0<len:=by simpa using hp
  obtain⟨_,_,_,_,hh,_⟩:=hq 0 (by omega)
  obtain⟨b,off,rfl⟩:=spotless (by simpa[Addr.add]using hh)
  refine⟨b,off,rfl,cell_below hh,fun k x hx=> ?_⟩
  have hk:k<len:=by
   have:=(List.getElem?_eq_some_iff.1 hx).1
   simpa using this
  rw[List.getElem?_map,List.getElem?_range hk]at hx
  obtain rfl:q k=x:=by simpa using hx
  obtain⟨A1,c1,A2,c2,q0,q1,rest⟩:=hq k (by omega)
  rw[addr_add]at q0 q1;exact⟨A1,c1,A2,c2,q0,by rw[show off+k * 2+1=off+(k * 2+1) by omega];exact q1,rest⟩
end
section
variable {H: Type} {enc: TypeId × Value -> H} {W: World}
end
instance:Inhabited Shp:=⟨⟨0,0,0,0,0⟩⟩
section
variable {H: Type} {enc: TypeId × Value -> H} {W: World}
end
section
variable {H: Type} {enc: TypeId × Value -> H} {W: World}
end
instance:Inhabited (Sh×Task):=⟨⟨none,0,0,none,0,0,none,0,0,none,0,0⟩,⟨0,0,[],[],[],[]⟩⟩
structure InTl(w:World)(A:Option Addr)(n c:Nat)(l:List (Sh×Task)):Prop where
 hn:l.length=n
 ts:InTs w A l
 hA:A=none->n=0/\c=0
 hc:n<=c
section
variable {H: Type} {enc: TypeId × Value -> H} {W: World}
theorem open_desc6{fuel:Nat}{cs:List Value}{x:DataW H×List MemPlace}(hl:cs.length=6)(hf:DataW.trod enc Tryz.prog W 0 (fun _=>true) true fuel 57 cs=some x):
    ∃q:Sh×Task,cs= [.int .i64 q.2.period, .int .i64 q.2.deadline, .slice q.1.P q.1.np q.1.pc, .slice q.1.E q.1.ne q.1.ec, .slice q.1.F q.1.nf q.1.fc, .slice q.1.R q.1.nr q.1.rc]/\InD W q.1 q.2:=by
  obtain⟨xs,k,_,_,_,hxl,hg⟩:=DataW.trod_struct Tryz.underlying57 hf
  match xs,hxl,cs,hl with
  | [y0, y1, y2, y3, y4, y5], _, [v0, v1, v2, v3, v4, v5], _ =>
    have g0:=hg 0 _ rfl;have g1:=hg 1 _ rfl;have g2:=hg 2 _ rfl;have g3:=hg 3 _ rfl;have g4:=hg 4 _ rfl;have g5:=hg 5 _ rfl;have k0:Tryz.prog.cellsOf 3=1:=by kernel_rfl
    have k2:Tryz.prog.cellsOf 52=1:=by kernel_rfl
    have k3:Tryz.prog.cellsOf 53=1:=by kernel_rfl
    have k4:Tryz.prog.cellsOf 54=1:=by kernel_rfl
    have k5:Tryz.prog.cellsOf 55=1:=by kernel_rfl
    simp[k0,k2,k3,k4,k5]at g0 g1 g2 g3 g4 g5;obtain⟨z0,e0,_,_⟩:=DataW.trod_int Tryz.underlying3 g0;obtain⟨z1,e1,_,_⟩:=DataW.trod_int Tryz.underlying3 g1;obtain⟨A2,n2,c2,es2,e2,l2,m2,b2,s2⟩:=open_trips Tryz.underlying52 Tryz.underlying62 (by kernel_rfl) rfl rfl rfl (by kernel_rfl) (by kernel_rfl) (by kernel_rfl) Tryz.underlying60 Tryz.underlying3 Tryz.underlying3 g2
    obtain⟨A3,n3,c3,es3,e3,l3,m3,b3,s3⟩:=open_edges g3;obtain⟨A4,n4,c4,es4,e4,l4,m4,b4,s4⟩:=open_trips Tryz.underlying54 Tryz.underlying156 (by kernel_rfl) rfl rfl rfl (by kernel_rfl) (by kernel_rfl) (by kernel_rfl) Tryz.underlying3 Tryz.underlying3 Tryz.underlying3 g4
    obtain⟨A5,n5,c5,es5,e5,l5,m5,b5,s5⟩:=open_bars g5;simp at e0 e1 e2 e3 e4 e5;subst e0 e1 e2 e3 e4 e5;exact⟨(⟨A2,n2,c2,A3,n3,c3,A4,n4,c4,A5,n5,c5⟩,⟨z0,z1,es2,es3,es4,es5⟩),rfl,⟨⟨l2,l3,l4,l5,m2,m3,m4,m5,s2,s3,s4,s5⟩,b3,b4⟩⟩
theorem open_tasks{base:Nat}{v:Value}{d:DataW H}{p:List MemPlace}
  (hv:Value.okWide Tryz.prog W .any base 22 v) (h:DataW.Trod enc Tryz.prog W 0 (fun _=>true) true 22 v d p):
  ∃A n c l,v= .slice A n c/\InTl W A n c l:=by
 obtain⟨a0,len0,cap0,rfl⟩:=okWide_slice Tryz.underlying22 hv;obtain⟨fuel,hf⟩:=h;have hC:Tryz.prog.cellsOf 57=6:=by kernel_rfl
 rcases open_slice Tryz.underlying22 hf with⟨h0,_⟩|⟨a,len,cap,m,n,D,Pl,h0,_,hl,_,hmm,_,hx⟩
 ·simp [Value.cells] at h0
  obtain⟨rfl,rfl,rfl⟩:=h0;exact⟨none,0,0,[],rfl,rfl,⟨fun hp=>absurd hp (by simp),fun x hx=>by simp at hx⟩,fun _=>⟨rfl,rfl⟩,Nat.le_refl _⟩
 ·simp [Value.cells] at h0
  obtain⟨rfl,rfl,rfl⟩:=h0;have hlm:len0<=m:=by rw[hmm];simpa using hl
  have each: ∀i,i<m-> ∃q:Sh×Task,((W.cell? (a.add (i * 6))=some (.int .i64 q.2.period)/\W.cell? (a.add (i * 6+1))=some (.int .i64 q.2.deadline))/\W.cell? (a.add (i * 6+2))=some (.slice q.1.P q.1.np q.1.pc)/\
    W.cell? (a.add (i * 6+3))=some (.slice q.1.E q.1.ne q.1.ec)/\W.cell? (a.add (i * 6+4))=some (.slice q.1.F q.1.nf q.1.fc)/\W.cell? (a.add (i * 6+5))=some (.slice q.1.R q.1.nr q.1.rc))/\InD W q.1 q.2:=by
   intro i hi;obtain⟨cs',h1,h2⟩:=hx i hi;rw[hC]at h1;obtain⟨_,hlen,hcell⟩:=World.cells?_some h1
   obtain⟨q,rfl,hD⟩:=open_desc6 hlen h2;have q0:=hcell 0 (by omega)
   have q1:=hcell 1 (by omega)
   have q2:=hcell 2 (by omega)
   have q3:=hcell 3 (by omega)
   have q4:=hcell 4 (by omega)
   have q5:=hcell 5 (by omega)
   rw[add_add]at q0 q1 q2 q3 q4 q5;exact⟨q,⟨⟨by simpa using q0,by simpa using q1⟩,by simpa using q2,by simpa using q3,by simpa using q4,by simpa using q5⟩,hD⟩
  obtain⟨q,hq⟩:=choose_lt each;refine⟨some a,len0,cap0,(List.range len0).map q,rfl,by simp,⟨fun hp=> ?_,fun x hx=> ?_⟩,(fun e=>by cases e),hl⟩
  ·have hp: 0 < len0:=by simpa using hp
   obtain⟨b,off,rfl⟩:=spotless (by simpa[Addr.add]using(hq 0 (by omega)).1.1.1)
   refine⟨b,off,rfl,cell_below (hq 0 (by omega)).1.1.1,fun k x hx=> ?_⟩
   have hk:k<len0:=by
    have:=(List.getElem?_eq_some_iff.1 hx).1
    simpa using this
   rw[List.getElem?_map,List.getElem?_range hk]at hx
   obtain rfl:q k=x:=by simpa using hx
   obtain⟨⟨⟨q0,q1⟩,q2,q3,q4,q5⟩,_⟩:=hq k (by omega)
   rw[addr_add]at q0 q1 q2 q3 q4 q5;exact⟨⟨q0,by rw[show off+k * 6+1=off+(k * 6+1) by omega];exact q1⟩,by rw[show off+k * 6+2=off+(k * 6+2) by omega];exact q2,by rw[show off+k * 6+3=off+(k * 6+3) by omega];exact q3,by rw[show off+k * 6+4=off+(k * 6+4) by omega];exact q4,by rw[show off+k * 6+5=off+(k * 6+5) by omega];exact q5⟩
  ·obtain ⟨k,hk,rfl⟩:=List.mem_map.mp hx
   exact(hq k (by have:=List.mem_range.mp hk;omega)).2
end
end Go.Proofs.YtlfekmbalgkmeaaGreatDoor
namespace Go.Proofs.YtlfekmbalgkmeaaGreatDoor
open Go Go.RowKit
theorem walk_AdmitTells{A:Option Addr}{n c:Nat}{l:List (Sh×Task)}(w:World)(g:InTl w A n c l)(m:Int)(hm: -9223372036854775808<=m/\m<=9223372036854775807)(hT:DTab w):
  Calls Tryz.prog 3 #[.slice A n c,.int .i64 m] w fun e w'=>e= .returned (.bool true)/\Below w.heap.size w w':=law_AdmitTells m w hT g.hn g.ts
end Go.Proofs.YtlfekmbalgkmeaaGreatDoor
