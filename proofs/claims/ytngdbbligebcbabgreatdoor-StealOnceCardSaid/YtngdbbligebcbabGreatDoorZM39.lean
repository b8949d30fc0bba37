import Derived.Test.YtngdbbligebcbabGreatDoorZStealBegL
import Derived.Test.YtngdbbligebcbabGreatDoorZM12
import Derived.Test.YtngdbbligebcbabGreatDoorZM5
import Derived.Test.YtngdbbligebcbabGreatDoorZM36
import Derived.Test.YtngdbbligebcbabGreatDoorZM1
import Derived.Deep.SlicePairs
import Derived.Lib.SmallJoins
set_option linter.unusedSimpArgs false
set_option linter.unusedVariables false
set_option maxRecDepth 100000
set_option maxHeartbeats 16000000
namespace Go.Proofs.YtngdbbligebcbabGreatDoor
open Go Go.RowKit
section
variable {AW FE AP N: Option Addr} {nW cW mE dE nP cP nn nc: Nat} {W need: List Int} {E: List (Int × Int)}
theorem lbegin_no(wf:World)(cores z tk:Int)(hg:IsG wf AW nW cW FE mE dE W E)(hn:need.length=nn)(hl:nn<=400)(hI:Ints wf wf.heap.size N need)(hN:N=none->nn=0/\nc=0)(hz:newE W E need cores=z)(h0:z≠0):
  Calls Tryz.prog 17 #[.agg #[.slice AW nW cW,.slice FE mE dE],.slice N nn nc,.int .i64 cores,.slice AP nP cP,.int .i64 tk] wf fun e w'=>e= .returned (.tuple #[.agg #[.slice none 0 0,.slice none 0 0,.slice none 0 0,.slice none 0 0,.slice none 0 0],.bool false])/\Below wf.heap.size wf w':=by
 obtain⟨w0,hw0⟩: ∃w0,w0=(wf.alloc (.cells #[.slice AW nW cW,.slice FE mE dE] 25)).alloc (.cells #[.slice none 0 0,.slice none 0 0,.slice none 0 0,.slice none 0 0,.slice none 0 0] 41):=⟨_,rfl⟩;have hb0:Below wf.heap.size wf w0:=by rw[hw0];exact((Below.refl _ _).alloc (Nat.le_refl _) _).alloc (by simp) _
 have HB0:=Lib.hid hb0;have HD0:Hid (RowV wf.heap.size 25 [.slice AW nW cW,.slice FE mE dE] w0):=Lib.hid (by rw[hw0];exact(RowV.new wf _ _).alloc _)
 have HX0:Hid (RowV (wf.heap.size+1) 41 [.slice none 0 0,.slice none 0 0,.slice none 0 0,.slice none 0 0,.slice none 0 0] w0):=Lib.hid (by
  rw[hw0];have:=RowV.new (wf.alloc (.cells #[.slice AW nW cW,.slice FE mE dE] 25)) 41 [.slice none 0 0,.slice none 0 0,.slice none 0 0,.slice none 0 0,.slice none 0 0]
  simpa using this)
 have HG0:=Lib.hid (hg.below hb0);have HI0:=Lib.hid ((hI.below hb0).more hb0.size);have HW:=Lib.hid hw0;have HNN:=Lib.hid (show need.length=nn/\nn<=400/\(N=none->nn=0/\nc=0)from⟨hn,hl,hN⟩)
 have HZ:=Lib.hid hz;have HZ0:=Lib.hid h0;have hze:(z==0)=false:=by simpa using h0
 have c0:=HD0.out.cell (j:=0) rfl;have c1:=HD0.out.cell (j:=1) rfl;clear hw0 hb0 hg hn hl hI hN hz h0;go_enter Tryz.func17,Tryz.ntmps17;go_wp2_with fail;rw[<-HW.out];go_wp2_with fail;refine(own_g10 HG0.out).mono ?_
 rintro e w1 ⟨A1,c1',F1,d1,rfl,hg1,b1⟩;have HB1:=Lib.hid b1;have HG1:=Lib.hid hg1;clear b1 hg1;go_wp2_with fail;refine(ints13_any w1 N nc nn need HNN.out.1 (by have:=HNN.out.2.1;omega) ((HI0.out.below HB1.out).more HB1.out.size) HNN.out.2.2).mono ?_
 rintro e w2 ⟨A2,c2,rfl,ho2,_,hA2,b2⟩;have HB2:=Lib.hid b2;have HO2:=Lib.hid ho2;have HA2:=Lib.hid hA2;clear b2 ho2 hA2;go_wp2_with fail;refine(snew_no w2 (HG1.out.below HB2.out) HNN.out.1 HNN.out.2.1 HO2.out.ints HA2.out HZ.out HZ0.out).mono ?_
 rintro e w3 ⟨rfl,b3⟩;have HB3:Hid (Below w0.heap.size w0 w3):=Lib.hid (HB1.out.trans ((HB2.out.trans (b3.mono HB2.out.size)).mono HB1.out.size));clear b3 HB1 HB2 HO2 HA2 HG1 HI0;unfold noGang;obtain⟨w5,hw5⟩: ∃w5,w5=w3.alloc (.cells #[.slice none 0 0,.slice none 0 0,.slice none 0 0,.slice none 0 0,.slice none 0 0] 41):=⟨_,rfl⟩;have HB5:Hid (Below w0.heap.size w0 w5):=Lib.hid (by rw[hw5];exact HB3.out.trans ((below_alloc _).mono HB3.out.size))
 have hq9:RowV w3.heap.size 41 [.slice none 0 0,.slice none 0 0,.slice none 0 0,.slice none 0 0,.slice none 0 0] w5:=by rw[hw5];exact RowV.new w3 _ _
 have hx9:=HX0.out.below HB5.out HX0.out.lt;go_wp2;clear c0 c1;rw[<-hw5];clear hw5;go_loopw [14] (fun v wr=>v= .int .i64 0/\wr=w5) (fun _ _=>0)
 case atStart=>exact⟨rfl,rfl⟩
 case round=>
  obtain⟨rfl,rfl⟩:=hrel;have y0:=hq9.cell (j:=0) rfl;have y1:=hq9.cell (j:=1) rfl;have y2:=hq9.cell (j:=2) rfl;have y3:=hq9.cell (j:=3) rfl;have y4:=hq9.cell (j:=4) rfl;have x0:=hx9.cell (j:=0) rfl;have x1:=hx9.cell (j:=1) rfl;have x2:=hx9.cell (j:=2) rfl;have x3:=hx9.cell (j:=3) rfl;have x4:=hx9.cell (j:=4) rfl;have z0:=hx9.frozen 0;have z1:=hx9.frozen 1;have z2:=hx9.frozen 2;have z3:=hx9.frozen 3;have z4:=hx9.frozen 4;have HRW:=Lib.hid (set5_row hx9 (.slice none 0 0) (.slice none 0 0) (.slice none 0 0) (.slice none 0 0) (.slice none 0 0));have HBL:=Lib.hid (set5_bel (p:=wf.heap.size+1) (HB0.out.trans (HB5.out.mono HB0.out.size)) (by omega) (.slice none 0 0) (.slice none 0 0) (.slice none 0 0) (.slice none 0 0) (.slice none 0 0))
  clear hq9 hx9
  by_cases hk:0<tk
  ·have hka: decide (0 < tk) = true:=decide_eq_true hk
   go_wp2;unfold set5 at HRW HBL
   refine bodyPost_ret (v:=.tuple #[.agg #[.slice none 0 0,.slice none 0 0,.slice none 0 0,.slice none 0 0,.slice none 0 0],.bool false]) ?_ rfl ⟨rfl,HBL.out⟩
   exact ret_g1 rfl rfl rfl HRW.out rfl
  ·have hka: decide (0 < tk) = false:=decide_eq_false hk
   go_wp2;unfold set5 at HRW HBL
   refine bodyPost_ret (v:=.tuple #[.agg #[.slice none 0 0,.slice none 0 0,.slice none 0 0,.slice none 0 0,.slice none 0 0],.bool false]) ?_ rfl ⟨rfl,HBL.out⟩
   exact ret_g1 rfl rfl rfl HRW.out rfl
end
end Go.Proofs.YtngdbbligebcbabGreatDoor
namespace Go.Proofs.YtngdbbligebcbabGreatDoor
open Go.ChangeShapes Go.WideShapes Go.ChangeAt Go.RowKit Go.Joins Go.Deep
structure InN(w:World)(N:Option Addr)(nn nc:Nat)(need:List Int):Prop where
 hn:need.length=nn
 ln:nn<=9223372036854775807
 ints:Ints w w.heap.size N need
 hN:N=none->nn=0/\nc=0
structure InT(w:World)(T:Option Addr)(tn tc:Nat)(t:List (List Int)):Prop where
 ht:t.length=tn
 lt:tn<=9223372036854775807
 lr: ∀r∈t,r.length<=9223372036854775807
 rows:Trc w w.heap.size T t
 hT:T=none->tn=0/\tc=0
 cT:tn<=tc
theorem InN.with{w:World}{N:Option Addr}{nn nc:Nat}{need:List Int}{T:Option Addr}{tn tc:Nat}{t:List (List Int)}(h:InN w N nn nc need)(g:InT w T tn tc t):InS w N nn nc T tn tc need t:=
 ⟨h.hn,g.ht,h.ln,g.lt,g.lr,h.ints,g.rows,h.hN,g.hT,g.cT⟩
theorem edges_of{w:World}{a:Addr}{len m:Nat}{V0 V1:Nat->Value}(hl:len<=m)
  (h: ∀i,i<m->w.cell? (a.add (i * 2))=some (V0 i)/\w.cell? (a.add (i * 2+1))=some (V1 i)/\(∃n,V0 i= .int .i64 n/\(Lit.int .i64 n).wf=true)/\(∃n,V1 i= .int .i64 n/\(Lit.int .i64 n).wf=true)):
  ∃es:List (Int×Int),es.length=len/\Pairs w w.heap.size (some a) es/\ ∀e∈es,(-9223372036854775808<=e.1/\e.1<=9223372036854775807)/\(-9223372036854775808<=e.2/\e.2<=9223372036854775807):=by
 have e1:IntKind.i64.min= -9223372036854775808:=by decide
 have e2:IntKind.i64.max=9223372036854775807:=by decide
 let f:Nat->Int×Int:=fun i=>(match V0 i with| .int _ n=>n|_=>0,match V1 i with| .int _ n=>n|_=>0)
 have hf: ∀i,i<m->V0 i= .int .i64 (f i).1/\V1 i= .int .i64 (f i).2/\(Lit.int .i64 (f i).1).wf=true/\(Lit.int .i64 (f i).2).wf=true:=by
  intro i hi;obtain⟨_,_,⟨n0,h0,k0⟩,⟨n1,h1,k1⟩⟩:=h i hi;simp only[f,h0,h1];exact⟨trivial,trivial,k0,k1⟩
 refine⟨(List.range len).map f,by simp,fun hp=> ?_,?_⟩
 ·have hp: 0 < len:=by simpa using hp
  obtain⟨b,off,spot⟩:=a;have hspot:spot=none:=by simpa[Addr.add]using World.cell?_spot (h 0 (by omega)).1
  subst hspot;have hc: ∀i,i<m->w.cell? ⟨b,off+i * 2,none⟩=some (.int .i64 (f i).1)/\w.cell? ⟨b,off+i * 2+1,none⟩=some (.int .i64 (f i).2):=by
   intro i hi;obtain⟨c0,c1,_,_⟩:=h i hi;obtain⟨v0,v1,_,_⟩:=hf i hi;rw[addr_add,v0]at c0;rw[addr_add,v1]at c1;exact⟨c0,by rw[show off+i * 2+1=off+(i * 2+1) by omega];exact c1⟩
  refine⟨b,off,rfl,cell_below (hc 0 (by omega)).1,fun k e he=> ?_⟩
  obtain⟨i,hi,rfl⟩:=List.mem_map.mp (List.mem_of_getElem? he)
  have hk:k<len:=by
   have:=(List.getElem?_eq_some_iff.1 he).1
   simpa using this
  rw[List.getElem?_map,List.getElem?_range hk]at he
  have he:f k=f i:=by simpa using he
  rw[<-he];exact hc k (by omega)
 ·intro e he
  obtain⟨i,hi,rfl⟩:=List.mem_map.mp he;have hi:i<len:=by simpa using hi
  obtain⟨_,_,k0,k1⟩:=hf i (by omega)
  simp[Lit.wf,e1,e2]at k0 k1;omega
theorem open_dag{H:Type}{enc:TypeId×Value->H}{W:World}{base:Nat}{v:Value}{d:DataW H}{p:List MemPlace}
  (hv:Value.okWide Tryz.prog W .any base 25 v) (h:DataW.Trod enc Tryz.prog W 0 (fun _=>true) true 25 v d p):
  ∃A n c F m dd Wl El,v= .agg #[.slice A n c,.slice F m dd]/\InG W A n c F m dd Wl El:=by
 obtain⟨v0,v1,y0,y1,k,rfl,_,_,h0,h1⟩:=open_agg2 Tryz.underlying25 (by kernel_rfl) (by kernel_rfl) hv h
 obtain⟨A,n,c,zs,rfl,hrow⟩: ∃A n c zs,v0= .slice A n c/\IsRow .i64 W A n c zs:=by
  rcases open_ints Tryz.underlying22 Tryz.underlying3 (by kernel_rfl) h0 with⟨hcs,_⟩|⟨x,l,c,zs,hcs,_,hl,hm,hz,_,hcell,hwz⟩
  ·simp at hcs
   exact⟨none,0,0,[],hcs,.inl ⟨rfl,rfl,rfl,rfl⟩⟩
  ·simp at hcs
   exact⟨_,_,_,zs,hcs,.inr ⟨_,rfl,hl,hm,by simpa using hz,hcell,hwz⟩⟩
 obtain⟨F,m,dd,es,rfl,hm,hp,hmx,hw,hF⟩: ∃F m dd,∃es:List (Int×Int),v1= .slice F m dd/\es.length=m/\Pairs W W.heap.size F es/\m<=9223372036854775807/\
   (∀e∈es,(-9223372036854775808<=e.1/\e.1<=9223372036854775807)/\(-9223372036854775808<=e.2/\e.2<=9223372036854775807))/\(F=none->m=0/\dd=0):=by
  rcases open_slice_pairs Tryz.underlying23 Tryz.underlying163 (by kernel_rfl) rfl rfl (by kernel_rfl) (by kernel_rfl) h1 with⟨hcs,_⟩|⟨a,len,cap,m,nn,V0,V1,D0,D1,P0,P1,hcs,_,hl,hm,hmm,_,hx⟩
  ·simp at hcs
   exact⟨none,0,0,[],hcs,rfl,fun h=>absurd h (by simp),by omega,fun e he=>by simp at he,fun _=>⟨rfl,rfl⟩⟩
  ·simp at hcs
   have hlm:len<=m:=by rw[hmm];simpa using hl
   obtain⟨es,k1,k2,k3⟩:=edges_of (w:=W) (a:=a) (len:=len) (m:=m) (V0:=V0) (V1:=V1) hlm (fun i hi=>by
    obtain⟨c0,c1,t0,t1⟩:=hx i hi;obtain⟨n0,e0,_,w0⟩:=DataW.trod_int Tryz.underlying3 t0;obtain⟨n1,e1,_,w1⟩:=DataW.trod_int Tryz.underlying3 t1;simp at e0 e1;exact⟨c0,c1,⟨n0,e0,w0⟩,⟨n1,e1,w1⟩⟩)
   refine⟨some a,len,cap,es,hcs,k1,k2,by unfold maxLen at hm;omega,k3,fun e=>by cases e⟩
 obtain⟨r1,r2,r3,r4,r5⟩:=row_ints hrow;refine⟨A,n,c,F,m,dd,zs.take n,es,rfl,⟨r2,hm,r4,hmx,r1,hp,fun e=> ?_,hF⟩⟩
 have:=r3 e;omega
section
variable {H: Type} {enc: TypeId × Value -> H} {W: World}
theorem open_intsS{fuel:Nat}{cs:List Value}{x:DataW H×List MemPlace}(h1:DataW.trod enc Tryz.prog W 0 (fun _=>true) true fuel 22 cs=some x):
  ∃A n c,∃zs:List Int,cs= [.slice A n c]/\zs.length=n/\Ints W W.heap.size A zs/\n<=9223372036854775807/\n<=c/\(A=none->n=0/\c=0):=by
 obtain⟨A,n,c,zs,rfl,hrow⟩: ∃A n c zs,cs= [.slice A n c]/\IsRow .i64 W A n c zs:=by
  rcases open_ints Tryz.underlying22 Tryz.underlying3 (by kernel_rfl) h1 with⟨hcs,_⟩|⟨x,l,c,zs,hcs,_,hl,hm,hz,_,hcell,hwz⟩
  ·exact⟨none,0,0,[],hcs,.inl ⟨rfl,rfl,rfl,rfl⟩⟩
  ·exact⟨_,_,_,zs,hcs,.inr ⟨_,rfl,hl,hm,by simpa using hz,hcell,hwz⟩⟩
 obtain⟨r1,r2,r3,r4,r5⟩:=row_ints hrow;refine⟨A,n,c,zs.take n,rfl,r2,r1,r4,r5,fun e=> ?_⟩
 have:=r3 e;omega
theorem open_need{base:Nat}{v:Value}{d:DataW H}{p:List MemPlace}
  (hv:Value.okWide Tryz.prog W .any base 22 v) (h:DataW.Trod enc Tryz.prog W 0 (fun _=>true) true 22 v d p):
  ∃A n c zs,v= .slice A n c/\InN W A n c zs:=by
 obtain⟨a0,len0,cap0,rfl⟩:=okWide_slice Tryz.underlying22 hv;obtain⟨fuel,hf⟩:=h;obtain⟨A,n,c,zs,e0,l0,m0,b0,s0,w0⟩:=open_intsS hf;simp[Value.cells]at e0;obtain⟨rfl,rfl,rfl⟩:=e0;exact⟨_,_,_,zs,rfl,⟨l0,b0,m0,w0⟩⟩
end
end Go.Proofs.YtngdbbligebcbabGreatDoor
