import Derived.Test.YtfahabphncmbfaaGreatDoorZStealTick
import Derived.Test.YtfahabphncmbfaaGreatDoorZQ42
set_option linter.all false
set_option maxRecDepth 100000
set_option maxHeartbeats 16000000
namespace Go.Proofs.YtfahabphncmbfaaGreatDoor
open Go Go.RowKit
open Go.Lib renaming hid→Zf
open List renaming getD_eq_getElem?_getD→Zi,getElem?_append_left→Ym,getElem?_eq_getElem→Zh,mem_cons→ZT,mem_cons_of_mem→Z1,mem_cons_self→Z3,not_mem_nil→Yx
open Nat renaming le_trans→ZK,lt_or_ge→Zv
open Go.Proofs.Tryz renaming prog→Zg
open Go renaming execOp→Yae
open Go.Proofs.Tryz
section
variable {P: Program}{ops: Array Oper}{Q: Exit -> Act -> World -> Prop}
end
theorem Zow(z:Int)(w:World):Calls Zg 42 #[.int .i64 z] w fun e w'=>e=.returned (.bool (decide (0<z)))/\w'=w:=by
 go_enter func42,ntmps42;go_wp2
 all_goals
  go_ret;exact⟨rfl,rfl⟩
theorem ZkA{L:List Int}(h0:∀z∈L,0<=z):0<L.sum↔ ∃z∈L,0<z:=by
  induction L with
  |nil=>simp
  | cons a l ih =>
    have h1:=h0 a Z3;have ih:=ih fun z hz=>h0 z (Z1 _ hz);have h2:0<=l.sum:=Zbz fun z hz=>h0 z (Z1 _ hz);rw[List.sum_cons];constructor
    · intro h;by_cases ha:0<a
      · exact⟨a,Z3,ha⟩
      · obtain⟨z,hz,hp⟩:=ih.mp (by omega);exact⟨z,Z1 _ hz,hp⟩
    · rintro⟨z,hz,hp⟩;rcases ZT.mp hz with rfl|hz
      · omega
      · have:=ih.mpr ⟨z,hz,hp⟩;omega
theorem Zh4(w:World){N:Option Addr}{nn nc:Nat}{L:List Int}(hn:L.length=nn)(hl:nn<=1000)(hI:Ints w w.heap.size N L)(h0:∀z∈L,0<=z):
  Calls Zg 43 #[.slice N nn nc,.func (.func 42) #[] #[]] w fun e w'=>e=.returned (.bool (decide (0<L.sum)))/\w'=w:=by
 refine(ZhR N nc nn L 42 #[] (Za1 func42 (by kernel_rfl) rfl) (fun k=>match L[k]? with|some z=>decide (0<z)|none=>false) (fun _ x=>x=w) w.heap.size hn hl (fun _ x hx=>hx▸hI) (fun k x W' hk hW=> ?_) (decide (0<L.sum)) ?_ w rfl).mono ?_
 ·subst hW
  have:=Zow x W';simp only[hk];exact this.mono fun e w' h=>h
 ·rw [decide_eq_true_iff,ZkA h0]
  constructor
  ·rintro ⟨z,hz,hp⟩
   obtain⟨j,hj,he⟩:=List.getElem_of_mem hz;exact⟨j,by omega,by rw[Zh hj,he];exact Ze hp⟩
  ·rintro ⟨j,hj,hb⟩
   have hj':j<L.length:=by omega
   rw[Zh hj']at hb;exact⟨_,List.getElem_mem hj',of_decide_eq_true hb⟩
 ·rintro e w' ⟨rfl,k,hk⟩
  exact⟨rfl,hk⟩
def cutA(A:Option Addr)(c i:Nat):Option Addr:=if c=i then A else A.map (·.add (i * 1))
theorem ZsB{ρ:Operand->Value}{o:Oper}{x y:Operand}{A:Option Addr}{n c i:Nat}{w:World}(ho:o.op=.slice 22 x (some y) none none)(hx:ρ x=.slice A n c)(hy:ρ y=.int .i64 (i:Int))(hi:i<=n):
  (Yae ρ o).run Zg w=.ok (.value (.slice (cutA A c i) (n - i) (c - i))) w:=by
 have hu:Zg.underlying 22=some (.slice (Zg.elem 22)):=by kernel_rfl
 have h2:(Instr.sliceAt 22 (.slice A n c) (some (.int .i64 (i:Int))) none none).run Zg w=.ok (.slice (cutA A c i) (n - i) (c - i)) w:=by rw[run_sliceAt_slice (h:=hu),run_slice_l (ht:=hu) (h0:=by omega) (h1:=by omega)];simp[go_sem,sliced,cutA]
 simp only[Yae,ho,hx,hy,Option.map_some,Option.map_none,Sem.run_bind,h2,Result.andThen,Sem.run_pure]
theorem Ints.cut{w:World}{B:Nat}{A:Option Addr}{c i:Nat}{zs:List Int}(h:Ints w B A zs)(hc:zs.length<=c):Ints w B (cutA A c i) (zs.drop i):=fun hn=>by
 rw[List.length_drop]at hn;obtain⟨b,off,e,hb,hcell⟩:=h (by omega);refine⟨b,off+i,?_,hb,fun k hk=> ?_⟩
 ·unfold cutA
  rw[Zb (by omega),e];show some ((⟨b,off,none⟩:Addr).add (i * 1))=_;rw[Za3,Nat.mul_one]
 ·rw [List.length_drop] at hk
  rw[Nat.add_assoc,hcell (i+k) (by omega)];congr 2;rw[Zi,Zi,List.getElem?_drop]
def TrS(w:World)(b gO:Nat)(v:Value)(t:List (List Int)):Prop:=
 ∃vs:List Value,w.ownsRow b 22 1 v t.length vs/\∀(k:Nat) (r:List Int),t[k]?=some r->∃A1 c1,vs[k]?=some (Value.slice A1 r.length c1)/\OwnI w b (Value.slice A1 r.length c1) r/\(Value.slice A1 r.length c1).ownBlock≠some gO
section
variable {w w': World}{b gO: Nat}{v: Value}{t: List (List Int)}{bs: List Nat}
theorem TrS.own(h:TrS w b gO v t):OwnTr w b v t:=by
 obtain⟨vs,h1,h2⟩:=h;exact⟨vs,h1,fun k r hr=>by obtain⟨A1,c1,e1,e2,_⟩:=h2 k r hr;exact⟨A1,c1,e1,e2⟩⟩
theorem TrS.below(h:TrS w b gO v t)(hb:Below w.heap.size w w'):TrS w' b gO v t:=by
 obtain⟨vs,h1,h2⟩:=h;exact⟨vs,Zac h1 hb,fun k r hr=>by obtain⟨A1,c1,e1,e2,e3⟩:=h2 k r hr;exact⟨A1,c1,e1,e2.below hb,e3⟩⟩
theorem TrS.kp(h:TrS w b gO v t)(hk:Kp bs w w')(hbs:∀q∈bs,q=gO\/q<b){base m c:Nat}{O:List Int}(hO:OwnI w base (.slice (some ⟨gO,0,none⟩) m c) O):TrS w' b gO v t:=by
 obtain⟨vs,h1,h2⟩:=h;refine⟨vs,hk.own h1 (fun q hq hm=> ?_),fun k r hr=> ?_⟩
 ·rcases hbs q hm with rfl | hlt
  ·rcases hO.2 with ⟨e,_⟩ | ⟨g',cap,cur,e,hg',hgg,_⟩
   ·cases e
   ·injection e with e1 e2 e3
    injection e1 with e1;injection e1 with e1;exact Zaf h1 (e1▸hgg) (by decide) hq
  ·have:=(ZcU h1 q hq).1
   omega
 ·obtain ⟨A1,c1,e1,e2,e3⟩:=h2 k r hr
  refine⟨A1,c1,e1,hk.own e2 (fun q hq hm=> ?_),e3⟩;rcases hbs q hm with rfl|hlt
  ·exact e3 hq
  ·have:=(e2.blockLt q hq).1
   omega
theorem TrS.kpLt(h:TrS w b gO v t)(hk:Kp bs w w')(hbs:∀q∈bs,q<b):TrS w' b gO v t:=by
 obtain⟨vs,h1,h2⟩:=h;refine⟨vs,hk.own h1 (fun q hq hm=> ?_),fun k r hr=> ?_⟩
 ·have:=(ZcU h1 q hq).1
  have:=hbs q hm;omega
 ·obtain ⟨A1,c1,e1,e2,e3⟩:=h2 k r hr
  refine⟨A1,c1,e1,hk.own e2 (fun q hq hm=> ?_),e3⟩;have:=(e2.blockLt q hq).1;have:=hbs q hm;omega
theorem TrS.newO(h:TrS w b gO v t){g2:Nat}(hg:w.heap.size<=g2):TrS w b g2 v t:=by
 obtain⟨vs,h1,h2⟩:=h;exact⟨vs,h1,fun k r hr=>by obtain⟨A1,c1,e1,e2,_⟩:=h2 k r hr;exact⟨A1,c1,e1,e2,fun q=>by have:=(e2.blockLt g2 q).2;omega⟩⟩
end
section
variable {w w': World}{base gw m: Nat}{g: Gng}{L: List Int}{a: GAd}{vW vE: Value}
theorem IsWk.rx{u:TypeId}{b:Nat}{row:Option Nat}(h:IsWk w base gw m g L a vW vE)(hr:RXs u b row w w')(h1:3≠u)(h2:102≠u)(h3:87≠u)(h4:95≠u):IsWk w' base gw m g L a vW vE:=
 ⟨hr.rowV h.row h4,h.hw,⟨h.gng.ol,hr.own h.gng.on h1,hr.own h.gng.left h1,hr.own h.gng.dqs h2,hr.own h.gng.tks h3,hr.own h.gng.frm h1,fun j hj=>hr.own (h.gng.ring j hj) h1,h.gng.oL,h.gng.oF,h.gng.oR,h.gng.fL,h.gng.fR⟩⟩
end
theorem Zqt(l:List Int)(s:Nat):l.drop (min s l.length)=l.drop s:=by
 rcases Nat.le_total s l.length with h|h
 ·rw[Nat.min_eq_left h]
 ·rw[Nat.min_eq_right h,List.drop_length,List.drop_eq_nil_of_le h]
theorem ZkB{n m:Nat}{E:List (Int×Int)}{need picks:List Int}(k:Nat):Zat n m E need picks (k+1)=(Zat n m E need picks k).drop (lenC m (Zbm n m E need (Zat n m E need picks) k).1 (Zat n m E need picks k)):=by unfold Zat;rw[Zgz,List.drop_drop];rfl
structure SrSt(wf:World)(n m:Nat)(E:List (Int×Int))(need picks:List Int)(vW vE:Value)(gw bT gD gT gF k:Nat)(a:GAd)(tA:Option Addr)(tc:Nat)(w:World):Prop where
 bel:Below wf.heap.size wf w
 wk:IsWk w wf.heap.size gw m (Zbm n m E need (Zat n m E need picks) k).1 (Zbm n m E need (Zat n m E need picks) k).2 a vW vE
 tr:TrS w bT a.gO (.slice tA k tc) (ZbA (rowG n m E need (Zat n m E need picks)) k)
 ids:a.gD=gD/\a.gT=gT/\a.gF=gF
 lo:gw<bT/\gD<bT/\gT<bT/\gF<bT
 hb:bT<=w.heap.size
 hb0:wf.heap.size<=bT
def Zox(S s:Nat)(A:Option Addr)(n c:Nat):Nat->Value->World->Prop
 |0,v,w=>v=.int .i64 (S:Int)
 |1,v,w=>v=.int .i64 (s:Int)
 |2,v,w=>v=.int .i64 ((S+s:Nat):Int)
 |3,v,w=>v=.slice A n c
 |4,v,w=>v=.int .i64 (s:Int)
 |5,v,w=>v=.slice A n c
 |6,v,w=>v=.int .i64 (n:Int)
 |7,v,w=>v=.int .i64 ((min s n:Nat):Int)
 |8,v,w=>v=.slice (cutA A c (min s n)) (n - min s n) (c - min s n)
 |9,v,w=>v=.int .i64 ((S+s:Nat):Int)
 |10,v,w=>v=.slice (cutA A c (min s n)) (n - min s n) (c - min s n)
 |_,_,_=>True
theorem Zje{S s:Nat}{A:Option Addr}{n c:Nat}:∀kq v w w',Zox S s A n c kq v w->Below w.heap.size w w'->Zox S s A n c kq v w':=by
 intro kq v w w' h hb
 match kq,h with
 |0,h=>exact h
 |1,h=>exact h
 |2,h=>exact h
 |3,h=>exact h
 |4,h=>exact h
 |5,h=>exact h
 |6,h=>exact h
 |7,h=>exact h
 |8,h=>exact h
 |9,h=>exact h
 |10,h=>exact h
 |kq+11,h=>exact trivial
section
variable {AW FE: Option Addr}{nW cW mE dE: Nat}{W: List Int}{E: List (Int × Int)}{N: Option Addr}{nn nc: Nat}{need: List Int}{AP: Option Addr}{nP cP: Nat}{picks: List Int}
def ZsC:Value->Nat
 | .slice _ n _=>n
 |_=>0
theorem Zls{m:Nat}(wf:World)(hT:DTab wf)(hg:IsG wf AW nW cW FE mE dE W E)(hn:need.length=nn)(hl:nn<=400)(hI:Ints wf wf.heap.size N need)(hN:N=none->nn=0/\nc=0)
    (hp:picks.length=nP)(hp2:nP<=1000)(hP:Ints wf wf.heap.size AP picks)(hPc:nP<=cP)(he:newE W E need m=0)(hs:need.sum<=300):
    Calls Zg 11 #[.agg #[.slice AW nW cW,.slice FE mE dE],.slice N nn nc,.int .i64 m,.slice AP nP cP] wf fun e w'=>
      ∃v,e=.returned (.tuple #[v,.int .i64 ((Zbv W.length m E need picks (lenG W.length m E need picks)).1:Nat),.int .i64 0])/\GotT (ZdV W.length m E need picks) v w'/\Below wf.heap.size wf w':=by
  obtain⟨hM,hFo⟩:=newE_zero.mp he;have hm1:1<=m:=by have:=hFo.2.2.1;omega
  have hm8:m<=8:=by have:=hFo.2.2.2;omega
  have hW64:W.length<=64:=hM.nodes;obtain⟨nW2,hnW2⟩:∃x,x=W.length:=⟨_,rfl⟩;have hOKS:∀k,GOk nW2 m E (Zbm nW2 m E need (Zat nW2 m E need picks) k).2 (Zbm nW2 m E need (Zat nW2 m E need picks) k).1/\∀c,c<m->((Zbm nW2 m E need (Zat nW2 m E need picks) k).1.tk c).at_=0:=by rw[hnW2];exact ZhZ hM.fits hFo.2.1 hm1 hm8 hFo.1 hW64 _
  have HOKS:=Zf hOKS;have hSEQ:=Zlq (n:=nW2) (E:=E) (need:=need) (m:=m) (by rw[hnW2];exact hM.fits) hFo.2.1 hm1 hm8 (by rw[hnW2];exact hFo.1) (by rw[hnW2];exact hW64) (Zat nW2 m E need picks);have hSPEC:=Zi7 hSEQ (by rw[hnW2];exact hM.fits) hM.acyc hFo.2.1 hm1 hm8 (by rw[hnW2];exact hFo.1);have HLEN:Hid (lenG nW2 m E need picks=lenS (fun k=>(Zbm nW2 m E need (Zat nW2 m E need picks) k).2) need):=Zf rfl;have HSPEC:Hid ((Zbm nW2 m E need (Zat nW2 m E need picks) (lenG nW2 m E need picks)).2.sum<=0/\(∀j,j<lenG nW2 m E need picks->0<(Zbm nW2 m E need (Zat nW2 m E need picks) j).2.sum)/\lenG nW2 m E need picks<=300):=Zf ⟨hSPEC.1,hSPEC.2.1,by have:=hSPEC.2.2;have h2:(lenG nW2 m E need picks:Int)<=need.sum:=this;omega⟩;have HMN:=Zf (Zlv hM hFo);have HNW2:=Zf hnW2;obtain⟨vW,hvW⟩:∃v,v=Value.slice AW nW cW:=⟨_,rfl⟩;obtain⟨vE,hvE⟩:∃v,v=Value.slice FE mE dE:=⟨_,rfl⟩;have HVW:=Zf hvW;have HVE:=Zf hvE;have HM:=Zf hM;have HM1:=Zf hm1;have HN:=Zf hn;have HNN:=Zf hN;have HI:=Zf hI;have HP:=Zf hP;have HPL:=Zf hp;have HPC:=Zf hPc;have HP2:=Zf hp2;have HG:=Zf hg;have HT:=Zf hT;obtain⟨w0,hw0⟩:∃w0,w0=wf.alloc (.cells #[.slice AW nW cW,.slice FE mE dE] 25):=⟨_,rfl⟩;have HB0:Hid (Below wf.heap.size wf w0):=Zf (by rw[hw0];exact Zaa _);have hD0:RowV wf.heap.size 25 [.slice AW nW cW,.slice FE mE dE] w0:=by rw[hw0];exact RowV.new wf _ _
  have dd0:w0.cell? ⟨wf.heap.size,0,none⟩=some (.slice AW nW cW):=hD0.cell rfl;have dd1:w0.cell? ⟨wf.heap.size,1,none⟩=some (.slice FE mE dE):=hD0.cell rfl;have CB:=Zf (ZoD (nc:=nc) w0 (hT.via HB0.out) (hg.below HB0.out) hn hl ((hI.below HB0.out).more HB0.out.size) hN he);rw[<-hnW2]at CB;have HW:=Zf hw0;obtain⟨SU,hSU⟩:∃z,z=need.sum:=⟨_,rfl⟩;have HSU:=Zf hSU;rw[<-hSU]at hs;rw[<-hnW2];clear hT hg hI hN hn he hw0 hvW hvE hM hFo hD0 hp hP hPc hp2 hOKS hSEQ hSPEC hSU hnW2 hW64 hm1;go_enter func11,ntmps11;go_upto_region 1 with fail;rw[<-HW.out];go_upto_region 4 with(go_at_call 40;refine CB.out.mono ?_;rintro e w1 ⟨gw,a,rfl,hwk,hb⟩;(have HWK1:=Zf hwk);(have HB1:=Zf hb);clear hwk hb CB dd0 dd1);have HBF:Hid (Below wf.heap.size wf w1):=Zf (HB0.out.trans (HB1.out.mono HB0.out.size));have CT:Hid (Calls Zg 41 #[.agg #[.slice N nn nc,.slice none 0 0]] w1 fun e w'=>e=.returned (.int .i64 SU)/\Below w1.heap.size w1 w'):=Zf (by
    have hI2:=(HI.out.below HBF.out).more HBF.out.size;have hgN:IsG w1 N nn nc none 0 0 need []:=⟨HN.out,rfl,hl,by decide,hI2,fun h=>absurd h (by simp),HNN.out,fun _=>⟨rfl,rfl⟩,(HG.out.below HBF.out).tab⟩;have hmay:May need []:=⟨HMN.out.nodes,by simp,HMN.out.work,fun e he=>by simp at he,fun e he=>by simp at he,List.nodup_nil,fun a h=>by obtain⟨c,h1,_⟩:=h.last;exact absurd h1 (by unfold ed;simp)⟩
    have:=ZeI w1 hgN;unfold ZbF at this;rw[Zc hmay,<-HSU.out]at this;exact this)
  have hgt:decide ((4096:Int)<SU)=false:=Zd (by omega);go_upto_region 9 with(go_at_call 41;refine CT.out.mono ?_;rintro e w2 ⟨rfl,hb⟩;(have HB2:=Zf hb);clear hb CT);have H2:Hid (SrSt wf nW2 m E need picks vW vE gw w2.heap.size a.gD a.gT a.gF 0 a none 0 w2):=Zf (by
    have hwk:=HWK1.out.below HB2.out;have hl:=hwk.gng.lts;have hr:=hwk.row.lt;have hb2:=HBF.out.trans (HB2.out.mono HBF.out.size);rw[<-HVW.out,<-HVE.out]at hwk;refine⟨hb2,⟨hwk.row,ZK HB0.out.size hwk.hw,hwk.gng.down HB0.out.size⟩,⟨[],⟨rfl,.inl ⟨rfl,rfl⟩⟩,fun k r hr=>by simp[ZbA]at hr⟩,⟨rfl,rfl,rfl⟩,⟨hr,hl.2.1.2,hl.2.2.1.2,hl.2.2.2.2⟩,Nat.le_refl _,hb2.size⟩)
  obtain⟨bT,hbT⟩:∃x,x=w2.heap.size:=⟨_,rfl⟩;obtain⟨gD,hgD⟩:∃x,x=a.gD:=⟨_,rfl⟩;obtain⟨gT,hgT⟩:∃x,x=a.gT:=⟨_,rfl⟩;obtain⟨gF,hgF⟩:∃x,x=a.gF:=⟨_,rfl⟩;rw[<-hbT,<-hgD,<-hgT,<-hgF]at H2;have HP2w:Hid (Ints w2 wf.heap.size AP picks):=Zf (HP.out.below H2.out.bel);clear hbT hgD hgT hgF HWK1 HB1 HBF HB2;go_loopw [3,13,14] (fun pv tv sv wr=>∃(k S:Nat) (A:Option Addr) (n c:Nat) (a:GAd) (tA:Option Addr) (tc:Nat),pv=.slice A n c/\tv=.slice tA k tc/\sv=.int .i64 (S:Int)/\S<=1000000 * k/\k<=300/\n<=c/\n<=1000/\
      Hid (S=(Zbv nW2 m E need picks k).1/\(Zat nW2 m E need picks k).length=n/\Ints wr wf.heap.size A (Zat nW2 m E need picks k)/\∀j,j<k->0<(Zbm nW2 m E need (Zat nW2 m E need picks) j).2.sum)/\
      Hid (SrSt wf nW2 m E need picks vW vE gw bT gD gT gF k a tA tc wr)) (fun _ tv _ _=>301 - ZsC tv)
  case atStart=>exact⟨0,0,AP,nP,cP,a,none,0,rfl,rfl,rfl,by omega,by omega,HPC.out,HP2.out,Zf ⟨rfl,HPL.out,HP2w.out,fun j hj=>absurd hj (by omega)⟩,H2⟩
  case round=>
    clear H2 HP2w;obtain⟨k,S,A,n,c,a,tA,tc,rfl,rfl,rfl,hS6,hk3,hnc,hn1,HC,HS⟩:=hrel;obtain⟨AL,cL,hvL,hIL⟩:=HS.out.wk.gng.left.slice;obtain⟨Lk,hLk⟩:∃l,l=(Zbm nW2 m E need (Zat nW2 m E need picks) k).2:=⟨_,rfl⟩;rw[<-hLk]at hvL hIL;have hok:=(HOKS.out k).1;have hLl:Lk.length=nW2:=by rw[hLk];exact hok.crew.ln
    have hL0:∀z∈Lk,0<=z:=fun z hz=>by rw[hLk]at hz;exact(hok.crew.left z hz).1
    have CH:=Zf (Zh4 (nc:=cL) wr rfl (by have:=hok.n64;omega) hIL hL0);have x1:wr.cell? ⟨gw,1,none⟩=some (.slice AL Lk.length cL):=by rw[<-hvL];exact HS.out.wk.row.cell rfl
    have HLK:=Zf hLk;clear hok hLl hL0 hIL hvL hLk;by_cases hp:0<Lk.sum
    · rw[Ze hp]at CH;have hk29:k<=299:=by
        rcases Zv k (lenG nW2 m E need picks)with h|h
        · have:=HSPEC.out.2.2;omega
        · exfalso;rcases Zv (lenG nW2 m E need picks) k with h2|h2
          · have:=HC.out.2.2.2 _ h2;have:=HSPEC.out.1;omega
          · have e:k=lenG nW2 m E need picks:=by omega
            have:=HSPEC.out.1;rw[<-e,<-HLK.out]at this;omega
      have HPOS:Hid (0<(Zbm nW2 m E need (Zat nW2 m E need picks) k).2.sum):=Zf (by rw[<-HLK.out];exact hp);have hgr:IsGrS wr wf.heap.size AW nW cW FE mE dE W E:=(IsGrS.of HG.out).below HS.out.bel;have CC:=Zf (Zqs (cP:=c) wr (by rw[<-HNW2.out];exact(HOKS.out k).1) (HOKS.out k).2 HM.out hgr.tab hgr HC.out.2.1 (by omega) HC.out.2.2.1 (by rw[<-HVW.out,<-HVE.out];exact HS.out.wk));obtain⟨hw1,_,hl1,I1⟩:=ZeA (picks:=Zat nW2 m E need picks k) (HOKS.out k).1 (HOKS.out k).2;obtain⟨s,hsd⟩:∃s,s=lenC m (Zbm nW2 m E need (Zat nW2 m E need picks) k).1 (Zat nW2 m E need picks k):=⟨_,rfl⟩;rw[<-hsd]at hl1;rw[<-hsd]at CC;have hs6:s<=1000000:=by have h1:=Zjd HM1.out;have h8:8 * m * m * (m+1)<=8 * 8 * 8 * 9:=Nat.mul_le_mul (Nat.mul_le_mul (Nat.mul_le_mul_left 8 hm8) hm8) (by omega);omega
      have HSD:=Zf hsd;have HOK1:Hid (GOk nW2 m E Lk (Zdx m (Zbm nW2 m E need (Zat nW2 m E need picks) k).1 (Zat nW2 m E need picks k))/\∀c,c<m->((Zdx m (Zbm nW2 m E need (Zat nW2 m E need picks) k).1 (Zat nW2 m E need picks k)).tk c).at_=0):=Zf (by
        rw[HLK.out];exact⟨I1.ok,(Ze1 I1.ok hw1).1⟩)
      clear hw1 hl1 I1 hsd hgr hp;go_upto_region 13 with(first
        |(go_at_call 43;refine CH.out.mono ?_;rintro e wx ⟨rfl,hww⟩;replace hww:=hww.symm;subst hww;clear CH x1)
        |(go_at_call 44;refine CC.out.mono ?_;rintro e w1 ⟨rfl,Rv',hwk,hkp⟩;(have HWK1:=Zf hwk);(have HKP1:=Zf hkp);clear hwk hkp CC))
      have HSS:Hid (S+s<=1000000 * (k+1)):=Zf (by omega);have HK29:=Zf hk29;have HNC:=Zf hnc;have HN1:=Zf hn1;refine ZdP [51,52,53,54,55,56,57,58,59,14,3] [] [] (by kernel_rfl) (by kernel_rfl) (by kernel_rfl) (by intro d hd;simp at hd⊢;omega) (fun z=>Below w1.heap.size w1 z) (Zox S s A n c)
        (fun z z' h hb=>h.trans (hb.mono h.size)) Zje ((Below.refl _ _).drew) (fun p hp=>by cases hp) (fun kq hkq=>by simp at hkq) ?hstep ?hend
      case hstep=>
        intro kq o ho hw a w hI hA hd hl K hK;obtain⟨ρ,hρ⟩:∃ρ,a.eval=ρ:=⟨_,rfl⟩;rw[hρ]at hA hd hl
        match kq,ho with
        | 0, ho =>
          cases ho;have h0:ρ (.tmp 14)=.int .i64 (S:Int):=hl 9 _ rfl (by kernel_rfl)
          exact Zab hK hρ (.int .i64 (S:Int)) (by simp[Yae,h0,go_sem]) rfl
        | 1, ho =>
          cases ho;have h0:=hA.tmp 16 (by decide)
          exact Zab hK hρ (.int .i64 (s:Int)) (by simp[Yae,h0,go_sem]) rfl
        | 2, ho =>
          cases ho;have f0:(ρ (.tmp 51))=.int .i64 (S:Int):=hd ⟨0,.data⟩ (by simp) (by rfl);have f1:(ρ (.tmp 52))=.int .i64 (s:Int):=hd ⟨1,.data⟩ (by simp) (by rfl);have hwr:IntKind.i64.wrap ((S:Int)+(s:Int))=(S:Int)+(s:Int):=by rw[IntKind.wrap_i64];have:=HSS.out;omega
          exact Zab hK hρ (.int .i64 ((S+s:Nat):Int)) (by simp[Yae,f0,f1,hwr,go_sem]) rfl
        | 3, ho =>
          cases ho;have h0:ρ (.tmp 3)=.slice A n c:=hl 10 _ rfl (by kernel_rfl)
          exact Zab hK hρ (.slice A n c) (by simp[Yae,h0,go_sem]) rfl
        | 4, ho =>
          cases ho;have h0:=hA.tmp 16 (by decide)
          exact Zab hK hρ (.int .i64 (s:Int)) (by simp[Yae,h0,go_sem]) rfl
        | 5, ho =>
          cases ho;have h0:ρ (.tmp 3)=.slice A n c:=hl 10 _ rfl (by kernel_rfl)
          exact Zab hK hρ (.slice A n c) (by simp[Yae,h0,go_sem]) rfl
        | 6, ho =>
          cases ho;have f5:(ρ (.tmp 56))=.slice A n c:=hd ⟨5,.data⟩ (by simp) (by rfl)
          exact Zab hK hρ (.int .i64 (n:Int)) (by simp[Yae,f5,go_sem]) rfl
        | 7, ho =>
          cases ho;have f4:(ρ (.tmp 55))=.int .i64 (s:Int):=hd ⟨4,.data⟩ (by simp) (by rfl);have f6:(ρ (.tmp 57))=.int .i64 (n:Int):=hd ⟨6,.data⟩ (by simp) (by rfl);have hmn:((min s n:Nat):Int)=min (s:Int) (n:Int):=by omega
          exact Zab hK hρ (.int .i64 ((min s n:Nat):Int)) (by rw[hmn];simp[Yae,f4,f6,go_sem]) rfl
        | 8, ho =>
          cases ho;have f3:(ρ (.tmp 54))=.slice A n c:=hd ⟨3,.data⟩ (by simp) (by rfl);have f7:(ρ (.tmp 58))=.int .i64 ((min s n:Nat):Int):=hd ⟨7,.data⟩ (by simp) (by rfl)
          exact Zab hK hρ _ (ZsB rfl f3 f7 (Nat.min_le_right _ _)) rfl
        | 9, ho =>
          cases ho;have f2:(ρ (.tmp 53))=.int .i64 ((S+s:Nat):Int):=hd ⟨2,.data⟩ (by simp) (by rfl)
          exact Zab hK hρ (.int .i64 ((S+s:Nat):Int)) (by simp[Yae,f2,go_sem]) rfl
        | 10, ho =>
          cases ho;have f8:(ρ (.tmp 59))=.slice (cutA A c (min s n)) (n - min s n) (c - min s n):=hd ⟨8,.data⟩ (by simp) (by rfl)
          exact Zab hK hρ _ (by simp[Yae,f8,go_sem]) rfl
        |kq+11,ho=>simp at ho
      case hend=>
        intro vals w2 hIv hF;have f9:vals 14=.int .i64 ((S+s:Nat):Int):=hF 9 (by decide);have f10:vals 3=.slice (cutA A c (min s n)) (n - min s n) (c - min s n):=hF 10 (by decide);have HB2:=Zf hIv;clear hF hIv;simp only[ZaW,Zba,List.contains_cons,List.contains_nil,Nat.reduceBEq,Bool.or_false,Bool.false_or,Bool.or_true,Bool.true_or,cond_true,cond_false,Nat.zero_add,Nat.reduceAdd];rw[f9,f10];clear f9 f10;obtain⟨g1,hg1⟩:∃x,x=Zdx m (Zbm nW2 m E need (Zat nW2 m E need picks) k).1 (Zat nW2 m E need picks k):=⟨_,rfl⟩;rw[<-hg1]at HWK1 HOK1;rw[<-HVW.out,<-HVE.out,<-HLK.out]at HWK1;have HG1:=Zf hg1;have hids:=HS.out.ids;have hlo:=HS.out.lo;have HTR1:Hid (TrS w1 bT a.gO (.slice tA k tc) (ZbA (rowG nW2 m E need (Zat nW2 m E need picks)) k)):=Zf (HS.out.tr.kp HKP1.out (fun q hq=>by simp only[ZT,Yx,or_false]at hq;obtain⟨i1,i2,i3⟩:=hids;omega) HS.out.wk.gng.on)
        have hsz1:wr.heap.size<=w1.heap.size:=HKP1.out.size;have HB1:Hid (Below wf.heap.size wf w1):=Zf (HS.out.bel.trans (HKP1.out.below (by
          have hl:=HS.out.wk.gng.lts;simp only[ZT,Yx,or_false];rintro q (rfl|rfl|rfl|rfl)
          · exact hl.1.1
          · exact hl.2.1.1
          · exact hl.2.2.2.1
          · exact hl.2.2.1.1) HS.out.bel.size))
        have HWK2:=Zf (HWK1.out.below HB2.out);have HTR2:=Zf (HTR1.out.below HB2.out);have c0:w2.cell? ⟨gw,0,none⟩=some (.slice (some ⟨a.gO,0,none⟩) m a.cO):=HWK2.out.row.cell rfl;have hO1:g1.O.length=m:=HOK1.out.1.ol;have CCL:=Zf (Zd1 w2 (some ⟨a.gO,0,none⟩) m a.cO g1.O hO1 (by omega) HWK2.out.gng.on.ints (fun q=>by cases q));have HO1:=Zf hO1;have HIDS:=Zf hids;have HLO:=Zf hlo;have hbT2:bT<=w2.heap.size:=ZK HS.out.hb (ZK hsz1 HB2.out.size);have HBT2:=Zf hbT2;clear HWK1 HTR1 hids hlo hsz1 hg1 hO1;go_wp2_with fail;refine CCL.out.mono ?_;rintro e w3 ⟨A6,c6,he6,ho6,hb6⟩;rw[HO1.out]at he6 ho6;subst he6;have HO6:=Zf ho6;have HB6:=Zf hb6;obtain⟨vs,hv1,hv2⟩:=HTR2.out.below hb6;rw[ZaR]at hv1;have HV1:=Zf hv1;have HV2:=Zf hv2;have HWK3:=Zf (HWK2.out.below hb6);have hsz3:bT<=w3.heap.size:=ZK hbT2 hb6.size;clear ho6 hb6 CCL c0 hv1 hv2 HTR2;go_wp2_with(at_builtin;refine ZcV rfl _ _ 22 30 1 24 (.slice none 0 0) underlying30 Zdl rfl (by omega) (by omega) rfl rfl w3 bT k _ vs [.slice A6 m c6] HV1.out rfl (by simp[Value.oneCell']) (by omega) hsz3 (by first|rfl|simp[Act.eval]) (by first|rfl|simp[Act.eval]) ?_;intro T7 tc7 w7 ho7 hr7 ha7;(have HO7:=Zf ho7);(have HR7:=Zf hr7);clear ho7 hr7 ha7);have HWK7:=Zf (HWK3.out.rx HR7.out (by decide) (by decide) (by decide) (by decide));have hgOlt:a.gO<w2.heap.size:=HWK2.out.gng.lts.1.2;have HTR7:Hid (TrS w7 bT a.gO (.slice T7 (k+1) tc7) (ZbA (rowG nW2 m E need (Zat nW2 m E need picks)) (k+1))):=Zf (by
          refine⟨vs++ [.slice A6 m c6],?_,fun j r hj=> ?_⟩
          · rw[ZaR];exact HO7.out
          · have hvl:vs.length=k:=by have:=HV1.out.1;omega
            rw[ZdM]at hj;rcases Zv j k with h1|h1
            · rw[Ym (by rw[ZaR];exact h1)]at hj;obtain⟨A8,c8,e1,e2,e3⟩:=HV2.out j r hj;exact⟨A8,c8,by rw[Ym (by omega)];exact e1,HR7.out.own e2 (by decide),e3⟩
            · rw[List.getElem?_append_right (by rw[ZaR];exact h1),ZaR]at hj;obtain rfl:j=k:=by
                have:=(List.getElem?_eq_some_iff.1 hj).1;simp at this;omega
              rw[Nat.sub_self]at hj;have hr:rowG nW2 m E need (Zat nW2 m E need picks) j=r:=Option.some.inj hj;have hr2:g1.O=r:=by rw[<-hr,HG1.out];rfl
              rw[<-hr2,HO1.out];refine⟨A6,c6,by rw[<-hvl];simp,HR7.out.own (HO6.out.down hbT2) (by decide),fun q=> ?_⟩;have:=(HO6.out.blockLt a.gO q).1;omega)
        have hb27:Below bT w2 w7:=(HB6.out.mono hbT2).trans (HR7.out.below hsz3);have HBF7:Hid (Below wf.heap.size wf w7):=Zf (HB1.out.trans ((HB2.out.mono HB1.out.size).trans (hb27.mono HS.out.hb0)));have HB17:Hid (Below wf.heap.size w1 w7):=Zf ((HB2.out.mono HB1.out.size).trans (hb27.mono HS.out.hb0));have HSZ7:Hid (bT<=w7.heap.size):=Zf (ZK hbT2 hb27.size);clear HV1 HV2 HO7 HWK3 HWK2 HO6 hb27 hgOlt;have hgr:IsGrS w7 wf.heap.size AW nW cW FE mE dE W E:=(IsGrS.of HG.out).below HBF7.out;refine(Zqu w7 (by rw[<-HNW2.out];exact HOK1.out.1) HOK1.out.2 HM.out hgr (by rw[<-HVW.out,<-HVE.out];exact HWK7.out)).mono ?_;rintro e w8 ⟨A9,c9,a',rfl,_,hwk8,hid8,hkp8⟩;rw[<-HNW2.out,<-HVW.out,<-HVE.out]at hwk8;have HWK8:=Zf hwk8;have HID8:=Zf hid8;have HKP8:=Zf hkp8;clear hgr hwk8 hid8 hkp8 HWK7;go_wp2;go_roundw
        case rel=>
          have hids:=HIDS.out;have hlo:=HLO.out;have hnc2:=HNC.out;have hn2:=HN1.out;have h78:Below wf.heap.size w7 w8:=HKP8.out.below (by
            have h1:=HS.out.wk.hw;have h2:=HS.out.wk.gng.lts.2.1.1;simp only[ZT,Yx,or_false];rintro q (rfl|rfl)
            · exact h1
            · exact h2) HBF7.out.size
          have hr1:Below wf.heap.size wr w1:=HKP1.out.below (by
            have hl:=HS.out.wk.gng.lts;simp only[ZT,Yx,or_false];rintro q (rfl|rfl|rfl|rfl)
            · exact hl.1.1
            · exact hl.2.1.1
            · exact hl.2.2.2.1
            · exact hl.2.2.1.1) HS.out.bel.size
          have hr8:Below wf.heap.size wr w8:=hr1.trans (HB17.out.trans h78);have hnP:Zat nW2 m E need picks (k+1)=(Zat nW2 m E need picks k).drop (min s n):=by rw[ZkB,<-HSD.out,<-HC.out.2.1,Zqt]
          have htr8:TrS w8 bT a'.gO (.slice T7 (k+1) tc7) (ZbA (rowG nW2 m E need (Zat nW2 m E need picks)) (k+1)):=
            (HTR7.out.newO HID8.out.2.2.2).kpLt HKP8.out (fun q hq=>by
              simp only[ZT,Yx,or_false]at hq;rcases hq with rfl|rfl
              · exact hlo.1
              · have:=hids.1;show a.gD<bT;omega)
          refine⟨k+1,S+s,cutA A c (min s n),n - min s n,c - min s n,a',T7,tc7,by go_num,rfl,by go_num,HSS.out,by have:=HK29.out;omega,by omega,by omega,Zf ⟨?_,?_,?_,fun j hj=> ?_⟩,Zf ⟨HBF7.out.trans h78,?_,htr8,⟨HID8.out.1.trans hids.1,HID8.out.2.1.trans hids.2.1,HID8.out.2.2.1.trans hids.2.2⟩,hlo,?_,HS.out.hb0⟩⟩
          · rw[Zgz,<-HC.out.1,<-HSD.out]
          · rw[hnP,List.length_drop,HC.out.2.1]
          · rw[hnP];exact(HC.out.2.2.1.cut (by rw[HC.out.2.1];exact hnc2)).below hr8
          · rcases Zv j k with h|h
            · exact HC.out.2.2.2 j h
            · obtain rfl:j=k:=by omega
              exact HPOS.out
          · have h1:=HWK8.out;rw[HG1.out,HLK.out]at h1;exact h1
          · exact ZK HSZ7.out HKP8.out.size
        case measure=>simp[ZsC];have:=HK29.out;omega
    · rw[Zd hp]at CH;have hkl:k=lenG nW2 m E need picks:=by
        rcases Nat.lt_trichotomy k (lenG nW2 m E need picks)with h|h|h
        · have:=HSPEC.out.2.1 k h;rw[<-HLK.out]at this;omega
        · exact h
        · have:=HC.out.2.2.2 _ h;have:=HSPEC.out.1;omega
      have HKL:=Zf hkl;obtain⟨A5,c5,e5,h51,h52,h53⟩:=HS.out.tr.own.open;rw[ZaR]at e5 h52;obtain⟨h54,h56⟩:tA=A5/\tc=c5:=by injection e5 with e1 e2 e3;exact⟨e1,e3⟩
      subst h54 h56;have HX:Hid (Trc wr wr.heap.size tA (ZdV nW2 m E need picks)/\(tA=none->(ZdV nW2 m E need picks).length=0/\tc=0)/\(ZdV nW2 m E need picks).length=k):=Zf (by
        have e:ZdV nW2 m E need picks=ZbA (rowG nW2 m E need (Zat nW2 m E need picks)) k:=by rw[hkl];rfl
        rw[e,ZaR];exact⟨h51,h52,rfl⟩)
      clear hkl e5 h51 h52 h53 hp;go_wp2_with(go_at_call 43;refine CH.out.mono ?_;rintro e wx ⟨rfl,hww⟩;replace hww:=hww.symm;subst hww;clear CH x1);refine bodyPost_ret (v:=.tuple #[.slice tA k tc,.int .i64 (S:Int),.int .i64 0]) (by simp[results,Tryz.results11,go_sem]) rfl ⟨_,?_,⟨tA,tc,by rw[HX.out.2.2],HX.out.1,HX.out.2.1⟩,HS.out.bel⟩;rw[<-HKL.out,<-HC.out.1]
end
section
variable {AW FE: Option Addr}{nW cW mE dE: Nat}{W: List Int}{E: List (Int × Int)}{N: Option Addr}{nn nc: Nat}{need: List Int}
end
section
variable {base m: Nat}{g: Gng}{L: List Int}{ad: GAd}
end
end Go.Proofs.YtfahabphncmbfaaGreatDoor
