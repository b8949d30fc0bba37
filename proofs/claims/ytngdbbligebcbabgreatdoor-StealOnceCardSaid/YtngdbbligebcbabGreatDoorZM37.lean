import Derived.Test.YtngdbbligebcbabGreatDoorZStealTick
import Derived.Test.YtngdbbligebcbabGreatDoorZStealBegin
import Derived.Test.YtngdbbligebcbabGreatDoorZM35
import Derived.Test.YtngdbbligebcbabGreatDoorZM27
import Derived.Test.YtngdbbligebcbabGreatDoorZM10
import Derived.Test.YtngdbbligebcbabGreatDoorZM36
import Derived.Test.YtngdbbligebcbabGreatDoorZM34
set_option linter.unusedVariables false
set_option linter.unusedSimpArgs false
set_option maxRecDepth 100000
set_option maxHeartbeats 16000000
namespace Go.Proofs.YtngdbbligebcbabGreatDoor
open Go Go.RowKit
theorem leftS_any(z:Int)(w:World):Calls Tryz.prog 31 #[.int .i64 z] w fun e w'=>e= .returned (.bool (decide (0<z)))/\w'=w:=by
 go_enter Tryz.func31,Tryz.ntmps31;go_wp2
 all_goals
  go_ret;exact⟨rfl,rfl⟩
theorem sum_pos_iff{L:List Int}(h0: ∀z∈L,0<=z):0<L.sum↔ ∃z∈L,0<z:=by
  induction L with
  |nil=>simp
  | cons a l ih =>
    have h1:=h0 a List.mem_cons_self;have ih:=ih fun z hz=>h0 z (List.mem_cons_of_mem _ hz)
    have h2:0<=l.sum:=sum_nonneg' fun z hz=>h0 z (List.mem_cons_of_mem _ hz)
    rw[List.sum_cons];constructor
    · intro h
      by_cases ha:0<a
      · exact⟨a,List.mem_cons_self,ha⟩
      · obtain⟨z,hz,hp⟩:=ih.mp (by omega)
        exact⟨z,List.mem_cons_of_mem _ hz,hp⟩
    · rintro⟨z,hz,hp⟩;rcases List.mem_cons.mp hz with rfl|hz
      · omega
      · have:=ih.mpr ⟨z,hz,hp⟩;omega
theorem someLeftS_any(w:World){N:Option Addr}{nn nc:Nat}{L:List Int}(hn:L.length=nn)(hl:nn<=1000)(hI:Ints w w.heap.size N L)(h0: ∀z∈L,0<=z):
  Calls Tryz.prog 32 #[.slice N nn nc,.func (.func 31) #[] #[]] w fun e w'=>e= .returned (.bool (decide (0<L.sum)))/\w'=w:=by
 refine(has_int N nc nn L 31 #[] (eg_of Tryz.func31 (by kernel_rfl) rfl) (fun k=>match L[k]? with|some z=>decide (0<z)|none=>false) (fun _ x=>x=w) w.heap.size hn hl (fun _ x hx=>hx▸hI) (fun k x W' hk hW=> ?_) (decide (0<L.sum)) ?_ w rfl).mono ?_
 ·subst hW
  have:=leftS_any x W';simp only[hk];exact this.mono fun e w' h=>h
 ·rw [decide_eq_true_iff,sum_pos_iff h0]
  constructor
  ·rintro ⟨z,hz,hp⟩
   obtain⟨j,hj,he⟩:=List.getElem_of_mem hz;exact⟨j,by omega,by rw[List.getElem?_eq_getElem hj,he];exact decide_eq_true hp⟩
  ·rintro ⟨j,hj,hb⟩
   have hj':j<L.length:=by omega
   rw[List.getElem?_eq_getElem hj']at hb
   exact⟨_,List.getElem_mem hj',of_decide_eq_true hb⟩
 ·rintro e w' ⟨rfl,k,hk⟩
  exact⟨rfl,hk⟩
def cutA(A:Option Addr)(c i:Nat):Option Addr:=if c=i then A else A.map (·.add (i * 1))
theorem cut_eq{ρ:Operand->Value}{o:Oper}{x y:Operand}{A:Option Addr}{n c i:Nat}{w:World}(ho:o.op= .slice 22 x (some y) none none)(hx:ρ x= .slice A n c)(hy:ρ y= .int .i64 (i:Int))(hi:i<=n):
  (execOp ρ o).run Tryz.prog w= .ok (.value (.slice (cutA A c i) (n - i) (c - i))) w:=by
 have hu:Tryz.prog.underlying 22=some (.slice (Tryz.prog.elem 22)):=by kernel_rfl
 have h2:(Instr.sliceAt 22 (.slice A n c) (some (.int .i64 (i:Int))) none none).run Tryz.prog w= .ok (.slice (cutA A c i) (n - i) (c - i)) w:=by
  rw[run_sliceAt_slice (h:=hu),run_slice_l (ht:=hu) (h0:=by omega) (h1:=by omega)]
  simp[go_sem,sliced,cutA]
 simp only[execOp,ho,hx,hy,Option.map_some,Option.map_none,Sem.run_bind,h2,Result.andThen,Sem.run_pure]
theorem Ints.cut{w:World}{B:Nat}{A:Option Addr}{c i:Nat}{zs:List Int}(h:Ints w B A zs)(hc:zs.length<=c):Ints w B (cutA A c i) (zs.drop i):=fun hn=>by
 rw[List.length_drop]at hn;obtain⟨b,off,e,hb,hcell⟩:=h (by omega)
 refine⟨b,off+i,?_,hb,fun k hk=> ?_⟩
 ·unfold cutA
  rw[if_neg (by omega),e]
  show some ((⟨b,off,none⟩:Addr).add (i * 1))=_
  rw[addr_add,Nat.mul_one]
 ·rw [List.length_drop] at hk
  rw[Nat.add_assoc,hcell (i+k) (by omega)]
  congr 2
  rw[List.getD_eq_getElem?_getD,List.getD_eq_getElem?_getD,List.getElem?_drop]
def TrS(w:World)(b gO:Nat)(v:Value)(t:List (List Int)):Prop:=
 ∃vs:List Value,w.ownsRow b 22 1 v t.length vs/\ ∀(k:Nat) (r:List Int),t[k]? =some r-> ∃A1 c1,vs[k]? =some (Value.slice A1 r.length c1)/\OwnI w b (Value.slice A1 r.length c1) r/\(Value.slice A1 r.length c1).ownBlock≠some gO
section
variable {w w': World} {b gO: Nat} {v: Value} {t: List (List Int)} {bs: List Nat}
theorem TrS.own(h:TrS w b gO v t):OwnTr w b v t:=by
 obtain⟨vs,h1,h2⟩:=h;exact⟨vs,h1,fun k r hr=>by
  obtain⟨A1,c1,e1,e2,_⟩:=h2 k r hr;exact⟨A1,c1,e1,e2⟩⟩
theorem TrS.below(h:TrS w b gO v t)(hb:Below w.heap.size w w'):TrS w' b gO v t:=by
 obtain⟨vs,h1,h2⟩:=h;exact⟨vs,own_below h1 hb,fun k r hr=>by
  obtain⟨A1,c1,e1,e2,e3⟩:=h2 k r hr;exact⟨A1,c1,e1,e2.below hb,e3⟩⟩
theorem TrS.kp(h:TrS w b gO v t)(hk:Kp bs w w')(hbs: ∀q∈bs,q=gO\/q<b){base m c:Nat}{O:List Int}(hO:OwnI w base (.slice (some ⟨gO,0,none⟩) m c) O):TrS w' b gO v t:=by
 obtain⟨vs,h1,h2⟩:=h;refine⟨vs,hk.own h1 (fun q hq hm=> ?_),fun k r hr=> ?_⟩
 ·rcases hbs q hm with rfl | hlt
  ·rcases hO.2 with ⟨e,_⟩ | ⟨g',cap,cur,e,hg',hgg,_⟩
   ·cases e
   ·injection e with e1 e2 e3
    injection e1 with e1;injection e1 with e1;exact rowN_types h1 (e1▸hgg) (by decide) hq
  ·have:=(row_lts h1 q hq).1
   omega
 ·obtain ⟨A1,c1,e1,e2,e3⟩:=h2 k r hr
  refine⟨A1,c1,e1,hk.own e2 (fun q hq hm=> ?_),e3⟩
  rcases hbs q hm with rfl|hlt
  ·exact e3 hq
  ·have:=(e2.blockLt q hq).1
   omega
theorem TrS.kpLt(h:TrS w b gO v t)(hk:Kp bs w w')(hbs: ∀q∈bs,q<b):TrS w' b gO v t:=by
 obtain⟨vs,h1,h2⟩:=h;refine⟨vs,hk.own h1 (fun q hq hm=> ?_),fun k r hr=> ?_⟩
 ·have:=(row_lts h1 q hq).1
  have:=hbs q hm;omega
 ·obtain ⟨A1,c1,e1,e2,e3⟩:=h2 k r hr
  refine⟨A1,c1,e1,hk.own e2 (fun q hq hm=> ?_),e3⟩
  have:=(e2.blockLt q hq).1;have:=hbs q hm;omega
theorem TrS.newO(h:TrS w b gO v t){g2:Nat}(hg:w.heap.size<=g2):TrS w b g2 v t:=by
 obtain⟨vs,h1,h2⟩:=h;exact⟨vs,h1,fun k r hr=>by
  obtain⟨A1,c1,e1,e2,_⟩:=h2 k r hr;exact⟨A1,c1,e1,e2,fun q=>by have:=(e2.blockLt g2 q).2;omega⟩⟩
end
section
variable {w w': World} {base gw m: Nat} {g: Gng} {L: List Int} {a: GAd} {vW vE: Value}
theorem IsWk.rx{u:TypeId}{b:Nat}{row:Option Nat}(h:IsWk w base gw m g L a vW vE)(hr:RXs u b row w w')(h1:3≠u)(h2:81≠u)(h3:65≠u)(h4:73≠u):IsWk w' base gw m g L a vW vE:=
 ⟨hr.rowV h.row h4,h.hw,⟨h.gng.ol,hr.own h.gng.on h1,hr.own h.gng.left h1,hr.own h.gng.dqs h2,hr.own h.gng.tks h3,hr.own h.gng.frm h1,fun j hj=>hr.own (h.gng.ring j hj) h1,h.gng.oL,h.gng.oF,h.gng.oR,h.gng.fL,h.gng.fR⟩⟩
end
theorem drop_min(l:List Int)(s:Nat):l.drop (min s l.length)=l.drop s:=by
 rcases Nat.le_total s l.length with h|h
 ·rw[Nat.min_eq_left h]
 ·rw[Nat.min_eq_right h,List.drop_length,List.drop_eq_nil_of_le h]
theorem picksG_succ{n m:Nat}{E:List (Int×Int)}{need picks:List Int}(k:Nat):picksG n m E need picks (k+1)=(picksG n m E need picks k).drop (lenC m (gangS n m E need (picksG n m E need picks) k).1 (picksG n m E need picks k)):=by
 unfold picksG;rw[stepsG_succ,List.drop_drop];rfl
structure SrSt(wf:World)(n m:Nat)(E:List (Int×Int))(need picks:List Int)(vW vE:Value)(gw bT gD gT gF k:Nat)(a:GAd)(tA:Option Addr)(tc:Nat)(w:World):Prop where
 bel:Below wf.heap.size wf w
 wk:IsWk w wf.heap.size gw m (gangS n m E need (picksG n m E need picks) k).1 (gangS n m E need (picksG n m E need picks) k).2 a vW vE
 tr:TrS w bT a.gO (.slice tA k tc) (rowsF (rowG n m E need (picksG n m E need picks)) k)
 ids:a.gD=gD/\a.gT=gT/\a.gF=gF
 lo:gw<bT/\gD<bT/\gT<bT/\gF<bT
 hb:bT<=w.heap.size
 hb0:wf.heap.size<=bT
def PhiR13(S s:Nat)(A:Option Addr)(n c:Nat):Nat->Value->World->Prop
 |0,v,w=>v= .int .i64 (S:Int)
 |1,v,w=>v= .int .i64 (s:Int)
 |2,v,w=>v= .int .i64 ((S+s:Nat):Int)
 |3,v,w=>v= .slice A n c
 |4,v,w=>v= .int .i64 (s:Int)
 |5,v,w=>v= .slice A n c
 |6,v,w=>v= .int .i64 (n:Int)
 |7,v,w=>v= .int .i64 ((min s n:Nat):Int)
 |8,v,w=>v= .slice (cutA A c (min s n)) (n - min s n) (c - min s n)
 |9,v,w=>v= .int .i64 ((S+s:Nat):Int)
 |10,v,w=>v= .slice (cutA A c (min s n)) (n - min s n) (c - min s n)
 |_,_,_=>True
theorem phiR13_below{S s:Nat}{A:Option Addr}{n c:Nat}: ∀kq v w w',PhiR13 S s A n c kq v w->Below w.heap.size w w'->PhiR13 S s A n c kq v w':=by
 intro kq v w w' h hb
 match kq,h with
 |0,h=>exact h
 |1,h=>exact h
 |2,h=>exact h
 |3,h=>exact h
 |4,h=>exact h
 |5,h=>exact h
 |6,h=>exact h
 |7,h=>exact h
 |8,h=>exact h
 |9,h=>exact h
 |10,h=>exact h
 |kq+11,h=>exact trivial
section
variable {AW FE: Option Addr} {nW cW mE dE: Nat} {W: List Int} {E: List (Int × Int)} {N: Option Addr} {nn nc: Nat} {need: List Int} {AP: Option Addr} {nP cP: Nat} {picks: List Int}
def lenVs:Value->Nat
 | .slice _ n _=>n
 |_=>0
theorem srun_yes{m:Nat}(wf:World)(hT:DTab wf)(hg:IsG wf AW nW cW FE mE dE W E)(hn:need.length=nn)(hl:nn<=400)(hI:Ints wf wf.heap.size N need)(hN:N=none->nn=0/\nc=0)
    (hp:picks.length=nP) (hp2:nP<=1000) (hP:Ints wf wf.heap.size AP picks) (hPc:nP<=cP) (he:newE W E need m=0) (hs:need.sum<=300):
    Calls Tryz.prog 9 #[.agg #[.slice AW nW cW, .slice FE mE dE], .slice N nn nc, .int .i64 m, .slice AP nP cP] wf fun e w'=>
      ∃v,e= .returned (.tuple #[v, .int .i64 ((stepsG W.length m E need picks (lenG W.length m E need picks)).1:Nat), .int .i64 0])/\GotT (traceG W.length m E need picks) v w'/\Below wf.heap.size wf w':=by
  obtain⟨hM,hFo⟩:=newE_zero.mp he;have hm1:1<=m:=by have:=hFo.2.2.1;omega
  have hm8:m<=8:=by have:=hFo.2.2.2;omega
  have hW64:W.length<=64:=hM.nodes;obtain⟨nW2,hnW2⟩: ∃x,x=W.length:=⟨_,rfl⟩;have hOKS: ∀k,GOk nW2 m E (gangS nW2 m E need (picksG nW2 m E need picks) k).2 (gangS nW2 m E need (picksG nW2 m E need picks) k).1/\ ∀c,c<m->((gangS nW2 m E need (picksG nW2 m E need picks) k).1.tk c).at_=0:=by
    rw[hnW2];exact gangS_ok hM.fits hFo.2.1 hm1 hm8 hFo.1 hW64 _
  have HOKS:=Lib.hid hOKS;have hSEQ:=gang_seq (n:=nW2) (E:=E) (need:=need) (m:=m) (by rw[hnW2];exact hM.fits) hFo.2.1 hm1 hm8 (by rw[hnW2];exact hFo.1) (by rw[hnW2];exact hW64) (picksG nW2 m E need picks)
  have hSPEC:=lenS_spec hSEQ (by rw[hnW2];exact hM.fits) hM.acyc hFo.2.1 hm1 hm8 (by rw[hnW2];exact hFo.1)
  have HLEN:Hid (lenG nW2 m E need picks=lenS (fun k=>(gangS nW2 m E need (picksG nW2 m E need picks) k).2) need):=Lib.hid rfl
  have HSPEC:Hid ((gangS nW2 m E need (picksG nW2 m E need picks) (lenG nW2 m E need picks)).2.sum<=0/\(∀j,j<lenG nW2 m E need picks->0<(gangS nW2 m E need (picksG nW2 m E need picks) j).2.sum)/\lenG nW2 m E need picks<=300):=Lib.hid ⟨hSPEC.1,hSPEC.2.1,by have:=hSPEC.2.2;have h2:(lenG nW2 m E need picks:Int)<=need.sum:=this;omega⟩
  have HMN:=Lib.hid (need_may hM hFo);have HNW2:=Lib.hid hnW2;obtain⟨vW,hvW⟩: ∃v,v=Value.slice AW nW cW:=⟨_,rfl⟩;obtain⟨vE,hvE⟩: ∃v,v=Value.slice FE mE dE:=⟨_,rfl⟩;have HVW:=Lib.hid hvW;have HVE:=Lib.hid hvE;have HM:=Lib.hid hM;have HM1:=Lib.hid hm1;have HN:=Lib.hid hn;have HNN:=Lib.hid hN;have HI:=Lib.hid hI;have HP:=Lib.hid hP;have HPL:=Lib.hid hp;have HPC:=Lib.hid hPc;have HP2:=Lib.hid hp2;have HG:=Lib.hid hg;have HT:=Lib.hid hT;obtain⟨w0,hw0⟩: ∃w0,w0=wf.alloc (.cells #[.slice AW nW cW, .slice FE mE dE] 25):=⟨_,rfl⟩;have HB0:Hid (Below wf.heap.size wf w0):=Lib.hid (by rw[hw0];exact below_alloc _)
  have hD0:RowV wf.heap.size 25 [.slice AW nW cW, .slice FE mE dE] w0:=by rw[hw0];exact RowV.new wf _ _
  have dd0:w0.cell? ⟨wf.heap.size,0,none⟩=some (.slice AW nW cW):=hD0.cell rfl
  have dd1:w0.cell? ⟨wf.heap.size,1,none⟩=some (.slice FE mE dE):=hD0.cell rfl
  have CB:=Lib.hid (begin_yes (nc:=nc) w0 (hT.via HB0.out) (hg.below HB0.out) hn hl ((hI.below HB0.out).more HB0.out.size) hN he);rw[<-hnW2]at CB;have HW:=Lib.hid hw0;obtain⟨SU,hSU⟩: ∃z,z=need.sum:=⟨_,rfl⟩;have HSU:=Lib.hid hSU;rw[<-hSU]at hs;rw[<-hnW2];clear hT hg hI hN hn he hw0 hvW hvE hM hFo hD0 hp hP hPc hp2 hOKS hSEQ hSPEC hSU hnW2 hW64 hm1;go_enter Tryz.func9,Tryz.ntmps9;go_upto_region 1 with fail;rw[<-HW.out];go_upto_region 4 with(go_at_call 29;refine CB.out.mono ?_;rintro e w1 ⟨gw,a,rfl,hwk,hb⟩;(have HWK1:=Lib.hid hwk);(have HB1:=Lib.hid hb);clear hwk hb CB dd0 dd1)
  have HBF:Hid (Below wf.heap.size wf w1):=Lib.hid (HB0.out.trans (HB1.out.mono HB0.out.size));have CT:Hid (Calls Tryz.prog 30 #[.agg #[.slice N nn nc, .slice none 0 0]] w1 fun e w'=>e= .returned (.int .i64 SU)/\Below w1.heap.size w1 w'):=Lib.hid (by
    have hI2:=(HI.out.below HBF.out).more HBF.out.size;have hgN:IsG w1 N nn nc none 0 0 need []:=⟨HN.out,rfl,hl,by decide,hI2,fun h=>absurd h (by simp),HNN.out,fun _=>⟨rfl,rfl⟩,(HG.out.below HBF.out).tab⟩
    have hmay:May need []:=⟨HMN.out.nodes,by simp,HMN.out.work,fun e he=>by simp at he,fun e he=>by simp at he,List.nodup_nil,fun a h=>by
      obtain⟨c,h1,_⟩:=h.last;exact absurd h1 (by unfold ed;simp)⟩
    have:=total_done w1 hgN;unfold totalV at this;rw[if_pos hmay,<-HSU.out]at this;exact this)
  have hgt:decide ((4096:Int)<SU)=false:=decide_eq_false (by omega)
  go_upto_region 9 with(go_at_call 30;refine CT.out.mono ?_;rintro e w2 ⟨rfl,hb⟩;(have HB2:=Lib.hid hb);clear hb CT)
  have H2:Hid (SrSt wf nW2 m E need picks vW vE gw w2.heap.size a.gD a.gT a.gF 0 a none 0 w2):=Lib.hid (by
    have hwk:=HWK1.out.below HB2.out;have hl:=hwk.gng.lts;have hr:=hwk.row.lt;have hb2:=HBF.out.trans (HB2.out.mono HBF.out.size);rw[<-HVW.out,<-HVE.out]at hwk;refine⟨hb2,⟨hwk.row,Nat.le_trans HB0.out.size hwk.hw,hwk.gng.down HB0.out.size⟩,⟨[],⟨rfl, .inl ⟨rfl,rfl⟩⟩,fun k r hr=>by simp[rowsF]at hr⟩,⟨rfl,rfl,rfl⟩,⟨hr,hl.2.1.2,hl.2.2.1.2,hl.2.2.2.2⟩,Nat.le_refl _,hb2.size⟩)
  obtain⟨bT,hbT⟩: ∃x,x=w2.heap.size:=⟨_,rfl⟩;obtain⟨gD,hgD⟩: ∃x,x=a.gD:=⟨_,rfl⟩;obtain⟨gT,hgT⟩: ∃x,x=a.gT:=⟨_,rfl⟩;obtain⟨gF,hgF⟩: ∃x,x=a.gF:=⟨_,rfl⟩;rw[<-hbT,<-hgD,<-hgT,<-hgF]at H2;have HP2w:Hid (Ints w2 wf.heap.size AP picks):=Lib.hid (HP.out.below H2.out.bel);clear hbT hgD hgT hgF HWK1 HB1 HBF HB2;go_loopw [3,13,14] (fun pv tv sv wr=> ∃(k S:Nat) (A:Option Addr) (n c:Nat) (a:GAd) (tA:Option Addr) (tc:Nat),pv= .slice A n c/\tv= .slice tA k tc/\sv= .int .i64 (S:Int)/\S<=1000000 * k/\k<=300/\n<=c/\n<=1000/\
      Hid (S=(stepsG nW2 m E need picks k).1/\(picksG nW2 m E need picks k).length=n/\Ints wr wf.heap.size A (picksG nW2 m E need picks k)/\ ∀j,j<k->0<(gangS nW2 m E need (picksG nW2 m E need picks) j).2.sum)/\
      Hid (SrSt wf nW2 m E need picks vW vE gw bT gD gT gF k a tA tc wr)) (fun _ tv _ _=>301 - lenVs tv)
  case atStart=>exact⟨0,0,AP,nP,cP,a,none,0,rfl,rfl,rfl,by omega,by omega,HPC.out,HP2.out,Lib.hid ⟨rfl,HPL.out,HP2w.out,fun j hj=>absurd hj (by omega)⟩,H2⟩
  case round=>
    clear H2 HP2w;obtain⟨k,S,A,n,c,a,tA,tc,rfl,rfl,rfl,hS6,hk3,hnc,hn1,HC,HS⟩:=hrel;obtain⟨AL,cL,hvL,hIL⟩:=HS.out.wk.gng.left.slice;obtain⟨Lk,hLk⟩: ∃l,l=(gangS nW2 m E need (picksG nW2 m E need picks) k).2:=⟨_,rfl⟩;rw[<-hLk]at hvL hIL;have hok:=(HOKS.out k).1;have hLl:Lk.length=nW2:=by rw[hLk];exact hok.crew.ln
    have hL0: ∀z∈Lk,0<=z:=fun z hz=>by rw[hLk]at hz;exact(hok.crew.left z hz).1
    have CH:=Lib.hid (someLeftS_any (nc:=cL) wr rfl (by have:=hok.n64;omega) hIL hL0)
    have x1:wr.cell? ⟨gw,1,none⟩=some (.slice AL Lk.length cL):=by rw[<-hvL];exact HS.out.wk.row.cell rfl
    have HLK:=Lib.hid hLk;clear hok hLl hL0 hIL hvL hLk
    by_cases hp:0<Lk.sum
    · rw[decide_eq_true hp]at CH;have hk29:k<=299:=by
        rcases Nat.lt_or_ge k (lenG nW2 m E need picks)with h|h
        · have:=HSPEC.out.2.2;omega
        · exfalso
          rcases Nat.lt_or_ge (lenG nW2 m E need picks) k with h2|h2
          · have:=HC.out.2.2.2 _ h2;have:=HSPEC.out.1;omega
          · have e:k=lenG nW2 m E need picks:=by omega
            have:=HSPEC.out.1;rw[<-e,<-HLK.out]at this;omega
      have HPOS:Hid (0<(gangS nW2 m E need (picksG nW2 m E need picks) k).2.sum):=Lib.hid (by rw[<-HLK.out];exact hp)
      have hgr:IsGrS wr wf.heap.size AW nW cW FE mE dE W E:=(IsGrS.of HG.out).below HS.out.bel;have CC:=Lib.hid (calm_any (cP:=c) wr (by rw[<-HNW2.out];exact(HOKS.out k).1) (HOKS.out k).2 HM.out hgr.tab hgr HC.out.2.1 (by omega) HC.out.2.2.1 (by rw[<-HVW.out,<-HVE.out];exact HS.out.wk))
      obtain⟨hw1,_,hl1,I1⟩:=calm_spec (picks:=picksG nW2 m E need picks k) (HOKS.out k).1 (HOKS.out k).2;obtain⟨s,hsd⟩: ∃s,s=lenC m (gangS nW2 m E need (picksG nW2 m E need picks) k).1 (picksG nW2 m E need picks k):=⟨_,rfl⟩;rw[<-hsd]at hl1;rw[<-hsd]at CC;have hs6:s<=1000000:=by
        have h1:=calm_most HM1.out;have h8:8 * m * m * (m+1)<=8 * 8 * 8 * 9:=Nat.mul_le_mul (Nat.mul_le_mul (Nat.mul_le_mul_left 8 hm8) hm8) (by omega)
        omega
      have HSD:=Lib.hid hsd;have HOK1:Hid (GOk nW2 m E Lk (calmG m (gangS nW2 m E need (picksG nW2 m E need picks) k).1 (picksG nW2 m E need picks k))/\ ∀c,c<m->((calmG m (gangS nW2 m E need (picksG nW2 m E need picks) k).1 (picksG nW2 m E need picks k)).tk c).at_=0):=Lib.hid (by
        rw[HLK.out];exact⟨I1.ok,(quiet_spec I1.ok hw1).1⟩)
      clear hw1 hl1 I1 hsd hgr hp;go_upto_region 13 with(first
        |(go_at_call 32;refine CH.out.mono ?_;rintro e wx ⟨rfl,hww⟩;replace hww:=hww.symm;subst hww;clear CH x1)
        |(go_at_call 33;refine CC.out.mono ?_;rintro e w1 ⟨rfl,Rv',hwk,hkp⟩;(have HWK1:=Lib.hid hwk);(have HKP1:=Lib.hid hkp);clear hwk hkp CC))
      have HSS:Hid (S+s<=1000000 * (k+1)):=Lib.hid (by omega)
      have HK29:=Lib.hid hk29;have HNC:=Lib.hid hnc;have HN1:=Lib.hid hn1;refine wp_region_late [51,52,53,54,55,56,57,58,59,14,3] [] [] (by kernel_rfl) (by kernel_rfl) (by kernel_rfl) (by intro d hd;simp at hd⊢;omega) (fun z=>Below w1.heap.size w1 z) (PhiR13 S s A n c)
        (fun z z' h hb=>h.trans (hb.mono h.size)) phiR13_below ((Below.refl _ _).drew) (fun p hp=>by cases hp) (fun kq hkq=>by simp at hkq) ?hstep ?hend
      case hstep=>
        intro kq o ho hw a w hI hA hd hl K hK;obtain⟨ρ,hρ⟩: ∃ρ,a.eval=ρ:=⟨_,rfl⟩;rw[hρ]at hA hd hl
        match kq,ho with
        | 0, ho =>
          have hoo:=Option.some.inj ho;subst hoo;have h0:ρ (.tmp 14)= .int .i64 (S:Int):=hl 9 _ rfl (by kernel_rfl)
          exact fx_val hK hρ (.int .i64 (S:Int)) (by simp[execOp,h0,go_sem]) rfl
        | 1, ho =>
          have hoo:=Option.some.inj ho;subst hoo;have h0:=hA.tmp 16 (by decide)
          exact fx_val hK hρ (.int .i64 (s:Int)) (by simp[execOp,h0,go_sem]) rfl
        | 2, ho =>
          have hoo:=Option.some.inj ho;subst hoo;have f0:(ρ (.tmp 51))= .int .i64 (S:Int):=hd ⟨0, .data⟩ (by simp) (by rfl)
          have f1:(ρ (.tmp 52))= .int .i64 (s:Int):=hd ⟨1, .data⟩ (by simp) (by rfl)
          have hwr:IntKind.i64.wrap ((S:Int)+(s:Int))=(S:Int)+(s:Int):=by rw[IntKind.wrap_i64];have:=HSS.out;omega
          exact fx_val hK hρ (.int .i64 ((S+s:Nat):Int)) (by simp[execOp,f0,f1,hwr,go_sem]) rfl
        | 3, ho =>
          have hoo:=Option.some.inj ho;subst hoo;have h0:ρ (.tmp 3)= .slice A n c:=hl 10 _ rfl (by kernel_rfl)
          exact fx_val hK hρ (.slice A n c) (by simp[execOp,h0,go_sem]) rfl
        | 4, ho =>
          have hoo:=Option.some.inj ho;subst hoo;have h0:=hA.tmp 16 (by decide)
          exact fx_val hK hρ (.int .i64 (s:Int)) (by simp[execOp,h0,go_sem]) rfl
        | 5, ho =>
          have hoo:=Option.some.inj ho;subst hoo;have h0:ρ (.tmp 3)= .slice A n c:=hl 10 _ rfl (by kernel_rfl)
          exact fx_val hK hρ (.slice A n c) (by simp[execOp,h0,go_sem]) rfl
        | 6, ho =>
          have hoo:=Option.some.inj ho;subst hoo;have f5:(ρ (.tmp 56))= .slice A n c:=hd ⟨5, .data⟩ (by simp) (by rfl)
          exact fx_val hK hρ (.int .i64 (n:Int)) (by simp[execOp,f5,go_sem]) rfl
        | 7, ho =>
          have hoo:=Option.some.inj ho;subst hoo;have f4:(ρ (.tmp 55))= .int .i64 (s:Int):=hd ⟨4, .data⟩ (by simp) (by rfl)
          have f6:(ρ (.tmp 57))= .int .i64 (n:Int):=hd ⟨6, .data⟩ (by simp) (by rfl)
          have hmn:((min s n:Nat):Int)=min (s:Int) (n:Int):=by omega
          exact fx_val hK hρ (.int .i64 ((min s n:Nat):Int)) (by rw[hmn];simp[execOp,f4,f6,go_sem]) rfl
        | 8, ho =>
          have hoo:=Option.some.inj ho;subst hoo;have f3:(ρ (.tmp 54))= .slice A n c:=hd ⟨3, .data⟩ (by simp) (by rfl)
          have f7:(ρ (.tmp 58))= .int .i64 ((min s n:Nat):Int):=hd ⟨7, .data⟩ (by simp) (by rfl)
          exact fx_val hK hρ _ (cut_eq rfl f3 f7 (Nat.min_le_right _ _)) rfl
        | 9, ho =>
          have hoo:=Option.some.inj ho;subst hoo;have f2:(ρ (.tmp 53))= .int .i64 ((S+s:Nat):Int):=hd ⟨2, .data⟩ (by simp) (by rfl)
          exact fx_val hK hρ (.int .i64 ((S+s:Nat):Int)) (by simp[execOp,f2,go_sem]) rfl
        | 10, ho =>
          have hoo:=Option.some.inj ho;subst hoo;have f8:(ρ (.tmp 59))= .slice (cutA A c (min s n)) (n - min s n) (c - min s n):=hd ⟨8, .data⟩ (by simp) (by rfl)
          exact fx_val hK hρ _ (by simp[execOp,f8,go_sem]) rfl
        |kq+11,ho=>simp at ho
      case hend=>
        intro vals w2 hIv hF;have f9:vals 14= .int .i64 ((S+s:Nat):Int):=hF 9 (by decide)
        have f10:vals 3= .slice (cutA A c (min s n)) (n - min s n) (c - min s n):=hF 10 (by decide)
        have HB2:=Lib.hid hIv;clear hF hIv;simp only[fillA,fillL,List.contains_cons,List.contains_nil,Nat.reduceBEq,Bool.or_false,Bool.false_or,Bool.or_true,Bool.true_or,cond_true,cond_false,Nat.zero_add,Nat.reduceAdd];rw[f9,f10];clear f9 f10;obtain⟨g1,hg1⟩: ∃x,x=calmG m (gangS nW2 m E need (picksG nW2 m E need picks) k).1 (picksG nW2 m E need picks k):=⟨_,rfl⟩;rw[<-hg1]at HWK1 HOK1;rw[<-HVW.out,<-HVE.out,<-HLK.out]at HWK1;have HG1:=Lib.hid hg1;have hids:=HS.out.ids;have hlo:=HS.out.lo;have HTR1:Hid (TrS w1 bT a.gO (.slice tA k tc) (rowsF (rowG nW2 m E need (picksG nW2 m E need picks)) k)):=Lib.hid (HS.out.tr.kp HKP1.out (fun q hq=>by
          simp only[List.mem_cons,List.not_mem_nil,or_false]at hq;obtain⟨i1,i2,i3⟩:=hids;omega) HS.out.wk.gng.on)
        have hsz1:wr.heap.size<=w1.heap.size:=HKP1.out.size;have HB1:Hid (Below wf.heap.size wf w1):=Lib.hid (HS.out.bel.trans (HKP1.out.below (by
          have hl:=HS.out.wk.gng.lts;simp only[List.mem_cons,List.not_mem_nil,or_false];rintro q (rfl|rfl|rfl|rfl)
          · exact hl.1.1
          · exact hl.2.1.1
          · exact hl.2.2.2.1
          · exact hl.2.2.1.1) HS.out.bel.size))
        have HWK2:=Lib.hid (HWK1.out.below HB2.out);have HTR2:=Lib.hid (HTR1.out.below HB2.out);have c0:w2.cell? ⟨gw,0,none⟩=some (.slice (some ⟨a.gO,0,none⟩) m a.cO):=HWK2.out.row.cell rfl
        have hO1:g1.O.length=m:=HOK1.out.1.ol;have CCL:=Lib.hid (clone_i w2 (some ⟨a.gO,0,none⟩) m a.cO g1.O hO1 (by omega) HWK2.out.gng.on.ints (fun q=>by cases q))
        have HO1:=Lib.hid hO1;have HIDS:=Lib.hid hids;have HLO:=Lib.hid hlo;have hbT2:bT<=w2.heap.size:=Nat.le_trans HS.out.hb (Nat.le_trans hsz1 HB2.out.size);have HBT2:=Lib.hid hbT2;clear HWK1 HTR1 hids hlo hsz1 hg1 hO1;go_wp2_with fail;refine CCL.out.mono ?_
        rintro e w3 ⟨A6,c6,he6,ho6,hb6⟩;rw[HO1.out]at he6 ho6;subst he6;have HO6:=Lib.hid ho6;have HB6:=Lib.hid hb6;obtain⟨vs,hv1,hv2⟩:=HTR2.out.below hb6;rw[rowsF_len]at hv1;have HV1:=Lib.hid hv1;have HV2:=Lib.hid hv2;have HWK3:=Lib.hid (HWK2.out.below hb6);have hsz3:bT<=w3.heap.size:=Nat.le_trans hbT2 hb6.size;clear ho6 hb6 CCL c0 hv1 hv2 HTR2
        go_wp2_with(at_builtin;refine wpList_pushXs rfl _ _ 22 30 1 24 (.slice none 0 0) Tryz.underlying30 rows_cell_infoS rfl (by omega) (by omega) rfl rfl w3 bT k _ vs [.slice A6 m c6] HV1.out rfl (by simp[Value.oneCell']) (by omega) hsz3 (by first|rfl|simp[Act.eval]) (by first|rfl|simp[Act.eval]) ?_;intro T7 tc7 w7 ho7 hr7 ha7;(have HO7:=Lib.hid ho7);(have HR7:=Lib.hid hr7);clear ho7 hr7 ha7)
        have HWK7:=Lib.hid (HWK3.out.rx HR7.out (by decide) (by decide) (by decide) (by decide))
        have hgOlt:a.gO<w2.heap.size:=HWK2.out.gng.lts.1.2;have HTR7:Hid (TrS w7 bT a.gO (.slice T7 (k+1) tc7) (rowsF (rowG nW2 m E need (picksG nW2 m E need picks)) (k+1))):=Lib.hid (by
          refine⟨vs++ [.slice A6 m c6],?_,fun j r hj=> ?_⟩
          · rw[rowsF_len];exact HO7.out
          · have hvl:vs.length=k:=by have:=HV1.out.1;omega
            rw[rowsF_succ]at hj;rcases Nat.lt_or_ge j k with h1|h1
            · rw[List.getElem?_append_left (by rw[rowsF_len];exact h1)]at hj
              obtain⟨A8,c8,e1,e2,e3⟩:=HV2.out j r hj;exact⟨A8,c8,by rw[List.getElem?_append_left (by omega)];exact e1,HR7.out.own e2 (by decide),e3⟩
            · rw[List.getElem?_append_right (by rw[rowsF_len];exact h1),rowsF_len]at hj
              obtain rfl:j=k:=by
                have:=(List.getElem?_eq_some_iff.1 hj).1
                simp at this
                omega
              rw[Nat.sub_self]at hj;have hr:rowG nW2 m E need (picksG nW2 m E need picks) j=r:=Option.some.inj hj;have hr2:g1.O=r:=by rw[<-hr,HG1.out];rfl
              rw[<-hr2,HO1.out];refine⟨A6,c6,by rw[<-hvl];simp,HR7.out.own (HO6.out.down hbT2) (by decide),fun q=> ?_⟩
              have:=(HO6.out.blockLt a.gO q).1;omega)
        have hb27:Below bT w2 w7:=(HB6.out.mono hbT2).trans (HR7.out.below hsz3);have HBF7:Hid (Below wf.heap.size wf w7):=Lib.hid (HB1.out.trans ((HB2.out.mono HB1.out.size).trans (hb27.mono HS.out.hb0)));have HB17:Hid (Below wf.heap.size w1 w7):=Lib.hid ((HB2.out.mono HB1.out.size).trans (hb27.mono HS.out.hb0));have HSZ7:Hid (bT<=w7.heap.size):=Lib.hid (Nat.le_trans hbT2 hb27.size);clear HV1 HV2 HO7 HWK3 HWK2 HO6 hb27 hgOlt;have hgr:IsGrS w7 wf.heap.size AW nW cW FE mE dE W E:=(IsGrS.of HG.out).below HBF7.out;refine(tick_any w7 (by rw[<-HNW2.out];exact HOK1.out.1) HOK1.out.2 HM.out hgr (by rw[<-HVW.out,<-HVE.out];exact HWK7.out)).mono ?_
        rintro e w8 ⟨A9,c9,a',rfl,_,hwk8,hid8,hkp8⟩;rw[<-HNW2.out,<-HVW.out,<-HVE.out]at hwk8;have HWK8:=Lib.hid hwk8;have HID8:=Lib.hid hid8;have HKP8:=Lib.hid hkp8;clear hgr hwk8 hid8 hkp8 HWK7;go_wp2;go_roundw
        case rel=>
          have hids:=HIDS.out;have hlo:=HLO.out;have hnc2:=HNC.out;have hn2:=HN1.out;have h78:Below wf.heap.size w7 w8:=HKP8.out.below (by
            have h1:=HS.out.wk.hw;have h2:=HS.out.wk.gng.lts.2.1.1;simp only[List.mem_cons,List.not_mem_nil,or_false];rintro q (rfl|rfl)
            · exact h1
            · exact h2) HBF7.out.size
          have hr1:Below wf.heap.size wr w1:=HKP1.out.below (by
            have hl:=HS.out.wk.gng.lts;simp only[List.mem_cons,List.not_mem_nil,or_false];rintro q (rfl|rfl|rfl|rfl)
            · exact hl.1.1
            · exact hl.2.1.1
            · exact hl.2.2.2.1
            · exact hl.2.2.1.1) HS.out.bel.size
          have hr8:Below wf.heap.size wr w8:=hr1.trans (HB17.out.trans h78);have hnP:picksG nW2 m E need picks (k+1)=(picksG nW2 m E need picks k).drop (min s n):=by
            rw[picksG_succ,<-HSD.out,<-HC.out.2.1,drop_min]
          have htr8:TrS w8 bT a'.gO (.slice T7 (k+1) tc7) (rowsF (rowG nW2 m E need (picksG nW2 m E need picks)) (k+1)):=
            (HTR7.out.newO HID8.out.2.2.2).kpLt HKP8.out (fun q hq=>by
              simp only[List.mem_cons,List.not_mem_nil,or_false]at hq;rcases hq with rfl|rfl
              · exact hlo.1
              · have:=hids.1;show a.gD<bT
                omega)
          refine⟨k+1,S+s,cutA A c (min s n),n - min s n,c - min s n,a',T7,tc7,by go_num,rfl,by go_num,HSS.out,by have:=HK29.out;omega,by omega,by omega,Lib.hid ⟨?_,?_,?_,fun j hj=> ?_⟩,Lib.hid ⟨HBF7.out.trans h78,?_,htr8,⟨HID8.out.1.trans hids.1,HID8.out.2.1.trans hids.2.1,HID8.out.2.2.1.trans hids.2.2⟩,hlo,?_,HS.out.hb0⟩⟩
          · rw[stepsG_succ,<-HC.out.1,<-HSD.out]
          · rw[hnP,List.length_drop,HC.out.2.1]
          · rw[hnP];exact(HC.out.2.2.1.cut (by rw[HC.out.2.1];exact hnc2)).below hr8
          · rcases Nat.lt_or_ge j k with h|h
            · exact HC.out.2.2.2 j h
            · obtain rfl:j=k:=by omega
              exact HPOS.out
          · have h1:=HWK8.out;rw[HG1.out,HLK.out]at h1;exact h1
          · exact Nat.le_trans HSZ7.out HKP8.out.size
        case measure=>simp[lenVs];have:=HK29.out;omega
    · rw[decide_eq_false hp]at CH;have hkl:k=lenG nW2 m E need picks:=by
        rcases Nat.lt_trichotomy k (lenG nW2 m E need picks)with h|h|h
        · have:=HSPEC.out.2.1 k h;rw[<-HLK.out]at this;omega
        · exact h
        · have:=HC.out.2.2.2 _ h;have:=HSPEC.out.1;omega
      have HKL:=Lib.hid hkl;obtain⟨A5,c5,e5,h51,h52,h53⟩:=HS.out.tr.own.open;rw[rowsF_len]at e5 h52;obtain⟨h54,h56⟩:tA=A5/\tc=c5:=by
        injection e5 with e1 e2 e3;exact⟨e1,e3⟩
      subst h54 h56;have HX:Hid (Trc wr wr.heap.size tA (traceG nW2 m E need picks)/\(tA=none->(traceG nW2 m E need picks).length=0/\tc=0)/\(traceG nW2 m E need picks).length=k):=Lib.hid (by
        have e:traceG nW2 m E need picks=rowsF (rowG nW2 m E need (picksG nW2 m E need picks)) k:=by rw[hkl];rfl
        rw[e,rowsF_len];exact⟨h51,h52,rfl⟩)
      clear hkl e5 h51 h52 h53 hp
      go_wp2_with(go_at_call 32;refine CH.out.mono ?_;rintro e wx ⟨rfl,hww⟩;replace hww:=hww.symm;subst hww;clear CH x1)
      refine bodyPost_ret (v:= .tuple #[.slice tA k tc, .int .i64 (S:Int), .int .i64 0]) (by simp[results,Tryz.results9,go_sem]) rfl ⟨_,?_,⟨tA,tc,by rw[HX.out.2.2],HX.out.1,HX.out.2.1⟩,HS.out.bel⟩
      rw[<-HKL.out,<-HC.out.1]
end
section
variable {AW FE: Option Addr} {nW cW mE dE: Nat} {W: List Int} {E: List (Int × Int)} {N: Option Addr} {nn nc: Nat} {need: List Int}
end
section
variable {base m: Nat} {g: Gng} {L: List Int} {ad: GAd}
theorem gstep_bad{c:Nat}{E:List (Int×Int)}{W:List Int}{AW FE:Option Addr}{nW cW mE dE:Nat}(w:World)(hok:GOk W.length m E L g)(hc:m<=c)(hc9:c<=1000)(h:GngR w base m g L ad)(hT:DTab w)(hg:IsG w AW nW cW FE mE dE W E)(hM:May W E):
  Calls Tryz.prog 24 #[.agg #[.slice AW nW cW,.slice FE mE dE],.agg #[.slice (some ⟨ad.gO,0,none⟩) m ad.cO,ad.vL,.slice (some ⟨ad.gD,0,none⟩) m ad.cD,.slice (some ⟨ad.gT,0,none⟩) m ad.cT,.slice (some ⟨ad.gF,0,none⟩) m ad.cF],.int .i64 c] w fun e w'=>
   e= .returned (.tuple #[.agg #[.slice none 0 0,.slice none 0 0,.slice none 0 0,.slice none 0 0,.slice none 0 0],.int .i64 131])/\Below w.heap.size w w':=by
 have hm8:m<=8:=by rw[<-hok.ol];exact hok.crew.hi
 have hm1:=hok.m1;have hll:L.length<=1000:=by have:=hok.crew.ln;have:=hok.n64;omega
 have hrl: ∀j,j<m->(g.R j).length<=1000:=fun j hj=>by rw[hok.rl j hj];decide
 obtain⟨w1,hw1⟩: ∃w1,w1=((w.alloc (.cells #[.slice AW nW cW,.slice FE mE dE] 25)).alloc (.cells #[.slice (some ⟨ad.gO,0,none⟩) m ad.cO,ad.vL,.slice (some ⟨ad.gD,0,none⟩) m ad.cD,.slice (some ⟨ad.gT,0,none⟩) m ad.cT,.slice (some ⟨ad.gF,0,none⟩) m ad.cF] 41)).alloc (.cells #[.slice none 0 0,.slice none 0 0,.slice none 0 0,.slice none 0 0,.slice none 0 0] 41):=⟨_,rfl⟩;have hb1:Below w.heap.size w w1:=by rw[hw1];exact(((Below.refl _ _).alloc (Nat.le_refl _) _).alloc (by simp) _).alloc (by simp;omega) _
 have HB1:=Lib.hid hb1;have HD1:Hid (RowV w.heap.size 25 [.slice AW nW cW,.slice FE mE dE] w1):=Lib.hid (by rw[hw1];exact((RowV.new w _ [.slice AW nW cW,.slice FE mE dE]).alloc _).alloc _)
 have HR1:Hid (RowV (w.heap.size+1) 41 (gangC m ad) w1):=Lib.hid (by
  rw[hw1];have:=(RowV.new (w.alloc (.cells #[.slice AW nW cW,.slice FE mE dE] 25)) 41 (gangC m ad)).alloc (.cells #[.slice none 0 0,.slice none 0 0,.slice none 0 0,.slice none 0 0,.slice none 0 0] 41)
  simpa[gangC,GAd.vO,GAd.vD,GAd.vT,GAd.vF]using this)
 have HZ1:Hid (RowV (w.heap.size+1+1) 41 [.slice none 0 0,.slice none 0 0,.slice none 0 0,.slice none 0 0,.slice none 0 0] w1):=Lib.hid (by
  rw[hw1];have:=RowV.new ((w.alloc (.cells #[.slice AW nW cW,.slice FE mE dE] 25)).alloc (.cells #[.slice (some ⟨ad.gO,0,none⟩) m ad.cO,ad.vL,.slice (some ⟨ad.gD,0,none⟩) m ad.cD,.slice (some ⟨ad.gT,0,none⟩) m ad.cT,.slice (some ⟨ad.gF,0,none⟩) m ad.cF] 41)) 41 [.slice none 0 0,.slice none 0 0,.slice none 0 0,.slice none 0 0,.slice none 0 0]
  simpa using this)
 have hG1:=h.below hb1;have hg1:=hg.below hb1;have hT1:=hT.via hb1;have CC:=Lib.hid (gcheck_any w1 hok hG1 hm8 hT1 hg1 hM rfl);have HW1:=Lib.hid hw1;have hn:(m:Int)<=(c:Int):=by omega
 have hd:decide ((m:Int)<=(c:Int))=true:=decide_eq_true hn;have hd2:decide (m<=c)=true:=decide_eq_true hc;have hd3:decide ((c:Int)<0)=false:=decide_eq_false (by omega)
 clear h hT hg hM hok hG1 hg1 hT1 hw1 hb1 hrl hll hm1 hm8;go_enter Tryz.func24,Tryz.ntmps24;go_upto_region 1 with fail;rw[<-HW1.out];have p0:w1.cell? ⟨w.heap.size,0,none⟩=some (.slice AW nW cW):=HD1.out.cell rfl
 have p1:w1.cell? ⟨w.heap.size,1,none⟩=some (.slice FE mE dE):=HD1.out.cell rfl
 have r0:w1.cell? ⟨w.heap.size+1,0,none⟩=some (.slice (some ⟨ad.gO,0,none⟩) m ad.cO):=HR1.out.cell rfl
 have r1:w1.cell? ⟨w.heap.size+1,1,none⟩=some ad.vL:=HR1.out.cell rfl
 have r2:w1.cell? ⟨w.heap.size+1,2,none⟩=some (.slice (some ⟨ad.gD,0,none⟩) m ad.cD):=HR1.out.cell rfl
 have r3:w1.cell? ⟨w.heap.size+1,3,none⟩=some (.slice (some ⟨ad.gT,0,none⟩) m ad.cT):=HR1.out.cell rfl
 have r4:w1.cell? ⟨w.heap.size+1,4,none⟩=some (.slice (some ⟨ad.gF,0,none⟩) m ad.cF):=HR1.out.cell rfl
 go_upto_region 5 with(go_at_call 23;refine CC.out.mono ?_;rintro e w2 ⟨rfl,hb⟩;(have HB2:=Lib.hid hb);clear hb p0 p1 r0 r1 r2 r3 r4 CC;(have R2:=HR1.out.below HB2.out HR1.out.lt);(have r0:w2.cell? ⟨w.heap.size+1,0,none⟩=some (.slice (some ⟨ad.gO,0,none⟩) m ad.cO):=R2.cell rfl);clear R2)
 have HZ2:=Lib.hid (HZ1.out.below HB2.out HZ1.out.lt);have z0:=HZ2.out.frozen 0;have z1:=HZ2.out.frozen 1;have z2:=HZ2.out.frozen 2;have z3:=HZ2.out.frozen 3;have z4:=HZ2.out.frozen 4;have t0:=HZ2.out.cell (j:=0) rfl;have t1:=HZ2.out.cell (j:=1) rfl;have t2:=HZ2.out.cell (j:=2) rfl;have t3:=HZ2.out.cell (j:=3) rfl;have t4:=HZ2.out.cell (j:=4) rfl;go_wp2_with fail;have hle:w.heap.size<=w.heap.size+1+1:=by omega
 have hb4:Below w.heap.size w w2:=HB1.out.trans (HB2.out.mono HB1.out.size);have hb5:=((((hb4.setCell (p:=⟨w.heap.size+1+1,0,none⟩) hle (.slice none 0 0)).setCell (p:=⟨w.heap.size+1+1,1,none⟩) hle (.slice none 0 0)).setCell (p:=⟨w.heap.size+1+1,2,none⟩) hle (.slice none 0 0)).setCell (p:=⟨w.heap.size+1+1,3,none⟩) hle (.slice none 0 0)).setCell (p:=⟨w.heap.size+1+1,4,none⟩) hle (.slice none 0 0);exact bodyPost_ret (ret_g1 (cs:=[.slice none 0 0,.slice none 0 0,.slice none 0 0,.slice none 0 0,.slice none 0 0]) rfl rfl rfl (((((HZ2.out.set 0 _).set 1 _).set 2 _).set 3 _).set 4 _) rfl) rfl ⟨rfl,hb5⟩
end
section
variable {base m: Nat} {g: Gng} {L: List Int} {ad: GAd}
theorem gwants_any{n:Nat}{E:List (Int×Int)}{W:List Int}{AW FE:Option Addr}{nW cW mE dE:Nat}(w:World)(hok:GOk n m E L g)(h:GngR w base m g L ad)(hm:m<=8)(hT:DTab w)(hg:IsG w AW nW cW FE mE dE W E)(hM:May W E)(hn:W.length=n):
  Calls Tryz.prog 20 #[.agg #[.slice AW nW cW,.slice FE mE dE],.agg #[.slice (some ⟨ad.gO,0,none⟩) m ad.cO,ad.vL,.slice (some ⟨ad.gD,0,none⟩) m ad.cD,.slice (some ⟨ad.gT,0,none⟩) m ad.cT,.slice (some ⟨ad.gF,0,none⟩) m ad.cF]] w (GotOwn (nums (wantsG m g)) w):=by
 obtain⟨w1,hw1⟩: ∃w1,w1=(w.alloc (.cells #[.slice AW nW cW,.slice FE mE dE] 25)).alloc (.cells #[.slice (some ⟨ad.gO,0,none⟩) m ad.cO,ad.vL,.slice (some ⟨ad.gD,0,none⟩) m ad.cD,.slice (some ⟨ad.gT,0,none⟩) m ad.cT,.slice (some ⟨ad.gF,0,none⟩) m ad.cF] 41):=⟨_,rfl⟩;have hb1:Below w.heap.size w w1:=by rw[hw1];exact((Below.refl _ _).alloc (Nat.le_refl _) _).alloc (by simp) _
 have HB1:=Lib.hid hb1;have HD1:Hid (RowV w.heap.size 25 [.slice AW nW cW,.slice FE mE dE] w1):=Lib.hid (by rw[hw1];exact(RowV.new w _ [.slice AW nW cW,.slice FE mE dE]).alloc _)
 have HR1:Hid (RowV (w.heap.size+1) 41 (gangC m ad) w1):=Lib.hid (by
  rw[hw1];have:=RowV.new (w.alloc (.cells #[.slice AW nW cW,.slice FE mE dE] 25)) 41 (gangC m ad)
  simpa[gangC,GAd.vO,GAd.vD,GAd.vT,GAd.vF]using this)
 have hG1:=h.below hb1;have CC:=Lib.hid (gcheck_any w1 hok hG1 hm (hT.via hb1) (hg.below hb1) hM hn);have CW:=Lib.hid (fun(W:World) (hb:Below w1.heap.size w1 W)=>wants_any W (hG1.below hb) hm)
 have HW1:=Lib.hid hw1;clear h hT hg hM hn hok hG1 hw1 hb1;go_enter Tryz.func20,Tryz.ntmps20;go_upto_region 1 with fail;rw[<-HW1.out];have p0:w1.cell? ⟨w.heap.size,0,none⟩=some (.slice AW nW cW):=HD1.out.cell rfl
 have p1:w1.cell? ⟨w.heap.size,1,none⟩=some (.slice FE mE dE):=HD1.out.cell rfl
 have r0:w1.cell? ⟨w.heap.size+1,0,none⟩=some (.slice (some ⟨ad.gO,0,none⟩) m ad.cO):=HR1.out.cell rfl
 have r1:w1.cell? ⟨w.heap.size+1,1,none⟩=some ad.vL:=HR1.out.cell rfl
 have r2:w1.cell? ⟨w.heap.size+1,2,none⟩=some (.slice (some ⟨ad.gD,0,none⟩) m ad.cD):=HR1.out.cell rfl
 have r3:w1.cell? ⟨w.heap.size+1,3,none⟩=some (.slice (some ⟨ad.gT,0,none⟩) m ad.cT):=HR1.out.cell rfl
 have r4:w1.cell? ⟨w.heap.size+1,4,none⟩=some (.slice (some ⟨ad.gF,0,none⟩) m ad.cF):=HR1.out.cell rfl
 go_wp2_with(first
  |(go_at_call 23;refine CC.out.mono ?_;rintro e w2 ⟨rfl,hb⟩;(have HB2:=Lib.hid hb);clear hb p0 p1 r0 r1 r2 r3 r4;(have R2:=Lib.hid (HR1.out.below HB2.out HR1.out.lt));(have r0:w2.cell? ⟨w.heap.size+1,0,none⟩=some (.slice (some ⟨ad.gO,0,none⟩) m ad.cO):=R2.out.cell rfl);(have r1:w2.cell? ⟨w.heap.size+1,1,none⟩=some ad.vL:=R2.out.cell rfl);(have r2:w2.cell? ⟨w.heap.size+1,2,none⟩=some (.slice (some ⟨ad.gD,0,none⟩) m ad.cD):=R2.out.cell rfl);(have r3:w2.cell? ⟨w.heap.size+1,3,none⟩=some (.slice (some ⟨ad.gT,0,none⟩) m ad.cT):=R2.out.cell rfl);(have r4:w2.cell? ⟨w.heap.size+1,4,none⟩=some (.slice (some ⟨ad.gF,0,none⟩) m ad.cF):=R2.out.cell rfl))
  |(go_at_call 46;refine(CW.out _ HB2.out).mono ?_;rintro e w3 ⟨A3,c3,rfl,hO,hb⟩;(have HO:=Lib.hid hO);(have HB3:=Lib.hid hb);clear hb hO))
 go_ret;exact⟨A3,c3,rfl,HO.out.down (Nat.le_trans HB1.out.size HB2.out.size),HB1.out.trans ((HB2.out.trans (HB3.out.mono HB2.out.size)).mono HB1.out.size)⟩
end
end Go.Proofs.YtngdbbligebcbabGreatDoor
