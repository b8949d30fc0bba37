import Derived.Test.YtngdbbligebcbabGreatDoorZM35
import Derived.Test.YtngdbbligebcbabGreatDoorZStealTick
import Derived.Test.YtngdbbligebcbabGreatDoorZM7
import Derived.Test.YtngdbbligebcbabGreatDoorZM5
import Derived.Test.YtngdbbligebcbabGreatDoorZM8
import Derived.Test.YtngdbbligebcbabGreatDoorZM25
import Derived.Test.YtngdbbligebcbabGreatDoorZM31
import Derived.Test.YtngdbbligebcbabGreatDoorZM16
import Derived.BigQuiet
import Derived.Laws.StructEq
import Derived.Test.YtngdbbligebcbabGreatDoorZM11
import Derived.Deep.RegionHeld3
import Derived.Test.YtngdbbligebcbabGreatDoorZM17
set_option linter.unusedVariables false
set_option linter.unusedSimpArgs false
set_option maxRecDepth 100000
set_option maxHeartbeats 16000000
namespace Go.Proofs.YtngdbbligebcbabGreatDoor
open Go Go.RowKit
section
variable {base m: Nat} {g: Gng} {L: List Int} {ad: GAd}
theorem gtick_any{E:List (Int×Int)}{W:List Int}{AW FE:Option Addr}{nW cW mE dE:Nat}(w:World)(hok:GOk W.length m E L g)(h0: ∀c,c<m->(g.tk c).at_=0)(h:GngR w base m g L ad)(hT:DTab w)(hg:IsG w AW nW cW FE mE dE W E)(hM:May W E):
  Calls Tryz.prog 26 #[.agg #[.slice AW nW cW,.slice FE mE dE],.agg #[.slice (some ⟨ad.gO,0,none⟩) m ad.cO,ad.vL,.slice (some ⟨ad.gD,0,none⟩) m ad.cD,.slice (some ⟨ad.gT,0,none⟩) m ad.cT,.slice (some ⟨ad.gF,0,none⟩) m ad.cF]] w fun e w'=>
   ∃a' A5 c5,e= .returned (.tuple #[.agg (gangC m a').toArray,.slice A5 (nums (doneT g.O L)).length c5,.int .i64 0])/\IsGng w' w.heap.size m (tickG W.length m E L g) (leftT g.O L) a'/\Below w.heap.size w w':=by
 have hm8:m<=8:=by rw[<-hok.ol];exact hok.crew.hi
 have hm1:=hok.m1;have hll:L.length<=1000:=by have:=hok.crew.ln;have:=hok.n64;omega
 have hrl: ∀j,j<m->(g.R j).length<=1000:=fun j hj=>by rw[hok.rl j hj];decide
 obtain⟨w1,hw1⟩: ∃w1,w1=((w.alloc (.cells #[.slice AW nW cW,.slice FE mE dE] 25)).alloc (.cells #[.slice (some ⟨ad.gO,0,none⟩) m ad.cO,ad.vL,.slice (some ⟨ad.gD,0,none⟩) m ad.cD,.slice (some ⟨ad.gT,0,none⟩) m ad.cT,.slice (some ⟨ad.gF,0,none⟩) m ad.cF] 41)).alloc (.cells #[.slice none 0 0,.slice none 0 0,.slice none 0 0,.slice none 0 0,.slice none 0 0] 41):=⟨_,rfl⟩;have hb1:Below w.heap.size w w1:=by rw[hw1];exact(((Below.refl _ _).alloc (Nat.le_refl _) _).alloc (by simp) _).alloc (by simp;omega) _
 have HB1:=Lib.hid hb1;have HD1:Hid (RowV w.heap.size 25 [.slice AW nW cW,.slice FE mE dE] w1):=Lib.hid (by rw[hw1];exact((RowV.new w _ [.slice AW nW cW,.slice FE mE dE]).alloc _).alloc _)
 have HR1:Hid (RowV (w.heap.size+1) 41 (gangC m ad) w1):=Lib.hid (by
  rw[hw1];have:=(RowV.new (w.alloc (.cells #[.slice AW nW cW,.slice FE mE dE] 25)) 41 (gangC m ad)).alloc (.cells #[.slice none 0 0,.slice none 0 0,.slice none 0 0,.slice none 0 0,.slice none 0 0] 41)
  simpa[gangC,GAd.vO,GAd.vD,GAd.vT,GAd.vF]using this)
 have HZ1:Hid (RowV (w.heap.size+1+1) 41 [.slice none 0 0,.slice none 0 0,.slice none 0 0,.slice none 0 0,.slice none 0 0] w1):=Lib.hid (by
  rw[hw1];have:=RowV.new ((w.alloc (.cells #[.slice AW nW cW,.slice FE mE dE] 25)).alloc (.cells #[.slice (some ⟨ad.gO,0,none⟩) m ad.cO,ad.vL,.slice (some ⟨ad.gD,0,none⟩) m ad.cD,.slice (some ⟨ad.gT,0,none⟩) m ad.cT,.slice (some ⟨ad.gF,0,none⟩) m ad.cF] 41)) 41 [.slice none 0 0,.slice none 0 0,.slice none 0 0,.slice none 0 0,.slice none 0 0]
  simpa using this)
 have hG1:=h.below hb1;have hg1:=hg.below hb1;have hT1:=hT.via hb1;have CC:=Lib.hid (gcheck_any w1 hok hG1 hm8 hT1 hg1 hM rfl);have CP:=Lib.hid (fun(W':World) (hb:Below w1.heap.size w1 W')=>scopied_any (vW:=.slice AW nW cW) (vE:=.slice FE mE dE) W' hm1 hm8 hll hrl (hG1.below hb))
 obtain⟨nD,hnD⟩: ∃x,x=(nums (doneT g.O L)).length:=⟨_,rfl⟩;obtain⟨g2,hg2⟩: ∃x,x=tickG W.length m E L g:=⟨_,rfl⟩;obtain⟨L2,hL2⟩: ∃x,x=leftT g.O L:=⟨_,rfl⟩;have CM:Hid (∀(W2 W3:World) (gw:Nat) (a2:GAd),Below w1.heap.size w1 W2->Below W2.heap.size W2 W3->IsWk W3 W2.heap.size gw m g L a2 (.slice AW nW cW) (.slice FE mE dE)->
   Calls Tryz.prog 35 #[.pointer (some ⟨gw,0,none⟩)] W3 fun e w'=> ∃A5 c5 a',e= .returned (.tuple #[.slice A5 nD c5,.int .i64 0])/\IsWk w' W2.heap.size gw m g2 L2 a' (.slice AW nW cW) (.slice FE mE dE)/\Kp [gw,a2.gD] W3 w'):=Lib.hid fun W2 W3 gw a2 hb2 hb3 hwk=>by
  have hb13:=hb2.trans (hb3.mono hb2.size);have hgg:=hg1.below hb2;refine(tick_any W3 hok h0 hM ((IsGrS.of hgg).below hb3) hwk).mono ?_
  rintro e w' ⟨A5,c5,a',he,_,hwk',_,hkp⟩;rw[hnD,hg2,hL2];exact⟨A5,c5,a',he,hwk',hkp⟩
 rw[<-hnD,<-hg2,<-hL2];have HW1:=Lib.hid hw1;clear h hT hg hM hok hG1 hg1 hT1 hw1 hb1 h0 hrl hll hm1 hm8 hnD hg2 hL2;go_enter Tryz.func26,Tryz.ntmps26;go_upto_region 1 with fail;rw[<-HW1.out];have p0:w1.cell? ⟨w.heap.size,0,none⟩=some (.slice AW nW cW):=HD1.out.cell rfl
 have p1:w1.cell? ⟨w.heap.size,1,none⟩=some (.slice FE mE dE):=HD1.out.cell rfl
 have r0:w1.cell? ⟨w.heap.size+1,0,none⟩=some (.slice (some ⟨ad.gO,0,none⟩) m ad.cO):=HR1.out.cell rfl
 have r1:w1.cell? ⟨w.heap.size+1,1,none⟩=some ad.vL:=HR1.out.cell rfl
 have r2:w1.cell? ⟨w.heap.size+1,2,none⟩=some (.slice (some ⟨ad.gD,0,none⟩) m ad.cD):=HR1.out.cell rfl
 have r3:w1.cell? ⟨w.heap.size+1,3,none⟩=some (.slice (some ⟨ad.gT,0,none⟩) m ad.cT):=HR1.out.cell rfl
 have r4:w1.cell? ⟨w.heap.size+1,4,none⟩=some (.slice (some ⟨ad.gF,0,none⟩) m ad.cF):=HR1.out.cell rfl
 go_upto_region 4 with(go_at_call 23;refine CC.out.mono ?_;rintro e w2 ⟨rfl,hb⟩;(have HB2:=Lib.hid hb);clear hb p0 p1 r0 r1 r2 r3 r4 CC)
 have R2:=Lib.hid (HR1.out.below HB2.out HR1.out.lt);have D2:=Lib.hid (HD1.out.below HB2.out HD1.out.lt);have p0:w2.cell? ⟨w.heap.size,0,none⟩=some (.slice AW nW cW):=D2.out.cell rfl
 have p1:w2.cell? ⟨w.heap.size,1,none⟩=some (.slice FE mE dE):=D2.out.cell rfl
 have r0:w2.cell? ⟨w.heap.size+1,0,none⟩=some (.slice (some ⟨ad.gO,0,none⟩) m ad.cO):=R2.out.cell rfl
 have r1:w2.cell? ⟨w.heap.size+1,1,none⟩=some ad.vL:=R2.out.cell rfl
 have r2:w2.cell? ⟨w.heap.size+1,2,none⟩=some (.slice (some ⟨ad.gD,0,none⟩) m ad.cD):=R2.out.cell rfl
 have r3:w2.cell? ⟨w.heap.size+1,3,none⟩=some (.slice (some ⟨ad.gT,0,none⟩) m ad.cT):=R2.out.cell rfl
 have r4:w2.cell? ⟨w.heap.size+1,4,none⟩=some (.slice (some ⟨ad.gF,0,none⟩) m ad.cF):=R2.out.cell rfl
 go_upto_region 5 with(go_at_call 43;refine(CP.out _ HB2.out).mono ?_;rintro e w3 ⟨gw,a2,rfl,hwk,hb⟩;(have HB3:=Lib.hid hb);(have HWK:=Lib.hid hwk);clear hb hwk p0 p1 r0 r1 r2 r3 r4 CP)
 go_upto_region 8 with(go_at_call 35;refine(CM.out _ _ _ _ HB2.out HB3.out HWK.out).mono ?_;rintro e w4 ⟨A5,c5,a3,rfl,hwk,hkp⟩;(have HW4:=Lib.hid hwk);(have HK4:=Lib.hid hkp);clear hwk hkp CM)
 have hs2:w.heap.size+1+1<w2.heap.size:=Nat.lt_of_lt_of_le HZ1.out.lt HB2.out.size;have hlo:=HWK.out.gng.los;have hlo2:=HWK.out.hw;have HZ4:Hid (RowV (w.heap.size+1+1) 41 [.slice none 0 0,.slice none 0 0,.slice none 0 0,.slice none 0 0,.slice none 0 0] w4):=Lib.hid (HK4.out.row (((HZ1.out.below HB2.out HZ1.out.lt)).below HB3.out hs2) (by simp;omega))
 have HB4:Hid (Below w.heap.size w w4):=Lib.hid (HB1.out.trans ((HB2.out.trans ((HB3.out.trans (HK4.out.below (by simp;omega) HB3.out.size)).mono HB2.out.size)).mono HB1.out.size))
 have HLO:=Lib.hid hs2;have s0:w4.cell? ⟨gw,0,none⟩=some (.slice (some ⟨a3.gO,0,none⟩) m a3.cO):=HW4.out.row.cell rfl
 obtain⟨AL2,cL2,hvL2,_⟩:=HW4.out.gng.left.slice;replace hvL2:a3.vL= .slice AL2 L2.length cL2:=hvL2;have s1:w4.cell? ⟨gw,1,none⟩=some a3.vL:=HW4.out.row.cell rfl
 rw[hvL2]at s1;have HVL2:=Lib.hid hvL2;have s2:w4.cell? ⟨gw,2,none⟩=some (.slice (some ⟨a3.gD,0,none⟩) m a3.cD):=HW4.out.row.cell rfl
 have s3:w4.cell? ⟨gw,3,none⟩=some (.slice (some ⟨a3.gT,0,none⟩) m a3.cT):=HW4.out.row.cell rfl
 have s4:w4.cell? ⟨gw,4,none⟩=some (.slice (some ⟨a3.gF,0,none⟩) m a3.cF):=HW4.out.row.cell rfl
 have z0:=HZ4.out.frozen 0;have z1:=HZ4.out.frozen 1;have z2:=HZ4.out.frozen 2;have z3:=HZ4.out.frozen 3;have z4:=HZ4.out.frozen 4;have t0:=HZ4.out.cell (j:=0) rfl;have t1:=HZ4.out.cell (j:=1) rfl;have t2:=HZ4.out.cell (j:=2) rfl;have t3:=HZ4.out.cell (j:=3) rfl;have t4:=HZ4.out.cell (j:=4) rfl;clear hs2 hlo hlo2 hvL2;go_wp2_with fail;have hs2:=HLO.out;have f0:=HW4.out.gng.far HZ4.out (by decide) (by decide) (by decide) 0 (.slice (some ⟨a3.gO,0,none⟩) m a3.cO)
 have f1:=f0.far (HZ4.out.set 0 _) (by decide) (by decide) (by decide) 1 (.slice AL2 L2.length cL2)
 have f2:=f1.far ((HZ4.out.set 0 _).set 1 _) (by decide) (by decide) (by decide) 2 (.slice (some ⟨a3.gD,0,none⟩) m a3.cD)
 have f3:=f2.far (((HZ4.out.set 0 _).set 1 _).set 2 _) (by decide) (by decide) (by decide) 3 (.slice (some ⟨a3.gT,0,none⟩) m a3.cT)
 have f4:=f3.far ((((HZ4.out.set 0 _).set 1 _).set 2 _).set 3 _) (by decide) (by decide) (by decide) 4 (.slice (some ⟨a3.gF,0,none⟩) m a3.cF)
 have hle:w.heap.size<=w.heap.size+1+1:=by omega
 have hb5:=((((HB4.out.setCell (p:=⟨w.heap.size+1+1,0,none⟩) hle (.slice (some ⟨a3.gO,0,none⟩) m a3.cO)).setCell (p:=⟨w.heap.size+1+1,1,none⟩) hle (.slice AL2 L2.length cL2)).setCell (p:=⟨w.heap.size+1+1,2,none⟩) hle (.slice (some ⟨a3.gD,0,none⟩) m a3.cD)).setCell (p:=⟨w.heap.size+1+1,3,none⟩) hle (.slice (some ⟨a3.gT,0,none⟩) m a3.cT)).setCell (p:=⟨w.heap.size+1+1,4,none⟩) hle (.slice (some ⟨a3.gF,0,none⟩) m a3.cF);refine bodyPost_ret (ret_g2 (cs:=[.slice (some ⟨a3.gO,0,none⟩) m a3.cO,.slice AL2 L2.length cL2,.slice (some ⟨a3.gD,0,none⟩) m a3.cD,.slice (some ⟨a3.gT,0,none⟩) m a3.cT,.slice (some ⟨a3.gF,0,none⟩) m a3.cF]) rfl rfl rfl rfl (((((HZ4.out.set 0 _).set 1 _).set 2 _).set 3 _).set 4 _) rfl) rfl ⟨a3,A5,c5,?_,f4.down (by omega),hb5⟩
 show Ending.returned (.tuple #[.agg #[.slice (some ⟨a3.gO,0,none⟩) m a3.cO,.slice AL2 L2.length cL2,.slice (some ⟨a3.gD,0,none⟩) m a3.cD,.slice (some ⟨a3.gT,0,none⟩) m a3.cT,.slice (some ⟨a3.gF,0,none⟩) m a3.cF],.slice A5 nD c5,.int .i64 0])=Ending.returned (.tuple #[.agg #[.slice (some ⟨a3.gO,0,none⟩) m a3.cO,a3.vL,.slice (some ⟨a3.gD,0,none⟩) m a3.cD,.slice (some ⟨a3.gT,0,none⟩) m a3.cT,.slice (some ⟨a3.gF,0,none⟩) m a3.cF],.slice A5 nD c5,.int .i64 0])
 rw[HVL2.out]
end
end Go.Proofs.YtngdbbligebcbabGreatDoor
namespace Go.Proofs.YtngdbbligebcbabGreatDoor
open Go.RowKit
section
variable {A: Option Addr} {n c: Nat} {F: Option Addr} {m d: Nat} {W: List Int} {E: List (Int × Int)} {N: Option Addr} {nn nc: Nat} {need: List Int} {T: Option Addr} {tn tc: Nat} {t: List (List Int)}
theorem own_g10{w:World}(h:IsG w A n c F m d W E):
  Calls Tryz.prog 10 #[.agg #[.slice A n c,.slice F m d]] w fun e w'=> ∃A' c' F' d',e= .returned (.agg #[.slice A' n c',.slice F' m d'])/\IsG w' A' n c' F' m d' W E/\Below w.heap.size w w':=by
 refine(own_any A F n c m d W E w h.hn (by have:=h.ln;omega) h.hm (by have:=h.lm;omega) h.ints h.pairs h.hA h.hF).mono ?_
 rintro e w' ⟨u,v,rfl,hu,hv,b⟩;obtain⟨A',c',F',d',rfl,rfl,hg⟩:=own_isG (h.tab.via b) hu hv (by rw[h.hn];exact h.ln) (by rw[h.hm];exact h.lm)
 rw[h.hn,h.hm]at hg⊢;exact⟨A',c',F',d',rfl,hg,b⟩
structure InG(w:World)(A:Option Addr)(n c:Nat)(F:Option Addr)(m d:Nat)(W:List Int)(E:List (Int×Int)):Prop where
 hn:W.length=n
 hm:E.length=m
 ln:n<=9223372036854775807
 lm:m<=9223372036854775807
 ints:Ints w w.heap.size A W
 pairs:Pairs w w.heap.size F E
 hA:A=none->n=0/\c=0
 hF:F=none->m=0/\d=0
theorem InG.isG{w:World}(hT:Tab64 w)(h:InG w A n c F m d W E)(hn:n<=70)(hm:m<=300):IsG w A n c F m d W E:=⟨h.hn,h.hm,by omega,by omega,h.ints,h.pairs,h.hA,h.hF,hT⟩
structure InS(w:World)(N:Option Addr)(nn nc:Nat)(T:Option Addr)(tn tc:Nat)(need:List Int)(t:List (List Int)):Prop where
 hn:need.length=nn
 ht:t.length=tn
 ln:nn<=9223372036854775807
 lt:tn<=9223372036854775807
 lr: ∀r∈t,r.length<=9223372036854775807
 ints:Ints w w.heap.size N need
 rows:Trc w w.heap.size T t
 hN:N=none->nn=0/\nc=0
 hT:T=none->tn=0/\tc=0
 cT:tn<=tc
theorem IsS.taken{w:World}(h:IsS w N nn nc T tn tc need t){k:Nat}(hk:k<=tn):IsS w N nn nc T k tc need (t.take k)\/(T=none/\k=0):=by
 by_cases hT:T=none
 ·exact .inr ⟨hT,by have:=(h.hT hT).1;omega⟩
 ·exact .inl ⟨h.hn,by rw[List.length_take,h.ht];omega,h.ln,by have:=h.lt;omega,fun r hr=>h.lr r (List.mem_of_mem_take hr),h.ints,h.rows.take k,h.hN,fun e=>absurd e hT⟩
end
end Go.Proofs.YtngdbbligebcbabGreatDoor
namespace Go.Proofs.YtngdbbligebcbabGreatDoor
open Go Go.RowKit
section
variable {base m: Nat} {g g': Gng} {L L': List Int} {ad ad': GAd}
theorem IsGng.isQ{w:World}(h:IsGng w base m g L ad)(hrl: ∀j,j<m->(g.R j).length=64){j:Nat}(hj:j<m): ∃A c,ad.Rv j= .slice A 64 c/\IsQ w A 64 c (g.R j):=by
 obtain⟨A,c,hv,_⟩:=(h.ring j hj).slice;have ho:=h.ring j hj;rw[hrl j hj]at hv;rw[hv]at ho;exact⟨A,c,hv,own_isQ ho (hrl j hj) (by decide)⟩
theorem eqf_self(w:World)(h:IsGng w base m g L ad)(hm:m<=8)(hrl: ∀j,j<m->(g.R j).length=64):
  Calls Tryz.prog 52 #[.slice (some ⟨ad.gD,0,none⟩) m ad.cD,.slice (some ⟨ad.gD,0,none⟩) m ad.cD,.func (.func 53) #[] #[]] w fun e w'=>e= .returned (.bool true)/\Below w.heap.size w w':=by
 have H:=Lib.hid h;have HRL:=Lib.hid hrl;clear h hrl;go_enter Tryz.func52,Tryz.ntmps52;go_wp2;go_loopw [17] (fun v wr=> ∃k:Nat,k<=m/\v= .int .i64 k/\Hid (Below w.heap.size w wr)) (fun v _=>m - (intOf v).toNat)
 case atStart=>exact⟨0,Nat.zero_le _,rfl,Lib.hid (Below.refl _ _)⟩
 case round=>
  obtain⟨k,hk,rfl,HB⟩:=hrel
  by_cases hlt:k<m
  ·have hr:=H.out.below HB.out
   obtain⟨A,c,hv,hq⟩:=hr.isQ HRL.out hlt;have c0:=hr.dq hlt (i:=0) rfl;have c1:=hr.dq hlt (i:=1) rfl;have c2:=hr.dq hlt (i:=2) rfl;rw[hv]at c0;simp only[Nat.add_zero]at c0;have e3:k * 3=3 * k:=Nat.mul_comm _ _;have hn: ¬((m:Int)<=(k:Int)):=by omega
   obtain⟨w2,hw2⟩: ∃x,x=(wr.alloc (.cells #[.slice A 64 c,.int .i64 (g.T k),.int .i64 (g.B k)] 81)).alloc (.cells #[.slice A 64 c,.int .i64 (g.T k),.int .i64 (g.B k)] 81):=⟨_,rfl⟩;have hb2:Below wr.heap.size wr w2:=by rw[hw2];exact(below_alloc _).trans ((below_alloc _).mono (by simp))
   have C:=Lib.hid (dsame_d (g.T k) (g.B k) (g.T k) (g.B k) w2 (hq.below hb2) (hq.below hb2));rw[decide_eq_true (show SameQ (g.R k) (g.T k) (g.B k) (g.R k) (g.T k) (g.B k)from⟨rfl,rfl,rfl⟩),hw2]at C
   have HB2:Hid (Below w.heap.size w w2):=Lib.hid (HB.out.trans (hb2.mono HB.out.size));have HW2:=Lib.hid hw2;have hdl:ad.gD<wr.heap.size:=hr.lts.2.1.2;obtain⟨tk,htk⟩: ∃t,t=g.T k:=⟨_,rfl⟩;obtain⟨bk,hbk⟩: ∃t,t=g.B k:=⟨_,rfl⟩;rw[<-htk,<-hbk]at C HW2;rw[<-htk]at c1;rw[<-hbk]at c2;clear hr hv hq hb2 hw2 htk hbk;go_wp2_with fail;refine C.out.mono ?_
   rintro e w3 ⟨rfl,hb⟩;have HB3:=Lib.hid hb;clear hb;go_wp2;go_roundw
   case rel=>exact⟨k+1,by omega,by go_num,Lib.hid (HB2.out.trans ((by rw[HW2.out];exact HB3.out:Below w2.heap.size w2 _).mono HB2.out.size))⟩
   case measure=>simp[intOf];omega
  ·obtain rfl: m = k:=by omega
   go_wp2;go_ret
   exact⟨rfl,HB.out⟩
theorem eqt_self(w:World)(h:IsGng w base m g L ad)(hm:m<=8):
  Calls Tryz.prog 54 #[.slice (some ⟨ad.gT,0,none⟩) m ad.cT,.slice (some ⟨ad.gT,0,none⟩) m ad.cT] w fun e w'=>e= .returned (.bool true)/\Below w.heap.size w w':=by
 have H:=Lib.hid h;clear h;go_enter Tryz.func54,Tryz.ntmps54;go_wp2;go_loopw [13] (fun v wr=> ∃k:Nat,k<=m/\v= .int .i64 k/\Hid (Below w.heap.size w wr)) (fun v _=>m - (intOf v).toNat)
 case atStart=>exact⟨0,Nat.zero_le _,rfl,Lib.hid (Below.refl _ _)⟩
 case round=>
  obtain⟨k,hk,rfl,HB⟩:=hrel
  by_cases hlt:k<m
  ·have hr:=H.out.below HB.out
   obtain⟨t,ht⟩: ∃t,t=g.tk k:=⟨_,rfl⟩;have c0:=hr.tk hlt (i:=0) (v:=.bool t.steal) (by rw[ht];rfl)
   have c1:=hr.tk hlt (i:=1) (v:=.int .i64 t.at_) (by rw[ht];rfl)
   have c2:=hr.tk hlt (i:=2) (v:=.int .i64 t.top) (by rw[ht];rfl)
   have c3:=hr.tk hlt (i:=3) (v:=.int .i64 t.bot) (by rw[ht];rfl)
   have c4:=hr.tk hlt (i:=4) (v:=.int .i64 t.got) (by rw[ht];rfl)
   have c5:=hr.tk hlt (i:=5) (v:=.int .i64 t.end_) (by rw[ht];rfl)
   simp only[Nat.add_zero]at c0;have e6:k * 6=6 * k:=Nat.mul_comm _ _;have hn: ¬((m:Int)<=(k:Int)):=by omega
   clear hr ht;go_wp2
   go_quiet (fail)
   go_wp2;go_roundw
   case rel=>exact⟨k+1,by omega,by go_num,Lib.hid (HB.out.trans ((below_drewN (Below.refl _ _) _).mono HB.out.size))⟩
   case measure=>simp[intOf];omega
  ·obtain rfl: m = k:=by omega
   go_wp2;go_ret
   exact⟨rfl,HB.out⟩
theorem same_self(w:World)(h:IsGng w base m g L ad)(hm:m<=8)(hl:L.length<=64)(hrl: ∀j,j<m->(g.R j).length=64):
  Calls Tryz.prog 28 #[.agg #[.slice (some ⟨ad.gO,0,none⟩) m ad.cO,ad.vL,.slice (some ⟨ad.gD,0,none⟩) m ad.cD,.slice (some ⟨ad.gT,0,none⟩) m ad.cT,.slice (some ⟨ad.gF,0,none⟩) m ad.cF],.agg #[.slice (some ⟨ad.gO,0,none⟩) m ad.cO,ad.vL,.slice (some ⟨ad.gD,0,none⟩) m ad.cD,.slice (some ⟨ad.gT,0,none⟩) m ad.cT,.slice (some ⟨ad.gF,0,none⟩) m ad.cF]] w fun e w'=>e= .returned (.bool true)/\Below w.heap.size w w':=by
 obtain⟨AL,cL,hvL,hC⟩:=h.crew hm (by omega)
 obtain⟨nL,hnL⟩: ∃x,x=L.length:=⟨_,rfl⟩;rw[<-hnL]at hvL hC;obtain⟨w1,hw1⟩: ∃x,x=(w.alloc (.cells #[.slice (some ⟨ad.gO,0,none⟩) m ad.cO,.slice AL nL cL,.slice (some ⟨ad.gD,0,none⟩) m ad.cD,.slice (some ⟨ad.gT,0,none⟩) m ad.cT,.slice (some ⟨ad.gF,0,none⟩) m ad.cF] 41)).alloc (.cells #[.slice (some ⟨ad.gO,0,none⟩) m ad.cO,.slice AL nL cL,.slice (some ⟨ad.gD,0,none⟩) m ad.cD,.slice (some ⟨ad.gT,0,none⟩) m ad.cT,.slice (some ⟨ad.gF,0,none⟩) m ad.cF] 41):=⟨_,rfl⟩;have hb1:Below w.heap.size w w1:=by rw[hw1];exact(below_alloc _).trans ((below_alloc _).mono (by simp))
 have HB1:=Lib.hid hb1;have R1:RowV w.heap.size 41 [.slice (some ⟨ad.gO,0,none⟩) m ad.cO,.slice AL nL cL,.slice (some ⟨ad.gD,0,none⟩) m ad.cD,.slice (some ⟨ad.gT,0,none⟩) m ad.cT,.slice (some ⟨ad.gF,0,none⟩) m ad.cF] w1:=by rw[hw1];exact(RowV.new w _ [.slice (some ⟨ad.gO,0,none⟩) m ad.cO,.slice AL nL cL,.slice (some ⟨ad.gD,0,none⟩) m ad.cD,.slice (some ⟨ad.gT,0,none⟩) m ad.cT,.slice (some ⟨ad.gF,0,none⟩) m ad.cF]).alloc _
 have R2:RowV (w.heap.size+1) 41 [.slice (some ⟨ad.gO,0,none⟩) m ad.cO,.slice AL nL cL,.slice (some ⟨ad.gD,0,none⟩) m ad.cD,.slice (some ⟨ad.gT,0,none⟩) m ad.cT,.slice (some ⟨ad.gF,0,none⟩) m ad.cF] w1:=by
  have:=RowV.new (w.alloc (.cells #[.slice (some ⟨ad.gO,0,none⟩) m ad.cO,.slice AL nL cL,.slice (some ⟨ad.gD,0,none⟩) m ad.cD,.slice (some ⟨ad.gT,0,none⟩) m ad.cT,.slice (some ⟨ad.gF,0,none⟩) m ad.cF] 41)) 41 [.slice (some ⟨ad.gO,0,none⟩) m ad.cO,.slice AL nL cL,.slice (some ⟨ad.gD,0,none⟩) m ad.cD,.slice (some ⟨ad.gT,0,none⟩) m ad.cT,.slice (some ⟨ad.gF,0,none⟩) m ad.cF];rw[hw1]
  simpa using this
 have HR1:=Lib.hid R1;have HR2:=Lib.hid R2;have C1:=Lib.hid (csame_any w1 (hC.below hb1) (hC.below hb1));rw[decide_eq_true (show g.O=g.O/\L=L from⟨rfl,rfl⟩)]at C1
 have C2:=Lib.hid (fun(W:World) (hb:Below w1.heap.size w1 W)=>eqf_self W ((h.below hb1).below hb) hm hrl)
 have C3:=Lib.hid (fun(W:World) (hb:Below w1.heap.size w1 W)=>eqt_self W ((h.below hb1).below hb) hm)
 have C4:Hid (∀(W:World),Below w1.heap.size w1 W->Calls Tryz.prog 55 #[.slice (some ⟨ad.gF,0,none⟩) m ad.cF,.slice (some ⟨ad.gF,0,none⟩) m ad.cF] W fun e w'=>e= .returned (.bool true)/\Below W.heap.size W w'):=Lib.hid (fun W hb=>by
  have hi:Ints W W.heap.size (some ⟨ad.gF,0,none⟩) (frL m g):=OwnI.ints (show OwnI W base (.slice (some ⟨ad.gF,0,none⟩) m ad.cF) (frL m g)from((h.below hb1).below hb).frm)
  have:=eq_ints W.heap.size (some ⟨ad.gF,0,none⟩) (some ⟨ad.gF,0,none⟩) ad.cF ad.cF (frL m g) (frL m g) W (by rw[frL_len];omega) (by rw[frL_len];omega) hi hi
  rw[frL_len,decide_eq_true rfl]at this;exact this.mono fun e w' ⟨he,N,hw⟩=>⟨he,by rw[hw];exact below_drewN (Below.refl _ _) N⟩)
 have HW1:=Lib.hid hw1;rw[hvL];clear h hC hvL hnL hl hb1 hw1 R1 R2 hrl;go_enter Tryz.func28,Tryz.ntmps28;go_upto_region 1 with fail;rw[<-HW1.out];have a0:=HR1.out.cell (j:=0) rfl;have a1:=HR1.out.cell (j:=1) rfl;have a2:=HR1.out.cell (j:=2) rfl;have a3:=HR1.out.cell (j:=3) rfl;have a4:=HR1.out.cell (j:=4) rfl;have b0:=HR2.out.cell (j:=0) rfl;have b1:=HR2.out.cell (j:=1) rfl;have b2:=HR2.out.cell (j:=2) rfl;have b3:=HR2.out.cell (j:=3) rfl;have b4:=HR2.out.cell (j:=4) rfl
 go_wp2_with(first
  |(go_at_call 51;refine C1.out.mono ?_;rintro e w2 ⟨rfl,hb⟩;(have HB2:=Lib.hid hb);clear hb a0 a1 a2 a3 a4 b0 b1 b2 b3 b4;(have R1:=HR1.out.below HB2.out HR1.out.lt);(have R2:=HR2.out.below HB2.out HR2.out.lt);(have a2:=R1.cell (j:=2) rfl);(have a3:=R1.cell (j:=3) rfl);(have a4:=R1.cell (j:=4) rfl);(have b2:=R2.cell (j:=2) rfl);(have b3:=R2.cell (j:=3) rfl);(have b4:=R2.cell (j:=4) rfl);clear R1 R2)
  |(go_at_call 52;refine(C2.out _ HB2.out).mono ?_;rintro e w3 ⟨rfl,hb⟩;(have HB3:=Lib.hid (HB2.out.trans (hb.mono HB2.out.size)));clear hb a2 a3 a4 b2 b3 b4;(have R1:=HR1.out.below HB3.out HR1.out.lt);(have R2:=HR2.out.below HB3.out HR2.out.lt);(have a3:=R1.cell (j:=3) rfl);(have a4:=R1.cell (j:=4) rfl);(have b3:=R2.cell (j:=3) rfl);(have b4:=R2.cell (j:=4) rfl);clear R1 R2)
  |(go_at_call 54;refine(C3.out _ HB3.out).mono ?_;rintro e w4 ⟨rfl,hb⟩;(have HB4:=Lib.hid (HB3.out.trans (hb.mono HB3.out.size)));clear hb a3 a4 b3 b4;(have R1:=HR1.out.below HB4.out HR1.out.lt);(have R2:=HR2.out.below HB4.out HR2.out.lt);(have a4:=R1.cell (j:=4) rfl);(have b4:=R2.cell (j:=4) rfl);clear R1 R2)
  |(go_at_call 55;refine(C4.out _ HB4.out).mono ?_;rintro e w5 ⟨rfl,hb⟩;(have HB5:=Lib.hid (HB4.out.trans (hb.mono HB4.out.size)));clear hb a4 b4))
 go_ret;exact⟨rfl,HB1.out.trans (HB5.out.mono HB1.out.size)⟩
theorem same_not(w:World){base2:Nat}{g2:Gng}{L2:List Int}{ad2:GAd}(h:IsGng w base m g L ad)(h2:IsGng w base2 m g2 L2 ad2)(hm:m<=8)(hl:L.length<=64)(hl2:L2.length<=64)(hne:g.O≠g2.O):
  Calls Tryz.prog 28 #[.agg #[.slice (some ⟨ad.gO,0,none⟩) m ad.cO,ad.vL,.slice (some ⟨ad.gD,0,none⟩) m ad.cD,.slice (some ⟨ad.gT,0,none⟩) m ad.cT,.slice (some ⟨ad.gF,0,none⟩) m ad.cF],.agg #[.slice (some ⟨ad2.gO,0,none⟩) m ad2.cO,ad2.vL,.slice (some ⟨ad2.gD,0,none⟩) m ad2.cD,.slice (some ⟨ad2.gT,0,none⟩) m ad2.cT,.slice (some ⟨ad2.gF,0,none⟩) m ad2.cF]] w fun e w'=>e= .returned (.bool false)/\Below w.heap.size w w':=by
 obtain⟨AL,cL,hvL,hC⟩:=h.crew hm (by omega)
 obtain⟨AL2,cL2,hvL2,hC2⟩:=h2.crew hm (by omega)
 obtain⟨nL,hnL⟩: ∃x,x=L.length:=⟨_,rfl⟩;obtain⟨nL2,hnL2⟩: ∃x,x=L2.length:=⟨_,rfl⟩;rw[<-hnL]at hvL hC;rw[<-hnL2]at hvL2 hC2;obtain⟨w1,hw1⟩: ∃x,x=(w.alloc (.cells #[.slice (some ⟨ad.gO,0,none⟩) m ad.cO,.slice AL nL cL,.slice (some ⟨ad.gD,0,none⟩) m ad.cD,.slice (some ⟨ad.gT,0,none⟩) m ad.cT,.slice (some ⟨ad.gF,0,none⟩) m ad.cF] 41)).alloc (.cells #[.slice (some ⟨ad2.gO,0,none⟩) m ad2.cO,.slice AL2 nL2 cL2,.slice (some ⟨ad2.gD,0,none⟩) m ad2.cD,.slice (some ⟨ad2.gT,0,none⟩) m ad2.cT,.slice (some ⟨ad2.gF,0,none⟩) m ad2.cF] 41):=⟨_,rfl⟩;have hb1:Below w.heap.size w w1:=by rw[hw1];exact(below_alloc _).trans ((below_alloc _).mono (by simp))
 have HB1:=Lib.hid hb1;have R1:RowV w.heap.size 41 [.slice (some ⟨ad.gO,0,none⟩) m ad.cO,.slice AL nL cL,.slice (some ⟨ad.gD,0,none⟩) m ad.cD,.slice (some ⟨ad.gT,0,none⟩) m ad.cT,.slice (some ⟨ad.gF,0,none⟩) m ad.cF] w1:=by rw[hw1];exact(RowV.new w _ [.slice (some ⟨ad.gO,0,none⟩) m ad.cO,.slice AL nL cL,.slice (some ⟨ad.gD,0,none⟩) m ad.cD,.slice (some ⟨ad.gT,0,none⟩) m ad.cT,.slice (some ⟨ad.gF,0,none⟩) m ad.cF]).alloc _
 have R2:RowV (w.heap.size+1) 41 [.slice (some ⟨ad2.gO,0,none⟩) m ad2.cO,.slice AL2 nL2 cL2,.slice (some ⟨ad2.gD,0,none⟩) m ad2.cD,.slice (some ⟨ad2.gT,0,none⟩) m ad2.cT,.slice (some ⟨ad2.gF,0,none⟩) m ad2.cF] w1:=by
  have:=RowV.new (w.alloc (.cells #[.slice (some ⟨ad.gO,0,none⟩) m ad.cO,.slice AL nL cL,.slice (some ⟨ad.gD,0,none⟩) m ad.cD,.slice (some ⟨ad.gT,0,none⟩) m ad.cT,.slice (some ⟨ad.gF,0,none⟩) m ad.cF] 41)) 41 [.slice (some ⟨ad2.gO,0,none⟩) m ad2.cO,.slice AL2 nL2 cL2,.slice (some ⟨ad2.gD,0,none⟩) m ad2.cD,.slice (some ⟨ad2.gT,0,none⟩) m ad2.cT,.slice (some ⟨ad2.gF,0,none⟩) m ad2.cF];rw[hw1]
  simpa using this
 have HR1:=Lib.hid R1;have HR2:=Lib.hid R2;have C1:=Lib.hid (csame_any w1 (hC.below hb1) (hC2.below hb1));rw[decide_eq_false (fun q:g.O=g2.O/\L=L2=>hne q.1)]at C1
 have HW1:=Lib.hid hw1;rw[hvL,hvL2];clear h h2 hC hC2 hvL hvL2 hnL hnL2 hl hl2 hb1 hw1 R1 R2 hne;go_enter Tryz.func28,Tryz.ntmps28;go_upto_region 1 with fail;rw[<-HW1.out];have a0:=HR1.out.cell (j:=0) rfl;have a1:=HR1.out.cell (j:=1) rfl;have b0:=HR2.out.cell (j:=0) rfl;have b1:=HR2.out.cell (j:=1) rfl
 go_wp2_with(go_at_call 51;refine C1.out.mono ?_;rintro e w2 ⟨rfl,hb⟩;(have HB2:=Lib.hid hb);clear hb a0 a1 b0 b1)
 go_ret;exact⟨rfl,HB1.out.trans (HB2.out.mono HB1.out.size)⟩
end
end Go.Proofs.YtngdbbligebcbabGreatDoor
namespace Go.Proofs.YtngdbbligebcbabGreatDoor
open Go.RowKit
section
variable {W: List Int} {E: List (Int × Int)}
theorem May.erase(hM:May W E)(k:Nat):May W (E.eraseIdx k):=by
 have hs: ∀e∈E.eraseIdx k,e∈E:=fun e he=>(List.eraseIdx_sublist E k).mem he
 exact⟨hM.nodes,Nat.le_trans (List.eraseIdx_sublist E k).length_le hM.edges,hM.work,fun e he=>hM.fits e (hs e he),fun e he=>hM.apart e (hs e he),hM.once.sublist (List.eraseIdx_sublist E k),hM.acyc.mono fun a b h=>hs _ h⟩
end
theorem need_may{W:List Int}{E:List (Int×Int)}{need:List Int}{cores:Int}(hM:May W E)(hF:FormOk W need cores):May need E:=
 ⟨by rw[hF.1];exact hM.nodes,hM.edges,fun z hz=>⟨by have:=(hF.2.1 z hz).1;omega,(hF.2.1 z hz).2⟩,by rw[hF.1];exact hM.fits,hM.apart,hM.once,hM.acyc⟩
section
variable {A: Option Addr} {n c: Nat} {F: Option Addr} {m d: Nat} {W: List Int} {E: List (Int × Int)} {N: Option Addr} {nn nc: Nat} {need: List Int} {T: Option Addr} {tn tc: Nat} {t: List (List Int)}
structure BxB(w:World)(g:Nat)(A:Option Addr)(n c:Nat)(F:Option Addr)(m d:Nat)(x:World):Prop where
 bel:Below w.heap.size w x
 p0:x.cell? ⟨g,0,none⟩=some (.slice A n c)
 p1:x.cell? ⟨g,1,none⟩=some (.slice F m d)
theorem BxB.next{w x y:World}{g:Nat}(h:BxB w g A n c F m d x)(b:Below x.heap.size x y):BxB w g A n c F m d y:=
 ⟨h.bel.trans (b.mono h.bel.size),(b.cell (World.block_lt_of_cell? _ _ h.p0)).trans h.p0,(b.cell (World.block_lt_of_cell? _ _ h.p1)).trans h.p1⟩
theorem BxB.cells{w x:World}{g:Nat}(h:BxB w g A n c F m d x):x.cell? ⟨g,0,none⟩=some (.slice A n c)/\x.cell? ⟨g,1,none⟩=some (.slice F m d):=⟨h.p0,h.p1⟩
theorem BxB.start{w w1:World}(h:Below w.heap.size w w1)(A:Option Addr)(n c:Nat)(F:Option Addr)(m d:Nat):BxB w w1.heap.size A n c F m d (w1.alloc (.cells #[.slice A n c,.slice F m d] 25)):=
 ⟨h.trans ((below_alloc _).mono h.size),by rw[World.cell?_alloc_at _ _ _ _ rfl];rfl,by rw[World.cell?_alloc_at _ _ _ _ rfl];rfl⟩
end
end Go.Proofs.YtngdbbligebcbabGreatDoor
namespace Go.Proofs.YtngdbbligebcbabGreatDoor
open Go Go.RowKit
section
variable {P: Program} {ops: Array Oper} {Q: Exit -> Act -> World -> Prop}
theorem wp_region_late0(ds:List Nat)(wt:List Bool){id:Nat}{a0:Act}{w0:World}(hm:P.follows .mixedOrders=true)(hG:factsB ops ds wt=true)(hsz: ∀d∈ds,d<a0.tmps.size)
    (I:World->Prop) (Φ:Nat->Value->World->Prop)
    (hI: ∀w w',I w->Below w.heap.size w w'->I w') (hΦ: ∀k v w w',Φ k v w->Below w.heap.size w w'->Φ k v w')
    (h0:I {w0 with drawn:=w0.drawn+1})
    (hW: ∀(k:Nat) (o:Oper) (g:Nat) (b:Bool),ops[k]? =some o->o.guard=some (g,b)-> ∀v w,Φ g v w->v= .bool (if wt.getD k true=true then b else !b))
    (hskip: ∀k,wt.getD k true=false-> ∀w,Φ k undef w)
    (hstep: ∀(k:Nat) (o:Oper),ops[k]? =some o->wt.getD k true=true-> ∀(a:Act) (w:World),I w->AtDoor a0 ds a.eval->(∀e∈o.after,Region.binds .any e=true->Φ e.on (a.eval (.tmp (ds.getD e.on 0))) w)->
      (∀(j:Nat) (p:Oper),ops[j]? =some p->(p.after.any fun e=>e.on==k&&Region.binds .any e)=true->a.eval (.tmp (ds.getD j 0))=a0.eval (.tmp (ds.getD j 0)))->
      ∀K:Act->World->Prop,(∀v w',Φ k v w'->Below w.heap.size w w'->K (a.put o.dst v) w')->o.wp P a w K Q)
    (hend: ∀(vals:Nat->Value) (w:World),I w->(∀k,k<ds.length->Φ k (vals (ds.getD k 0)) w)->Q .normal ⟨(fillA a0 ds vals).toArray,a0.defers⟩ w):
    (Code.region id ops true).wp P Q a0 w0:=by
  have G:=facts_of hG;refine wp_region_inv (fun l a w=>l.size=ds.length/\I w/\AtDoor a0 ds a.eval/\a.tmps.size=a0.tmps.size/\a.defers=a0.defers/\(∀k,k<ds.length->l.getD k false=true->Φ k (a.eval (.tmp (ds.getD k 0))) w)/\(∀k,k<ds.length->l.getD k false=false->a.eval (.tmp (ds.getD k 0))=a0.eval (.tmp (ds.getD k 0)))/\(∀(j:Nat) (p:Oper),ops[j]? =some p->l.getD j false=true-> ∀e∈p.after,Region.binds .any e=true->l.getD e.on false=true)) hm ?_ ?_ ?_
  · refine⟨by rw[Array.size_replicate];exact G.size,h0,atDoor_start a0 ds,rfl,rfl,fun k hk h=> ?_,fun k hk _=>rfl,fun j p _ h=> ?_⟩
    · exfalso
      by_cases h2:k<ops.size<;>simp[h2]at h
    · exfalso
      by_cases h2:j<ops.size<;>simp[h2]at h
  · rintro l a w i ⟨hls,hIw,hAD,hasz,hadf,hF,hU,hC⟩ hi;obtain⟨hun,o,ho,hpre⟩:=mem_ready.1 hi;have hilt:i<ops.size:=(Array.getElem?_eq_some_iff.1 ho).1
    have hin:i<ds.length:=by rw[<-G.size];exact hilt
    have hil:i<l.size:=by omega
    have hdep: ∀e∈o.after,Region.binds .any e=true->Φ e.on (a.eval (.tmp (ds.getD e.on 0))) w:=fun e he hb=>hF e.on (Nat.lt_trans (G.back i o ho e he) hin) (hpre e he hb)
    have hnext: ∀v w',Φ i v w'->Below w.heap.size w w'->(l.setIfInBounds i true).size=ds.length/\I w'/\AtDoor a0 ds (a.put o.dst v).eval/\(a.put o.dst v).tmps.size=a0.tmps.size/\(a.put o.dst v).defers=a0.defers/\(∀k,k<ds.length->(l.setIfInBounds i true).getD k false=true->Φ k ((a.put o.dst v).eval (.tmp (ds.getD k 0))) w')/\(∀k,k<ds.length->(l.setIfInBounds i true).getD k false=false->(a.put o.dst v).eval (.tmp (ds.getD k 0))=a0.eval (.tmp (ds.getD k 0)))/\(∀(j:Nat) (p:Oper),ops[j]? =some p->(l.setIfInBounds i true).getD j false=true-> ∀e∈p.after,Region.binds .any e=true->(l.setIfInBounds i true).getD e.on false=true):=fun v w' hphi hb=>by
      rw[G.dst i o ho];refine⟨by rw[Array.size_setIfInBounds];exact hls,hI w w' hIw hb,hAD.put (fds_mem hin) v,?_,hadf,fun k hk hkl=> ?_,fun k hk hkl=> ?_,fun j p hp hjl e he hb2=>(getD_set_iff hil).mpr (.inr ?_)⟩
      · show(a.tmps.setIfInBounds _ _).size=_
        rw[Array.size_setIfInBounds];exact hasz
      · by_cases hki:k=i
        · subst hki;rw[eval_put_same _ _ _ (by rw[hasz];exact hsz _ (fds_mem hin))]
          exact hphi
        · rw[eval_put_other _ _ _ _ (fun e=>hki (fds_inj G.nodup hk hin e))]
          exact hΦ k _ _ _ (hF k hk ((listed_set hkl).resolve_left hki)) hb
      · have hki:k≠i:=fun e=>by
          have h2:=(getD_set_iff (k:=k) hil).mpr (.inl e);rw[hkl]at h2;cases h2
        rw[eval_put_other _ _ _ _ (fun e=>hki (fds_inj G.nodup hk hin e))]
        refine hU k hk ?_
        cases h:l.getD k false with
        |false=>rfl
        | true =>
          have h2:=(getD_set_iff (k:=k) hil).mpr (.inr h);rw[hkl]at h2;cases h2
      · rcases(getD_set_iff hil).mp hjl with rfl|h
        · rw[ho]at hp;obtain rfl:=Option.some.inj hp;exact hpre e he hb2
        · exact hC j p hp h e he hb2
    have hlate: ∀(j:Nat) (p:Oper),ops[j]? =some p->(p.after.any fun e=>e.on==i&&Region.binds .any e)=true->a.eval (.tmp (ds.getD j 0))=a0.eval (.tmp (ds.getD j 0)):=fun j p hp hany=>by
      obtain⟨e,he,h8⟩:=Array.any_eq_true'.1 hany;rw[Bool.and_eq_true,beq_iff_eq]at h8;refine hU j (by rw[<-G.size];exact(Array.getElem?_eq_some_iff.1 hp).1) ?_
      cases h:l.getD j false with
      |false=>rfl
      | true =>
        have h2:=hC j p hp h e he h8.2;rw[h8.1]at h2
        exfalso
        simp[hil]at h2 hun;rw[h2]at hun;cases hun
    unfold wpOp;rw[ho];have hyield: ∀g b,o.guard=some (g,b)->yielded ops a.tmps g=some (if wt.getD i true=true then b else !b):=fun g b hg=>by
      obtain⟨hgi,e,he,h1,h2⟩:=G.guard i o g b ho hg;have hv:=hW i o g b ho hg _ _ (by have:=hdep e he h2;rwa [h1]at this)
      obtain⟨og,hog⟩: ∃og,ops[g]? =some og:=⟨_,Array.getElem?_eq_getElem (by omega)⟩
      unfold yielded;rw[hog,Option.bind_some,G.dst g og hog,Option.bind_some];have hlt:ds.getD g 0<a.tmps.size:=by rw[hasz];exact hsz _ (fds_mem (by omega))
      rw[Array.getElem?_eq_getElem hlt]
      have:a.tmps[ds.getD g 0]= .bool (if wt.getD i true=true then b else !b):=by
        rw[<-hv];show _=a.tmps.getD (ds.getD g 0) undef
        rw[Array.getD_eq_getD_getElem?,Array.getElem?_eq_getElem hlt]
        rfl
      rw[this]
    cases hw:wt.getD i true with
    | true =>
      have hwant:Region.wanted o (yielded ops a.tmps)=true:=by
        unfold Region.wanted;cases hg:o.guard with
        |none=>rfl
        | some gb =>
          obtain⟨g,b⟩:=gb;show(yielded ops a.tmps g==some b)=true
          rw[hyield g b hg,hw];simp
      simp only[hwant,if_true];exact .inl (hstep i o ho hw a w hIw hAD hdep hlate _ hnext)
    | false =>
      have hwant:Region.wanted o (yielded ops a.tmps)=false:=by
        unfold Region.wanted;cases hg:o.guard with
        | none =>
          have:=G.free i o ho hg;rw[hw]at this;cases this
        | some gb =>
          obtain⟨g,b⟩:=gb;show(yielded ops a.tmps g==some b)=false
          rw[hyield g b hg,hw];cases b<;>rfl
      simp only[hwant];exact hnext undef w (hskip i hw w) (Below.refl _ _)
  · rintro l a w ⟨hls,hIw,hAD,hasz,hadf,hF,_,_⟩ hr;have hall:=all_listed (by rw[hls,G.size]) G.back hr
    rw[act_fill hAD hasz hadf];exact hend (fun t=>a.eval (.tmp t)) w hIw fun k hk=>hF k hk (hall k (by rw[G.size];exact hk))
theorem wp_region_late(ds:List Nat)(wt:List Bool)(gv:List (Nat×Bool)){id:Nat}{a0:Act}{w0:World}(hm:P.follows .mixedOrders=true)(hG:factsB ops ds wt=true)(hgB:guardsB ops wt gv=true)(hsz: ∀d∈ds,d<a0.tmps.size)
  (I:World->Prop) (Φ:Nat->Value->World->Prop)
  (hI: ∀w w',I w->Below w.heap.size w w'->I w') (hΦ: ∀k v w w',Φ k v w->Below w.heap.size w w'->Φ k v w')
  (h0:I {w0 with drawn:=w0.drawn+1})
  (hgv: ∀p∈gv,∀v w,Φ p.1 v w->v= .bool p.2)
  (hskip: ∀k,wt.getD k true=false-> ∀w,Φ k undef w)
  (hstep: ∀ (k: Nat) (o: Oper),ops[k]? = some o -> wt.getD k true = true -> ∀ (a: Act) (w: World),I w -> AtDoor a0 ds a.eval -> (∀ e ∈ o.after,Region.binds .any e = true -> Φ e.on (a.eval (.tmp (ds.getD e.on 0))) w) ->
   (∀(j:Nat) (p:Oper),ops[j]? =some p->(p.after.any fun e=>e.on==k&&Region.binds .any e)=true->a.eval (.tmp (ds.getD j 0))=a0.eval (.tmp (ds.getD j 0)))->
   ∀K:Act->World->Prop,(∀v w',Φ k v w'->Below w.heap.size w w'->K (a.put o.dst v) w')->o.wp P a w K Q)
  (hend: ∀(vals:Nat->Value) (w:World),I w->(∀k,k<ds.length->Φ k (vals (ds.getD k 0)) w)->Q .normal ⟨(fillA a0 ds vals).toArray,a0.defers⟩ w):
  (Code.region id ops true).wp P Q a0 w0:=
 wp_region_late0 ds wt hm hG hsz I Φ hI hΦ h0 (fun k o g b ho hg v w hv=>by
  have hk:k<ops.size:=(Array.getElem?_eq_some_iff.1 ho).1
  have:=List.all_eq_true.1 hgB k (List.mem_range.2 hk);rw[ho]at this;simp only[hg]at this;obtain⟨p,hp,h2⟩:=List.any_eq_true.1 this;rw[Bool.and_eq_true,beq_iff_eq,beq_iff_eq]at h2;rw[<-h2.2];exact hgv p hp v w (by rw[h2.1];exact hv)) hskip hstep hend
end
end Go.Proofs.YtngdbbligebcbabGreatDoor
