import Derived.Test.YtngdbbligebcbabGreatDoorZM34
import Derived.Test.YtngdbbligebcbabGreatDoorZStealCopied
import Derived.Test.YtngdbbligebcbabGreatDoorZStealBegin
set_option linter.unusedVariables false
set_option linter.unusedSimpArgs false
set_option maxRecDepth 100000
set_option maxHeartbeats 16000000
namespace Go.Proofs.YtngdbbligebcbabGreatDoor
open Go Go.RowKit
section
variable {base gw m: Nat} {g: Gng} {L: List Int} {ad: GAd} {W: List Int} {E: List (Int × Int)} {WA: Option Addr} {Wn Wc: Nat} {EF: Option Addr} {Em Ed: Nat} {picks: List Int} {AP: Option Addr} {nP cP: Nat}
theorem pick_here{l:List Nat}{k:Nat}{last p:Int}(h0:l≠ [])(hp:picks[k]? =some p):l[(max p 0).toNat%l.length]? =some (pickG l picks k last):=by
 have hk:k<picks.length:=(List.getElem?_eq_some_iff.mp hp).1
 unfold pickG;rw[if_pos hk];have e:picks.getD k 0=p:=by rw[List.getD_eq_getElem?_getD,hp];rfl
 rw[e];have hl:=Nat.mod_lt (max p 0).toNat (List.length_pos_iff.mpr h0);rw[List.getD_eq_getElem?_getD,List.getElem?_eq_getElem hl];rfl
theorem calm_any(w:World)(hok:GOk W.length m E L g)(h0: ∀c,c<m->(g.tk c).at_=0)(hM:May W E)(hT:DTab w)(hg:IsGrS w base WA Wn Wc EF Em Ed W E)
  (hp:picks.length=nP) (hp2:nP<=1000) (hP:Ints w base AP picks) (h:IsWk w base gw m g L ad (.slice WA Wn Wc) (.slice EF Em Ed)):
  Calls Tryz.prog 33 #[.pointer (some ⟨gw,0,none⟩),.slice AP nP cP] w fun e w'=>e= .returned (.tuple #[.int .i64 (lenC m g picks:Nat),.int .i64 0])/\ ∃Rv',IsWk w' base gw m (calmG m g picks) L {ad with Rv:=Rv'} (.slice WA Wn Wc) (.slice EF Em Ed)/\Kp [ad.gO,ad.gD,ad.gF,ad.gT] w w':=by
 have hm8:m<=8:=by rw[<-hok.ol];exact hok.crew.hi
 obtain⟨s1,s2,s3,s4⟩:=calm_spec (picks:=picks) hok h0;have HINV:=Lib.hid (fun k (hk:k<=lenC m g picks)=>(CalmInv.upto hok h0 k fun j hj=>s2 j (by omega)).ok)
 obtain⟨N,hN⟩: ∃N,N=lenC m g picks:=⟨_,rfl⟩;have hfin:calmG m g picks=(calmS m g picks N).1:=by rw[hN];rfl
 rw[hfin,<-hN];rw[hfin]at s1;rw[<-hN]at HINV s2 s3;have hm3:m * (m * (4 * m+4)+4 * m)<=1000000:=by
  have:=calm_most hok.m1;have h8:8 * m * m * (m+1)<=8 * 8 * 8 * 9:=Nat.mul_le_mul (Nat.mul_le_mul (Nat.mul_le_mul_left 8 hm8) hm8) (by omega)
  omega
 have hN6:N<=1000000:=by omega
 have HS1:=Lib.hid s1;have HS2:=Lib.hid s2;obtain⟨vW,hvW⟩: ∃v,v=Value.slice WA Wn Wc:=⟨_,rfl⟩;obtain⟨vE,hvE⟩: ∃v,v=Value.slice EF Em Ed:=⟨_,rfl⟩;rw[<-hvW,<-hvE]at h⊢;have HVW:=Lib.hid hvW;have HVE:=Lib.hid hvE;have HG:=Lib.hid hg;have HT:=Lib.hid hT;have HP:=Lib.hid hP;have HPL:=Lib.hid hp;have HM:=Lib.hid hM;have H:=Lib.hid h;have HLT:=Lib.hid h.gng.lts;have HBS:Hid (base<=w.heap.size):=Lib.hid (by have:=h.gng.lts;omega)
 have CW:=Lib.hid (wants_any w h.gng.r hm8);have q0:w.cell? ⟨gw,0,none⟩=some (.slice (some ⟨ad.gO,0,none⟩) m ad.cO):=h.row.cell rfl
 have q1:w.cell? ⟨gw,1,none⟩=some ad.vL:=h.row.cell rfl
 have q2:w.cell? ⟨gw,2,none⟩=some (.slice (some ⟨ad.gD,0,none⟩) m ad.cD):=h.row.cell rfl
 have q3:w.cell? ⟨gw,3,none⟩=some (.slice (some ⟨ad.gT,0,none⟩) m ad.cT):=h.row.cell rfl
 have q4:w.cell? ⟨gw,4,none⟩=some (.slice (some ⟨ad.gF,0,none⟩) m ad.cF):=h.row.cell rfl
 clear hok h0 hM hT hg hP h hvW hvE s1 s2 s3 s4 hN hfin hm3;go_enter Tryz.func33,Tryz.ntmps33;go_wp2_with fail;refine CW.out.mono ?_
 rintro e w1 ⟨A1,c1,rfl,ho,hb⟩;have HI1:=Lib.hid ho.ints;have HB1:=Lib.hid hb;have W1:=Lib.hid (H.out.below hb);clear ho hb CW q0 q1 q2 q3 q4;go_wp2_with fail
 go_loopg [6,7,8] N (fun gk s co l wr=> ∃(k q:Nat) (R':Nat->Value) (A:Option Addr) (c:Nat),gk+k=N/\s= .int .i64 k/\co= .int .i64 (calmS m g picks k).2/\l= .slice A q c/\Hid (q=(nums (wantsG m (calmS m g picks k).1)).length)/\Hid (Ints wr wr.heap.size A (nums (wantsG m (calmS m g picks k).1)))/\Hid (IsWk wr base gw m (calmS m g picks k).1 L {ad with Rv:=R'} vW vE)/\Hid (Kp [ad.gO,ad.gD,ad.gF,ad.gT] w wr))
 case atStart=>exact⟨0,_,ad.Rv,A1,c1,rfl,rfl,rfl,rfl,Lib.hid rfl,HI1,W1,Lib.hid (Kp.of_below HB1.out _)⟩
 case round=>
  clear HI1 HB1 W1;obtain⟨k,q,R',A,c,hgk,rfl,rfl,rfl,HQ,HI,HW,HK⟩:=hrel;obtain⟨gk',hgk'⟩: ∃z,z=(calmS m g picks k).1:=⟨_,rfl⟩;obtain⟨last,hlast⟩: ∃z,z=(calmS m g picks k).2:=⟨_,rfl⟩;rw[<-hgk']at HQ HI HW;rw[<-hlast];have HGK:=Lib.hid hgk';have HLA:=Lib.hid hlast;clear hgk' hlast
  by_cases hkN:k<N
  ·have hwne: wantsG m gk' ≠ []:=by rw [HGK.out]; exact HS2.out k hkN
   have hq0:0<q:=by rw[HQ.out,nums_length];exact List.length_pos_iff.mpr hwne
   have HWN:=Lib.hid hwne;have d0:decide (0<q)=true:=decide_eq_true hq0;have d0':decide ((0:Int)<(q:Int))=true:=decide_eq_true (by omega)
   obtain⟨cc,hcc⟩: ∃z,z=pickG (wantsG m gk') picks k last:=⟨_,rfl⟩;have HCC:=Lib.hid hcc;have hq8:q<=8:=by
    rw[HQ.out,nums_length];unfold wantsG;exact Nat.le_trans (List.length_filter_le _ _) (by rw[List.length_range];exact hm8)
   have HBW:Hid (Below base w wr):=Lib.hid (HK.out.below (fun b hb=>by have:=HLT.out;simp at hb;omega) HBS.out)
   clear hwne hcc
   go_upto_if 26 with fail
   go_cut [7]from 15 to 48 (fun v wx=>v= .int .i64 (cc:Nat)/\Hid (Below wr.heap.size wr wx))
   case first=>
    by_cases hkp:k<nP
    ·have d1: decide (k < nP) = true:=decide_eq_true hkp
     have d1':decide ((k:Int)<(nP:Int))=true:=decide_eq_true (by omega)
     obtain⟨bb,off,p,hA0,hbb,hx,hcl⟩:=(HP.out.below HBW.out).at_ (k:=k) (by rw[HPL.out];exact hkp)
     subst hA0;have hpk:=pick_here (l:=wantsG m gk') (last:=last) HWN.out hx;rw[<-HCC.out]at hpk;have hnk: ¬((nP:Int)<=(k:Int)):=by omega
     have hq00: ¬q=0:=by omega
     by_cases hp0:p<0
     ·have d2: decide (p < 0) = true:=decide_eq_true hp0
      have e0:(max p 0).toNat%(wantsG m gk').length=0:=by rw[show max p 0=0 by omega];rfl
      have hmx:max p (0:Int)=0:=by omega
      rw[e0]at hpk;obtain⟨b2,o2,z,hA2,_,hx2,hcl2⟩:=HI.out.at_ (k:=0) (by rw[<-HQ.out];exact hq0)
      obtain rfl:z=(cc:Int):=by
       rw[nums_at hpk]at hx2;exact(Option.some.inj hx2).symm
      subst hA2;simp only[Nat.add_zero]at hcl2;have htm0:(0:Int).tmod (q:Int)=0:=Int.zero_tmod _;have hnx0: ¬((q:Int)<=0):=by omega
      clear hx hx2 hpk;go_wp2_with fail
      go_meet
      case rel=>exact⟨by first|rfl|simp,Lib.hid (Below.refl _ _)⟩
     ·have d2: decide (p < 0) = false:=decide_eq_false hp0
      obtain⟨pn,rfl⟩: ∃pn:Nat,p=pn:=⟨p.toNat,by omega⟩
      have e0:(max (pn:Int) 0).toNat%(wantsG m gk').length=pn%q:=by
       rw[show max (pn:Int) 0=(pn:Int) by omega,Int.toNat_natCast,HQ.out,nums_length]
      rw[e0]at hpk;have hlt:pn%q<q:=Nat.mod_lt _ hq0;obtain⟨b2,o2,z,hA2,_,hx2,hcl2⟩:=HI.out.at_ (k:=pn%q) (by rw[<-HQ.out];exact hlt)
      obtain rfl:z=(cc:Int):=by
       rw[nums_at hpk]at hx2;exact(Option.some.inj hx2).symm
      subst hA2;have hnx: ¬((q:Int)<=(pn:Int)%(q:Int)):=by omega
      clear hx hx2 hpk e0;go_wp2_with fail
      go_meet
      case rel=>exact⟨by first|rfl|simp,Lib.hid (Below.refl _ _)⟩
    ·have d1: decide (k < nP) = false:=decide_eq_false hkp
     have d1':decide ((k:Int)<(nP:Int))=false:=decide_eq_false (by omega)
     have hcv:cc=aboveG (wantsG m gk') last:=by
      rw[HCC.out];unfold pickG;rw[if_neg (by rw[HPL.out];exact hkp)]
     have CAb:=Lib.hid (above_any A c q (wantsG m gk') last wr (by rw[HQ.out,nums_length]) (by omega) HWN.out HI.out)
     rw[<-hcv]at CAb;clear hcv;go_wp2_with fail;refine CAb.out.mono ?_
     rintro e w2 ⟨rfl,hb⟩;have HB2:=Lib.hid hb;clear hb CAb;go_wp2_with fail
     go_meet
     case rel=>exact⟨rfl,HB2⟩
   case rest=>
    obtain⟨rfl,HB2⟩:=hcut;have hmem:cc∈wantsG m gk':=by rw[HCC.out];exact pick_mem HWN.out picks k last
    obtain⟨hcm,hidle,_⟩:=mem_wants.mp hmem;have W2:=Lib.hid (HW.out.below HB2.out);have HBB:=Lib.hid (HBW.out.trans (HB2.out.mono (Nat.le_trans HBS.out HK.out.size)));have CS:=Lib.hid (step_any wc hcm hidle (by rw[HGK.out];exact HINV.out k (by omega)) HM.out (Tab64.below HT.out HBB.out HG.out.tb) (HG.out.below HBB.out) (by rw[<-HVW.out,<-HVE.out];exact W2.out))
    rw[<-HVW.out,<-HVE.out]at CS;have HK2:=Lib.hid (HK.out.trans (Kp.of_below HB2.out _));have hst:stepG m gk' cc=(calmS m g picks (k+1)).1:=by rw[HGK.out,HCC.out,HGK.out,HLA.out];rfl
    have hsl:(cc:Int)=(calmS m g picks (k+1)).2:=by rw[HCC.out,HGK.out,HLA.out];rfl
    rw[hst]at CS;have HSL:=Lib.hid hsl;clear hmem hst hsl W2 HBB HBW HW HI HB2;go_wp2_with fail;refine CS.out.mono ?_
    rintro e w3 ⟨rfl,R3,hw3,hk3⟩;have W3:=Lib.hid hw3;have HK3:=Lib.hid (HK2.out.trans (hk3.more (by simp)))
    have CW:=Lib.hid (wants_any w3 hw3.gng.r hm8);have q0:w3.cell? ⟨gw,0,none⟩=some (.slice (some ⟨ad.gO,0,none⟩) m ad.cO):=hw3.row.cell rfl
    have q1:w3.cell? ⟨gw,1,none⟩=some ad.vL:=hw3.row.cell rfl
    have q2:w3.cell? ⟨gw,2,none⟩=some (.slice (some ⟨ad.gD,0,none⟩) m ad.cD):=hw3.row.cell rfl
    have q3:w3.cell? ⟨gw,3,none⟩=some (.slice (some ⟨ad.gT,0,none⟩) m ad.cT):=hw3.row.cell rfl
    have q4:w3.cell? ⟨gw,4,none⟩=some (.slice (some ⟨ad.gF,0,none⟩) m ad.cF):=hw3.row.cell rfl
    clear hw3 hk3 CS HK2;go_wp2_with fail;refine CW.out.mono ?_
    rintro e w4 ⟨A4,c4,rfl,ho,hb⟩;have HI4:=Lib.hid ho.ints;have HK4:=Lib.hid (HK3.out.trans (Kp.of_below hb _));have W4:=Lib.hid (W3.out.below hb);clear ho hb CW q0 q1 q2 q3 q4 W3 HK3;go_wp2_with fail
    go_roundg (N - (k+1))
    case measure=>omega
    case rel=>exact⟨k+1,_,R3,A4,c4,by omega,by simp,by rw[HSL.out],rfl,Lib.hid rfl,HI4,W4,HK4⟩
  ·have hkN2: k = N:=by omega
   subst hkN2;have hw0:wantsG m gk'= []:=by rw[HGK.out];exact HS1.out
   have hq0:q=0:=by rw[HQ.out,nums_length,hw0];rfl
   subst hq0;rw[HGK.out]at HW;clear hw0 HI HQ;go_wp2;refine bodyPost_ret (results_tmp2 rfl _ _ _) rfl ?_
   exact⟨rfl,R',HW.out,HK.out⟩
end
theorem gg_info:(Tryz.prog.info? 41).map (·.size)=some 5:=by kernel_rfl
theorem load_gg{w:World}{q:Nat}{cs:List Value}(h:RowV q 41 cs w)(hl:cs.length=5):(loadVar 41 ⟨q,0,none⟩).run Tryz.prog w= .ok (.agg cs.toArray) w:=
 run_loadVar_row _ q _ _ _ _ _ h Tryz.underlying41 rfl (by rw[gg_info];simp[hl])
theorem results_cellG{fn:Func}{p u t:Tmp}{ty:TypeId}(h:fn.results= #[.cell p ty,.tmp u,.tmp t])(tmps:Array Value)(P:Program)(w:World):
  (results fn tmps).run P w=((asAddr (tmps.getD p undef)).run P w).andThen fun a w₁=>((loadVar ty a).run P w₁).andThen fun v w₂=> .ok (.tuple #[v,tmps.getD u undef,tmps.getD t undef]) w₂:=by
 simp only[results,h];simp[Sem.run_bind,Result.andThen]
theorem ret_g2{fn:Func}{p u t:Tmp}(h:fn.results= #[.cell p 41,.tmp u,.tmp t]){tmps:Array Value}{w:World}{q:Nat}{cs:List Value}{x y:Value}(hp:tmps.getD p undef= .pointer (some ⟨q,0,none⟩))(hu:tmps.getD u undef=x)(ht:tmps.getD t undef=y)(h1:RowV q 41 cs w)(l1:cs.length=5):
  (results fn tmps).run Tryz.prog w= .ok (.tuple #[.agg cs.toArray,x,y]) w:=by
 rw[results_cellG h,hp,hu,ht];simp[asAddr,load_gg h1 l1,Result.andThen]
section
variable {base m: Nat} {g: Gng} {L: List Int} {ad: GAd} {picks: List Int} {AP: Option Addr} {nP cP: Nat}
theorem IsGng.los{w:World}(h:IsGng w base m g L ad):base<=ad.gO/\base<=ad.gD/\base<=ad.gF/\base<=ad.gT:=
 ⟨(rowN_lt h.onF.1).1,(rowN_lt h.dqs).1,(rowN_lt h.onF.2).1,(rowN_lt h.tks).1⟩
theorem gcalm_any{E:List (Int×Int)}{W:List Int}{AW FE:Option Addr}{nW cW mE dE:Nat}(w:World)(hok:GOk W.length m E L g)(h0: ∀c,c<m->(g.tk c).at_=0)(h:GngR w base m g L ad)(hT:DTab w)(hg:IsG w AW nW cW FE mE dE W E)(hM:May W E)
  (hp:picks.length=nP) (hp2:nP<=1000) (hP:Ints w w.heap.size AP picks):
  Calls Tryz.prog 18 #[.agg #[.slice AW nW cW,.slice FE mE dE],.agg #[.slice (some ⟨ad.gO,0,none⟩) m ad.cO,ad.vL,.slice (some ⟨ad.gD,0,none⟩) m ad.cD,.slice (some ⟨ad.gT,0,none⟩) m ad.cT,.slice (some ⟨ad.gF,0,none⟩) m ad.cF],.slice AP nP cP] w fun e w'=>
   ∃a',e= .returned (.tuple #[.agg (gangC m a').toArray,.int .i64 (lenC m g picks:Nat),.int .i64 0])/\IsGng w' w.heap.size m (calmG m g picks) L a'/\Below w.heap.size w w':=by
 have hm8:m<=8:=by rw[<-hok.ol];exact hok.crew.hi
 have hm1:=hok.m1;have hll:L.length<=1000:=by have:=hok.crew.ln;have:=hok.n64;omega
 have hrl: ∀j,j<m->(g.R j).length<=1000:=fun j hj=>by rw[hok.rl j hj];decide
 obtain⟨w1,hw1⟩: ∃w1,w1=((w.alloc (.cells #[.slice AW nW cW,.slice FE mE dE] 25)).alloc (.cells #[.slice (some ⟨ad.gO,0,none⟩) m ad.cO,ad.vL,.slice (some ⟨ad.gD,0,none⟩) m ad.cD,.slice (some ⟨ad.gT,0,none⟩) m ad.cT,.slice (some ⟨ad.gF,0,none⟩) m ad.cF] 41)).alloc (.cells #[.slice none 0 0,.slice none 0 0,.slice none 0 0,.slice none 0 0,.slice none 0 0] 41):=⟨_,rfl⟩;have hb1:Below w.heap.size w w1:=by rw[hw1];exact(((Below.refl _ _).alloc (Nat.le_refl _) _).alloc (by simp) _).alloc (by simp;omega) _
 have HB1:=Lib.hid hb1;have HD1:Hid (RowV w.heap.size 25 [.slice AW nW cW,.slice FE mE dE] w1):=Lib.hid (by rw[hw1];exact((RowV.new w _ [.slice AW nW cW,.slice FE mE dE]).alloc _).alloc _)
 have HR1:Hid (RowV (w.heap.size+1) 41 (gangC m ad) w1):=Lib.hid (by
  rw[hw1];have:=(RowV.new (w.alloc (.cells #[.slice AW nW cW,.slice FE mE dE] 25)) 41 (gangC m ad)).alloc (.cells #[.slice none 0 0,.slice none 0 0,.slice none 0 0,.slice none 0 0,.slice none 0 0] 41)
  simpa[gangC,GAd.vO,GAd.vD,GAd.vT,GAd.vF]using this)
 have HZ1:Hid (RowV (w.heap.size+1+1) 41 [.slice none 0 0,.slice none 0 0,.slice none 0 0,.slice none 0 0,.slice none 0 0] w1):=Lib.hid (by
  rw[hw1];have:=RowV.new ((w.alloc (.cells #[.slice AW nW cW,.slice FE mE dE] 25)).alloc (.cells #[.slice (some ⟨ad.gO,0,none⟩) m ad.cO,ad.vL,.slice (some ⟨ad.gD,0,none⟩) m ad.cD,.slice (some ⟨ad.gT,0,none⟩) m ad.cT,.slice (some ⟨ad.gF,0,none⟩) m ad.cF] 41)) 41 [.slice none 0 0,.slice none 0 0,.slice none 0 0,.slice none 0 0,.slice none 0 0]
  simpa using this)
 have hG1:=h.below hb1;have hg1:=hg.below hb1;have hT1:=hT.via hb1;have hP1:=hP.below hb1;have CC:=Lib.hid (gcheck_any w1 hok hG1 hm8 hT1 hg1 hM rfl);have CP:=Lib.hid (fun(W':World) (hb:Below w1.heap.size w1 W')=>scopied_any (vW:=.slice AW nW cW) (vE:=.slice FE mE dE) W' hm1 hm8 hll hrl (hG1.below hb))
 have CM:Hid (∀(W2 W3:World) (gw:Nat) (a2:GAd),Below w1.heap.size w1 W2->Below W2.heap.size W2 W3->IsWk W3 W2.heap.size gw m g L a2 (.slice AW nW cW) (.slice FE mE dE)->
   Calls Tryz.prog 33 #[.pointer (some ⟨gw,0,none⟩),.slice AP nP cP] W3 fun e w'=>e= .returned (.tuple #[.int .i64 (lenC m g picks:Nat),.int .i64 0])/\ ∃Rv',IsWk w' W2.heap.size gw m (calmG m g picks) L {a2 with Rv:=Rv'} (.slice AW nW cW) (.slice FE mE dE)/\Kp [a2.gO,a2.gD,a2.gF,a2.gT] W3 w'):=Lib.hid fun W2 W3 gw a2 hb2 hb3 hwk=>by
  have hb13:=hb2.trans (hb3.mono hb2.size);have hg2:=hg1.below hb2;exact calm_any W3 hok h0 hM (hT1.via hb13) ((IsGrS.of hg2).below hb3) hp hp2 ((hP1.below (hb13.mono hb1.size)).more (Nat.le_trans hb1.size hb2.size)) hwk
 have HW1:=Lib.hid hw1;clear h hT hg hM hok hG1 hg1 hT1 hP1 hw1 hb1 hP hp hp2 h0 hrl hll hm1 hm8;go_enter Tryz.func18,Tryz.ntmps18;go_upto_region 1 with fail;rw[<-HW1.out];have p0:w1.cell? ⟨w.heap.size,0,none⟩=some (.slice AW nW cW):=HD1.out.cell rfl
 have p1:w1.cell? ⟨w.heap.size,1,none⟩=some (.slice FE mE dE):=HD1.out.cell rfl
 have r0:w1.cell? ⟨w.heap.size+1,0,none⟩=some (.slice (some ⟨ad.gO,0,none⟩) m ad.cO):=HR1.out.cell rfl
 have r1:w1.cell? ⟨w.heap.size+1,1,none⟩=some ad.vL:=HR1.out.cell rfl
 have r2:w1.cell? ⟨w.heap.size+1,2,none⟩=some (.slice (some ⟨ad.gD,0,none⟩) m ad.cD):=HR1.out.cell rfl
 have r3:w1.cell? ⟨w.heap.size+1,3,none⟩=some (.slice (some ⟨ad.gT,0,none⟩) m ad.cT):=HR1.out.cell rfl
 have r4:w1.cell? ⟨w.heap.size+1,4,none⟩=some (.slice (some ⟨ad.gF,0,none⟩) m ad.cF):=HR1.out.cell rfl
 go_upto_region 4 with(go_at_call 23;refine CC.out.mono ?_;rintro e w2 ⟨rfl,hb⟩;(have HB2:=Lib.hid hb);clear hb p0 p1 r0 r1 r2 r3 r4 CC)
 have R2:=Lib.hid (HR1.out.below HB2.out HR1.out.lt);have D2:=Lib.hid (HD1.out.below HB2.out HD1.out.lt);have p0:w2.cell? ⟨w.heap.size,0,none⟩=some (.slice AW nW cW):=D2.out.cell rfl
 have p1:w2.cell? ⟨w.heap.size,1,none⟩=some (.slice FE mE dE):=D2.out.cell rfl
 have r0:w2.cell? ⟨w.heap.size+1,0,none⟩=some (.slice (some ⟨ad.gO,0,none⟩) m ad.cO):=R2.out.cell rfl
 have r1:w2.cell? ⟨w.heap.size+1,1,none⟩=some ad.vL:=R2.out.cell rfl
 have r2:w2.cell? ⟨w.heap.size+1,2,none⟩=some (.slice (some ⟨ad.gD,0,none⟩) m ad.cD):=R2.out.cell rfl
 have r3:w2.cell? ⟨w.heap.size+1,3,none⟩=some (.slice (some ⟨ad.gT,0,none⟩) m ad.cT):=R2.out.cell rfl
 have r4:w2.cell? ⟨w.heap.size+1,4,none⟩=some (.slice (some ⟨ad.gF,0,none⟩) m ad.cF):=R2.out.cell rfl
 go_upto_region 5 with(go_at_call 43;refine(CP.out _ HB2.out).mono ?_;rintro e w3 ⟨gw,a2,rfl,hwk,hb⟩;(have HB3:=Lib.hid hb);(have HWK:=Lib.hid hwk);clear hb hwk p0 p1 r0 r1 r2 r3 r4 CP)
 go_upto_region 8 with(go_at_call 33;refine(CM.out _ _ _ _ HB2.out HB3.out HWK.out).mono ?_;rintro e w4 ⟨rfl,Rv',hwk,hkp⟩;(have HW4:=Lib.hid hwk);(have HK4:=Lib.hid hkp);clear hwk hkp CM)
 have hs2:w.heap.size+1+1<w2.heap.size:=Nat.lt_of_lt_of_le HZ1.out.lt HB2.out.size;have hlo:=HWK.out.gng.los;have HZ4:Hid (RowV (w.heap.size+1+1) 41 [.slice none 0 0,.slice none 0 0,.slice none 0 0,.slice none 0 0,.slice none 0 0] w4):=Lib.hid (HK4.out.row (((HZ1.out.below HB2.out HZ1.out.lt)).below HB3.out hs2) (by simp;omega))
 have HB4:Hid (Below w.heap.size w w4):=Lib.hid (HB1.out.trans ((HB2.out.trans ((HB3.out.trans (HK4.out.below (by simp;omega) HB3.out.size)).mono HB2.out.size)).mono HB1.out.size))
 have HLO:=Lib.hid hs2;have s0:w4.cell? ⟨gw,0,none⟩=some (.slice (some ⟨a2.gO,0,none⟩) m a2.cO):=HW4.out.row.cell rfl
 obtain⟨AL2,cL2,hvL2,_⟩:=HW4.out.gng.left.slice;replace hvL2:a2.vL= .slice AL2 L.length cL2:=hvL2;have s1:w4.cell? ⟨gw,1,none⟩=some a2.vL:=HW4.out.row.cell rfl
 rw[hvL2]at s1;have HVL2:=Lib.hid hvL2;have s2:w4.cell? ⟨gw,2,none⟩=some (.slice (some ⟨a2.gD,0,none⟩) m a2.cD):=HW4.out.row.cell rfl
 have s3:w4.cell? ⟨gw,3,none⟩=some (.slice (some ⟨a2.gT,0,none⟩) m a2.cT):=HW4.out.row.cell rfl
 have s4:w4.cell? ⟨gw,4,none⟩=some (.slice (some ⟨a2.gF,0,none⟩) m a2.cF):=HW4.out.row.cell rfl
 have z0:=HZ4.out.frozen 0;have z1:=HZ4.out.frozen 1;have z2:=HZ4.out.frozen 2;have z3:=HZ4.out.frozen 3;have z4:=HZ4.out.frozen 4;have t0:=HZ4.out.cell (j:=0) rfl;have t1:=HZ4.out.cell (j:=1) rfl;have t2:=HZ4.out.cell (j:=2) rfl;have t3:=HZ4.out.cell (j:=3) rfl;have t4:=HZ4.out.cell (j:=4) rfl;clear hs2 hlo hvL2;go_wp2_with fail;have hs2:=HLO.out;have f0:=HW4.out.gng.far HZ4.out (by decide) (by decide) (by decide) 0 (.slice (some ⟨a2.gO,0,none⟩) m a2.cO)
 have f1:=f0.far (HZ4.out.set 0 _) (by decide) (by decide) (by decide) 1 (.slice AL2 L.length cL2)
 have f2:=f1.far ((HZ4.out.set 0 _).set 1 _) (by decide) (by decide) (by decide) 2 (.slice (some ⟨a2.gD,0,none⟩) m a2.cD)
 have f3:=f2.far (((HZ4.out.set 0 _).set 1 _).set 2 _) (by decide) (by decide) (by decide) 3 (.slice (some ⟨a2.gT,0,none⟩) m a2.cT)
 have f4:=f3.far ((((HZ4.out.set 0 _).set 1 _).set 2 _).set 3 _) (by decide) (by decide) (by decide) 4 (.slice (some ⟨a2.gF,0,none⟩) m a2.cF)
 have hle:w.heap.size<=w.heap.size+1+1:=by omega
 have hb5:=((((HB4.out.setCell (p:=⟨w.heap.size+1+1,0,none⟩) hle (.slice (some ⟨a2.gO,0,none⟩) m a2.cO)).setCell (p:=⟨w.heap.size+1+1,1,none⟩) hle (.slice AL2 L.length cL2)).setCell (p:=⟨w.heap.size+1+1,2,none⟩) hle (.slice (some ⟨a2.gD,0,none⟩) m a2.cD)).setCell (p:=⟨w.heap.size+1+1,3,none⟩) hle (.slice (some ⟨a2.gT,0,none⟩) m a2.cT)).setCell (p:=⟨w.heap.size+1+1,4,none⟩) hle (.slice (some ⟨a2.gF,0,none⟩) m a2.cF);refine bodyPost_ret (ret_g2 (cs:=[.slice (some ⟨a2.gO,0,none⟩) m a2.cO,.slice AL2 L.length cL2,.slice (some ⟨a2.gD,0,none⟩) m a2.cD,.slice (some ⟨a2.gT,0,none⟩) m a2.cT,.slice (some ⟨a2.gF,0,none⟩) m a2.cF]) rfl rfl rfl rfl (((((HZ4.out.set 0 _).set 1 _).set 2 _).set 3 _).set 4 _) rfl) rfl ⟨{a2 with Rv:=Rv'},?_,f4.down (by omega),hb5⟩
 show Ending.returned (.tuple #[.agg #[.slice (some ⟨a2.gO,0,none⟩) m a2.cO,.slice AL2 L.length cL2,.slice (some ⟨a2.gD,0,none⟩) m a2.cD,.slice (some ⟨a2.gT,0,none⟩) m a2.cT,.slice (some ⟨a2.gF,0,none⟩) m a2.cF],.int .i64 (lenC m g picks:Nat),.int .i64 0])=Ending.returned (.tuple #[.agg #[.slice (some ⟨a2.gO,0,none⟩) m a2.cO,a2.vL,.slice (some ⟨a2.gD,0,none⟩) m a2.cD,.slice (some ⟨a2.gT,0,none⟩) m a2.cT,.slice (some ⟨a2.gF,0,none⟩) m a2.cF],.int .i64 (lenC m g picks:Nat),.int .i64 0])
 rw[HVL2.out]
end
theorem ret_g1{fn:Func}{p u:Tmp}(h:fn.results= #[.cell p 41,.tmp u]){tmps:Array Value}{w:World}{q:Nat}{cs:List Value}{x:Value}(hp:tmps.getD p undef= .pointer (some ⟨q,0,none⟩))(hu:tmps.getD u undef=x)(h1:RowV q 41 cs w)(l1:cs.length=5):
  (results fn tmps).run Tryz.prog w= .ok (.tuple #[.agg cs.toArray,x]) w:=by
 rw[results_cell2 h,hp,hu];simp[asAddr,load_gg h1 l1,Result.andThen]
section
variable {base m: Nat} {g: Gng} {L: List Int} {ad: GAd}
theorem gstep_any{c:Nat}{E:List (Int×Int)}{W:List Int}{AW FE:Option Addr}{nW cW mE dE:Nat}(w:World)(hok:GOk W.length m E L g)(hc:c<m)(hi:g.O.getD c 0= -1)(h:GngR w base m g L ad)(hT:DTab w)(hg:IsG w AW nW cW FE mE dE W E)(hM:May W E):
  Calls Tryz.prog 24 #[.agg #[.slice AW nW cW,.slice FE mE dE],.agg #[.slice (some ⟨ad.gO,0,none⟩) m ad.cO,ad.vL,.slice (some ⟨ad.gD,0,none⟩) m ad.cD,.slice (some ⟨ad.gT,0,none⟩) m ad.cT,.slice (some ⟨ad.gF,0,none⟩) m ad.cF],.int .i64 c] w fun e w'=>
   ∃a',e= .returned (.tuple #[.agg (gangC m a').toArray,.int .i64 0])/\IsGng w' w.heap.size m (stepG m g c) L a'/\Below w.heap.size w w':=by
 have hm8:m<=8:=by rw[<-hok.ol];exact hok.crew.hi
 have hm1:=hok.m1;have hll:L.length<=1000:=by have:=hok.crew.ln;have:=hok.n64;omega
 have hrl: ∀j,j<m->(g.R j).length<=1000:=fun j hj=>by rw[hok.rl j hj];decide
 obtain⟨w1,hw1⟩: ∃w1,w1=((w.alloc (.cells #[.slice AW nW cW,.slice FE mE dE] 25)).alloc (.cells #[.slice (some ⟨ad.gO,0,none⟩) m ad.cO,ad.vL,.slice (some ⟨ad.gD,0,none⟩) m ad.cD,.slice (some ⟨ad.gT,0,none⟩) m ad.cT,.slice (some ⟨ad.gF,0,none⟩) m ad.cF] 41)).alloc (.cells #[.slice none 0 0,.slice none 0 0,.slice none 0 0,.slice none 0 0,.slice none 0 0] 41):=⟨_,rfl⟩;have hb1:Below w.heap.size w w1:=by rw[hw1];exact(((Below.refl _ _).alloc (Nat.le_refl _) _).alloc (by simp) _).alloc (by simp;omega) _
 have HB1:=Lib.hid hb1;have HD1:Hid (RowV w.heap.size 25 [.slice AW nW cW,.slice FE mE dE] w1):=Lib.hid (by rw[hw1];exact((RowV.new w _ [.slice AW nW cW,.slice FE mE dE]).alloc _).alloc _)
 have HR1:Hid (RowV (w.heap.size+1) 41 (gangC m ad) w1):=Lib.hid (by
  rw[hw1];have:=(RowV.new (w.alloc (.cells #[.slice AW nW cW,.slice FE mE dE] 25)) 41 (gangC m ad)).alloc (.cells #[.slice none 0 0,.slice none 0 0,.slice none 0 0,.slice none 0 0,.slice none 0 0] 41)
  simpa[gangC,GAd.vO,GAd.vD,GAd.vT,GAd.vF]using this)
 have HZ1:Hid (RowV (w.heap.size+1+1) 41 [.slice none 0 0,.slice none 0 0,.slice none 0 0,.slice none 0 0,.slice none 0 0] w1):=Lib.hid (by
  rw[hw1];have:=RowV.new ((w.alloc (.cells #[.slice AW nW cW,.slice FE mE dE] 25)).alloc (.cells #[.slice (some ⟨ad.gO,0,none⟩) m ad.cO,ad.vL,.slice (some ⟨ad.gD,0,none⟩) m ad.cD,.slice (some ⟨ad.gT,0,none⟩) m ad.cT,.slice (some ⟨ad.gF,0,none⟩) m ad.cF] 41)) 41 [.slice none 0 0,.slice none 0 0,.slice none 0 0,.slice none 0 0,.slice none 0 0]
  simpa using this)
 have hG1:=h.below hb1;have hg1:=hg.below hb1;have hT1:=hT.via hb1;have CC:=Lib.hid (gcheck_any w1 hok hG1 hm8 hT1 hg1 hM rfl);have CP:=Lib.hid (fun(W':World) (hb:Below w1.heap.size w1 W')=>scopied_any (vW:=.slice AW nW cW) (vE:=.slice FE mE dE) W' hm1 hm8 hll hrl (hG1.below hb))
 have CM:Hid (∀(W2 W3:World) (gw:Nat) (a2:GAd),Below w1.heap.size w1 W2->Below W2.heap.size W2 W3->IsWk W3 W2.heap.size gw m g L a2 (.slice AW nW cW) (.slice FE mE dE)->
   Calls Tryz.prog 50 #[.pointer (some ⟨gw,0,none⟩),.int .i64 c] W3 fun e w'=>e= .returned (.int .i64 0)/\ ∃Rv',IsWk w' W2.heap.size gw m (stepG m g c) L {a2 with Rv:=Rv'} (.slice AW nW cW) (.slice FE mE dE)/\Kp [a2.gO,a2.gD,a2.gF,a2.gT] W3 w'):=Lib.hid fun W2 W3 gw a2 hb2 hb3 hwk=>by
  have hb13:=hb2.trans (hb3.mono hb2.size);have hg2:=hg1.below hb2;exact step_any W3 hc hi hok hM (hT1.via hb13) ((IsGrS.of hg2).below hb3) hwk
 have HW1:=Lib.hid hw1;have HO1:=Lib.hid (fun(W':World) (hb:Below w1.heap.size w1 W')=>(hG1.below hb).onc hc)
 have hn: ¬((m:Int)<=(c:Int)):=by omega
 have HI:=Lib.hid hi;clear h hT hg hM hok hG1 hg1 hT1 hw1 hb1 hi hrl hll hm1 hm8;go_enter Tryz.func24,Tryz.ntmps24;go_upto_region 1 with fail;rw[<-HW1.out];have p0:w1.cell? ⟨w.heap.size,0,none⟩=some (.slice AW nW cW):=HD1.out.cell rfl
 have p1:w1.cell? ⟨w.heap.size,1,none⟩=some (.slice FE mE dE):=HD1.out.cell rfl
 have r0:w1.cell? ⟨w.heap.size+1,0,none⟩=some (.slice (some ⟨ad.gO,0,none⟩) m ad.cO):=HR1.out.cell rfl
 have r1:w1.cell? ⟨w.heap.size+1,1,none⟩=some ad.vL:=HR1.out.cell rfl
 have r2:w1.cell? ⟨w.heap.size+1,2,none⟩=some (.slice (some ⟨ad.gD,0,none⟩) m ad.cD):=HR1.out.cell rfl
 have r3:w1.cell? ⟨w.heap.size+1,3,none⟩=some (.slice (some ⟨ad.gT,0,none⟩) m ad.cT):=HR1.out.cell rfl
 have r4:w1.cell? ⟨w.heap.size+1,4,none⟩=some (.slice (some ⟨ad.gF,0,none⟩) m ad.cF):=HR1.out.cell rfl
 go_upto_region 4 with(go_at_call 23;refine CC.out.mono ?_;rintro e w2 ⟨rfl,hb⟩;(have HB2:=Lib.hid hb);clear hb p0 p1 r0 r1 r2 r3 r4 CC)
 have R2:=Lib.hid (HR1.out.below HB2.out HR1.out.lt);have D2:=Lib.hid (HD1.out.below HB2.out HD1.out.lt);have p0:w2.cell? ⟨w.heap.size,0,none⟩=some (.slice AW nW cW):=D2.out.cell rfl
 have p1:w2.cell? ⟨w.heap.size,1,none⟩=some (.slice FE mE dE):=D2.out.cell rfl
 have r0:w2.cell? ⟨w.heap.size+1,0,none⟩=some (.slice (some ⟨ad.gO,0,none⟩) m ad.cO):=R2.out.cell rfl
 have r1:w2.cell? ⟨w.heap.size+1,1,none⟩=some ad.vL:=R2.out.cell rfl
 have r2:w2.cell? ⟨w.heap.size+1,2,none⟩=some (.slice (some ⟨ad.gD,0,none⟩) m ad.cD):=R2.out.cell rfl
 have r3:w2.cell? ⟨w.heap.size+1,3,none⟩=some (.slice (some ⟨ad.gT,0,none⟩) m ad.cT):=R2.out.cell rfl
 have r4:w2.cell? ⟨w.heap.size+1,4,none⟩=some (.slice (some ⟨ad.gF,0,none⟩) m ad.cF):=R2.out.cell rfl
 have o0:=HO1.out w2 HB2.out;rw[HI.out]at o0;go_upto_region 9 with(go_at_call 43;refine(CP.out _ HB2.out).mono ?_;rintro e w3 ⟨gw,a2,rfl,hwk,hb⟩;(have HB3:=Lib.hid hb);(have HWK:=Lib.hid hwk);clear hb hwk p0 p1 r0 r1 r2 r3 r4 o0 CP)
 go_upto_region 12 with(go_at_call 50;refine(CM.out _ _ _ _ HB2.out HB3.out HWK.out).mono ?_;rintro e w4 ⟨rfl,Rv',hwk,hkp⟩;(have HW4:=Lib.hid hwk);(have HK4:=Lib.hid hkp);clear hwk hkp CM)
 have hs2:w.heap.size+1+1<w2.heap.size:=Nat.lt_of_lt_of_le HZ1.out.lt HB2.out.size;have hlo:=HWK.out.gng.los;have HZ4:Hid (RowV (w.heap.size+1+1) 41 [.slice none 0 0,.slice none 0 0,.slice none 0 0,.slice none 0 0,.slice none 0 0] w4):=Lib.hid (HK4.out.row (((HZ1.out.below HB2.out HZ1.out.lt)).below HB3.out hs2) (by simp;omega))
 have HB4:Hid (Below w.heap.size w w4):=Lib.hid (HB1.out.trans ((HB2.out.trans ((HB3.out.trans (HK4.out.below (by simp;omega) HB3.out.size)).mono HB2.out.size)).mono HB1.out.size))
 have HLO:=Lib.hid hs2;have s0:w4.cell? ⟨gw,0,none⟩=some (.slice (some ⟨a2.gO,0,none⟩) m a2.cO):=HW4.out.row.cell rfl
 obtain⟨AL2,cL2,hvL2,_⟩:=HW4.out.gng.left.slice;replace hvL2:a2.vL= .slice AL2 L.length cL2:=hvL2;have s1:w4.cell? ⟨gw,1,none⟩=some a2.vL:=HW4.out.row.cell rfl
 rw[hvL2]at s1;have HVL2:=Lib.hid hvL2;have s2:w4.cell? ⟨gw,2,none⟩=some (.slice (some ⟨a2.gD,0,none⟩) m a2.cD):=HW4.out.row.cell rfl
 have s3:w4.cell? ⟨gw,3,none⟩=some (.slice (some ⟨a2.gT,0,none⟩) m a2.cT):=HW4.out.row.cell rfl
 have s4:w4.cell? ⟨gw,4,none⟩=some (.slice (some ⟨a2.gF,0,none⟩) m a2.cF):=HW4.out.row.cell rfl
 have z0:=HZ4.out.frozen 0;have z1:=HZ4.out.frozen 1;have z2:=HZ4.out.frozen 2;have z3:=HZ4.out.frozen 3;have z4:=HZ4.out.frozen 4;have t0:=HZ4.out.cell (j:=0) rfl;have t1:=HZ4.out.cell (j:=1) rfl;have t2:=HZ4.out.cell (j:=2) rfl;have t3:=HZ4.out.cell (j:=3) rfl;have t4:=HZ4.out.cell (j:=4) rfl;clear hs2 hlo hvL2;go_wp2_with fail;have hs2:=HLO.out;have f0:=HW4.out.gng.far HZ4.out (by decide) (by decide) (by decide) 0 (.slice (some ⟨a2.gO,0,none⟩) m a2.cO)
 have f1:=f0.far (HZ4.out.set 0 _) (by decide) (by decide) (by decide) 1 (.slice AL2 L.length cL2)
 have f2:=f1.far ((HZ4.out.set 0 _).set 1 _) (by decide) (by decide) (by decide) 2 (.slice (some ⟨a2.gD,0,none⟩) m a2.cD)
 have f3:=f2.far (((HZ4.out.set 0 _).set 1 _).set 2 _) (by decide) (by decide) (by decide) 3 (.slice (some ⟨a2.gT,0,none⟩) m a2.cT)
 have f4:=f3.far ((((HZ4.out.set 0 _).set 1 _).set 2 _).set 3 _) (by decide) (by decide) (by decide) 4 (.slice (some ⟨a2.gF,0,none⟩) m a2.cF)
 have hle:w.heap.size<=w.heap.size+1+1:=by omega
 have hb5:=((((HB4.out.setCell (p:=⟨w.heap.size+1+1,0,none⟩) hle (.slice (some ⟨a2.gO,0,none⟩) m a2.cO)).setCell (p:=⟨w.heap.size+1+1,1,none⟩) hle (.slice AL2 L.length cL2)).setCell (p:=⟨w.heap.size+1+1,2,none⟩) hle (.slice (some ⟨a2.gD,0,none⟩) m a2.cD)).setCell (p:=⟨w.heap.size+1+1,3,none⟩) hle (.slice (some ⟨a2.gT,0,none⟩) m a2.cT)).setCell (p:=⟨w.heap.size+1+1,4,none⟩) hle (.slice (some ⟨a2.gF,0,none⟩) m a2.cF);refine bodyPost_ret (ret_g1 (cs:=[.slice (some ⟨a2.gO,0,none⟩) m a2.cO,.slice AL2 L.length cL2,.slice (some ⟨a2.gD,0,none⟩) m a2.cD,.slice (some ⟨a2.gT,0,none⟩) m a2.cT,.slice (some ⟨a2.gF,0,none⟩) m a2.cF]) rfl rfl rfl (((((HZ4.out.set 0 _).set 1 _).set 2 _).set 3 _).set 4 _) rfl) rfl ⟨{a2 with Rv:=Rv'},?_,f4.down (by omega),hb5⟩
 show Ending.returned (.tuple #[.agg #[.slice (some ⟨a2.gO,0,none⟩) m a2.cO,.slice AL2 L.length cL2,.slice (some ⟨a2.gD,0,none⟩) m a2.cD,.slice (some ⟨a2.gT,0,none⟩) m a2.cT,.slice (some ⟨a2.gF,0,none⟩) m a2.cF],.int .i64 0])=Ending.returned (.tuple #[.agg #[.slice (some ⟨a2.gO,0,none⟩) m a2.cO,a2.vL,.slice (some ⟨a2.gD,0,none⟩) m a2.cD,.slice (some ⟨a2.gT,0,none⟩) m a2.cT,.slice (some ⟨a2.gF,0,none⟩) m a2.cF],.int .i64 0])
 rw[HVL2.out]
end
section
variable {AW FE: Option Addr} {nW cW mE dE: Nat} {W: List Int} {E: List (Int × Int)} {N: Option Addr} {nn nc: Nat} {need: List Int}
theorem snew_yes{m:Nat}(w:World)(hT:DTab w)(hg:IsG w AW nW cW FE mE dE W E)(hn:need.length=nn)(hl:nn<=400)(hI:Ints w w.heap.size N need)(hN:N=none->nn=0/\nc=0)(he:newE W E need m=0):
  Calls Tryz.prog 13 #[.agg #[.slice AW nW cW,.slice FE mE dE],.slice N nn nc,.int .i64 m] w fun e w'=>
   ∃a',e= .returned (.tuple #[.agg (gangC m a').toArray,.int .i64 0])/\IsGng w' w.heap.size m (newG W.length m E need) need a'/\Below w.heap.size w w':=by
 obtain⟨w1,hw1⟩: ∃w1,w1=(w.alloc (.cells #[.slice AW nW cW,.slice FE mE dE] 25)).alloc (.cells #[.slice none 0 0,.slice none 0 0,.slice none 0 0,.slice none 0 0,.slice none 0 0] 41):=⟨_,rfl⟩;have hb1:Below w.heap.size w w1:=by rw[hw1];exact((Below.refl _ _).alloc (Nat.le_refl _) _).alloc (by simp) _
 have hs1:w1.heap.size=w.heap.size+1+1:=by rw[hw1];simp
 have HB1:=Lib.hid hb1;have hd:RowV w.heap.size 25 [.slice AW nW cW,.slice FE mE dE] w1:=by rw[hw1];exact(RowV.new w _ [.slice AW nW cW,.slice FE mE dE]).alloc _
 have HZ1:Hid (RowV (w.heap.size+1) 41 [.slice none 0 0,.slice none 0 0,.slice none 0 0,.slice none 0 0,.slice none 0 0] w1):=Lib.hid (by
  rw[hw1];have:=RowV.new (w.alloc (.cells #[.slice AW nW cW,.slice FE mE dE] 25)) 41 [.slice none 0 0,.slice none 0 0,.slice none 0 0,.slice none 0 0,.slice none 0 0]
  simpa using this)
 have CB:=Lib.hid (begin_yes (nc:=nc) w1 (hT.via hb1) (hg.below hb1) hn hl ((hI.below hb1).more hb1.size) hN he);have HW1:=Lib.hid hw1;have HS1:=Lib.hid hs1;have p0:w1.cell? ⟨w.heap.size,0,none⟩=some (.slice AW nW cW):=hd.cell rfl
 have p1:w1.cell? ⟨w.heap.size,1,none⟩=some (.slice FE mE dE):=hd.cell rfl
 clear hT hg hn hl hI hN he hw1 hb1 hs1 hd;go_enter Tryz.func13,Tryz.ntmps13;go_upto_region 1 with fail;rw[<-HW1.out];go_upto_region 4 with(go_at_call 29;refine CB.out.mono ?_;rintro e w4 ⟨gw,a2,rfl,hwk,hb⟩;(have HW4:=Lib.hid hwk);(have HB4:=Lib.hid hb);clear hwk hb p0 p1 CB)
 have HZ4:Hid (RowV (w.heap.size+1) 41 [.slice none 0 0,.slice none 0 0,.slice none 0 0,.slice none 0 0,.slice none 0 0] w4):=Lib.hid (HZ1.out.below HB4.out HZ1.out.lt);have s0:w4.cell? ⟨gw,0,none⟩=some (.slice (some ⟨a2.gO,0,none⟩) m a2.cO):=HW4.out.row.cell rfl
 obtain⟨AL2,cL2,hvL2,_⟩:=HW4.out.gng.left.slice;replace hvL2:a2.vL= .slice AL2 need.length cL2:=hvL2;have s1:w4.cell? ⟨gw,1,none⟩=some a2.vL:=HW4.out.row.cell rfl
 rw[hvL2]at s1;have HVL2:=Lib.hid hvL2;have s2:w4.cell? ⟨gw,2,none⟩=some (.slice (some ⟨a2.gD,0,none⟩) m a2.cD):=HW4.out.row.cell rfl
 have s3:w4.cell? ⟨gw,3,none⟩=some (.slice (some ⟨a2.gT,0,none⟩) m a2.cT):=HW4.out.row.cell rfl
 have s4:w4.cell? ⟨gw,4,none⟩=some (.slice (some ⟨a2.gF,0,none⟩) m a2.cF):=HW4.out.row.cell rfl
 have z0:=HZ4.out.frozen 0;have z1:=HZ4.out.frozen 1;have z2:=HZ4.out.frozen 2;have z3:=HZ4.out.frozen 3;have z4:=HZ4.out.frozen 4;have t0:=HZ4.out.cell (j:=0) rfl;have t1:=HZ4.out.cell (j:=1) rfl;have t2:=HZ4.out.cell (j:=2) rfl;have t3:=HZ4.out.cell (j:=3) rfl;have t4:=HZ4.out.cell (j:=4) rfl;clear hvL2;go_wp2_with fail;have f0:=HW4.out.gng.far HZ4.out (by decide) (by decide) (by decide) 0 (.slice (some ⟨a2.gO,0,none⟩) m a2.cO)
 have f1:=f0.far (HZ4.out.set 0 _) (by decide) (by decide) (by decide) 1 (.slice AL2 need.length cL2)
 have f2:=f1.far ((HZ4.out.set 0 _).set 1 _) (by decide) (by decide) (by decide) 2 (.slice (some ⟨a2.gD,0,none⟩) m a2.cD)
 have f3:=f2.far (((HZ4.out.set 0 _).set 1 _).set 2 _) (by decide) (by decide) (by decide) 3 (.slice (some ⟨a2.gT,0,none⟩) m a2.cT)
 have f4:=f3.far ((((HZ4.out.set 0 _).set 1 _).set 2 _).set 3 _) (by decide) (by decide) (by decide) 4 (.slice (some ⟨a2.gF,0,none⟩) m a2.cF)
 have hle:w.heap.size<=w.heap.size+1:=by omega
 have hb4:Below w.heap.size w w4:=HB1.out.trans (HB4.out.mono HB1.out.size);have hb5:=((((hb4.setCell (p:=⟨w.heap.size+1,0,none⟩) hle (.slice (some ⟨a2.gO,0,none⟩) m a2.cO)).setCell (p:=⟨w.heap.size+1,1,none⟩) hle (.slice AL2 need.length cL2)).setCell (p:=⟨w.heap.size+1,2,none⟩) hle (.slice (some ⟨a2.gD,0,none⟩) m a2.cD)).setCell (p:=⟨w.heap.size+1,3,none⟩) hle (.slice (some ⟨a2.gT,0,none⟩) m a2.cT)).setCell (p:=⟨w.heap.size+1,4,none⟩) hle (.slice (some ⟨a2.gF,0,none⟩) m a2.cF);refine bodyPost_ret (ret_g1 (cs:=[.slice (some ⟨a2.gO,0,none⟩) m a2.cO,.slice AL2 need.length cL2,.slice (some ⟨a2.gD,0,none⟩) m a2.cD,.slice (some ⟨a2.gT,0,none⟩) m a2.cT,.slice (some ⟨a2.gF,0,none⟩) m a2.cF]) rfl rfl rfl (((((HZ4.out.set 0 _).set 1 _).set 2 _).set 3 _).set 4 _) rfl) rfl ⟨a2,?_,f4.down HB1.out.size,hb5⟩
 show Ending.returned (.tuple #[.agg #[.slice (some ⟨a2.gO,0,none⟩) m a2.cO,.slice AL2 need.length cL2,.slice (some ⟨a2.gD,0,none⟩) m a2.cD,.slice (some ⟨a2.gT,0,none⟩) m a2.cT,.slice (some ⟨a2.gF,0,none⟩) m a2.cF],.int .i64 0])=Ending.returned (.tuple #[.agg #[.slice (some ⟨a2.gO,0,none⟩) m a2.cO,a2.vL,.slice (some ⟨a2.gD,0,none⟩) m a2.cD,.slice (some ⟨a2.gT,0,none⟩) m a2.cT,.slice (some ⟨a2.gF,0,none⟩) m a2.cF],.int .i64 0])
 rw[HVL2.out]
def noGang:Value:=.agg #[.slice none 0 0,.slice none 0 0,.slice none 0 0,.slice none 0 0,.slice none 0 0]
theorem snew_no{cores z:Int}(w:World)(hg:IsG w AW nW cW FE mE dE W E)(hn:need.length=nn)(hl:nn<=400)(hI:Ints w w.heap.size N need)(hN:N=none->nn=0/\nc=0)(hz:newE W E need cores=z)(h0:z≠0):
  Calls Tryz.prog 13 #[.agg #[.slice AW nW cW,.slice FE mE dE],.slice N nn nc,.int .i64 cores] w fun e w'=>
   e= .returned (.tuple #[noGang,.int .i64 z])/\Below w.heap.size w w':=by
 obtain⟨w1,hw1⟩: ∃w1,w1=(w.alloc (.cells #[.slice AW nW cW,.slice FE mE dE] 25)).alloc (.cells #[.slice none 0 0,.slice none 0 0,.slice none 0 0,.slice none 0 0,.slice none 0 0] 41):=⟨_,rfl⟩;have hb1:Below w.heap.size w w1:=by rw[hw1];exact((Below.refl _ _).alloc (Nat.le_refl _) _).alloc (by simp) _
 have HB1:=Lib.hid hb1;have hd:RowV w.heap.size 25 [.slice AW nW cW,.slice FE mE dE] w1:=by rw[hw1];exact(RowV.new w _ [.slice AW nW cW,.slice FE mE dE]).alloc _
 have HZ1:Hid (RowV (w.heap.size+1) 41 [.slice none 0 0,.slice none 0 0,.slice none 0 0,.slice none 0 0,.slice none 0 0] w1):=Lib.hid (by
  rw[hw1];have:=RowV.new (w.alloc (.cells #[.slice AW nW cW,.slice FE mE dE] 25)) 41 [.slice none 0 0,.slice none 0 0,.slice none 0 0,.slice none 0 0,.slice none 0 0]
  simpa using this)
 have CB:=Lib.hid (begin_no (nc:=nc) w1 (hg.below hb1) hn hl ((hI.below hb1).more hb1.size) hN hz h0);have HW1:=Lib.hid hw1;have p0:w1.cell? ⟨w.heap.size,0,none⟩=some (.slice AW nW cW):=hd.cell rfl
 have p1:w1.cell? ⟨w.heap.size,1,none⟩=some (.slice FE mE dE):=hd.cell rfl
 have h0b:(z !=0)=true:=bne_iff_ne.mpr h0;clear hg hn hl hI hN hw1 hb1 hd hz h0;go_enter Tryz.func13,Tryz.ntmps13;go_upto_region 1 with fail;rw[<-HW1.out];go_upto_region 3 with(go_at_call 29;refine CB.out.mono ?_;rintro e w4 ⟨rfl,hb⟩;(have HB4:=Lib.hid hb);clear hb p0 p1 CB)
 have HZ4:Hid (RowV (w.heap.size+1) 41 [.slice none 0 0,.slice none 0 0,.slice none 0 0,.slice none 0 0,.slice none 0 0] w4):=Lib.hid (HZ1.out.below HB4.out HZ1.out.lt);have z0:=HZ4.out.frozen 0;have z1:=HZ4.out.frozen 1;have z2:=HZ4.out.frozen 2;have z3:=HZ4.out.frozen 3;have z4:=HZ4.out.frozen 4;have t0:=HZ4.out.cell (j:=0) rfl;have t1:=HZ4.out.cell (j:=1) rfl;have t2:=HZ4.out.cell (j:=2) rfl;have t3:=HZ4.out.cell (j:=3) rfl;have t4:=HZ4.out.cell (j:=4) rfl;go_wp2_with fail;have hle:w.heap.size<=w.heap.size+1:=by omega
 have hb4:Below w.heap.size w w4:=HB1.out.trans (HB4.out.mono HB1.out.size);have hb5:=((((hb4.setCell (p:=⟨w.heap.size+1,0,none⟩) hle (.slice none 0 0)).setCell (p:=⟨w.heap.size+1,1,none⟩) hle (.slice none 0 0)).setCell (p:=⟨w.heap.size+1,2,none⟩) hle (.slice none 0 0)).setCell (p:=⟨w.heap.size+1,3,none⟩) hle (.slice none 0 0)).setCell (p:=⟨w.heap.size+1,4,none⟩) hle (.slice none 0 0);exact bodyPost_ret (ret_g1 (cs:=[.slice none 0 0,.slice none 0 0,.slice none 0 0,.slice none 0 0,.slice none 0 0]) rfl rfl rfl (((((HZ4.out.set 0 _).set 1 _).set 2 _).set 3 _).set 4 _) rfl) rfl ⟨rfl,hb5⟩
end
end Go.Proofs.YtngdbbligebcbabGreatDoor
