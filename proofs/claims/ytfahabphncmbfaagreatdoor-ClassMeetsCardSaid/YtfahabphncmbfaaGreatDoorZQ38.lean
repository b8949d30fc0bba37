import Derived.Test.YtfahabphncmbfaaGreatDoorZQ37
set_option linter.all false
set_option maxRecDepth 100000
set_option maxHeartbeats 16000000
namespace Go.Proofs.YtfahabphncmbfaaGreatDoor
open Go Go.RowKit
open Go.Lib renaming hid→Zf
open List renaming getD_eq_getElem?_getD→Zi
open Go.Proofs.Tryz
section
variable {base gw m: Nat}{g: Gng}{L: List Int}{ad: GAd}{W: List Int}{E: List (Int × Int)}{WA: Option Addr}{Wn Wc: Nat}{EF: Option Addr}{Em Ed: Nat}{picks: List Int}{AP: Option Addr}{nP cP: Nat}
theorem Zov{l:List Nat}{k:Nat}{last p:Int}(h0:l≠ [])(hp:picks[k]?=some p):l[(max p 0).toNat%l.length]?=some (Zh1 l picks k last):=by
 have hk:k<picks.length:=(List.getElem?_eq_some_iff.mp hp).1;unfold Zh1;rw[Zc hk];have e:picks.getD k 0=p:=by rw[Zi,hp];rfl
 rw[e];have hl:=Nat.mod_lt (max p 0).toNat (List.length_pos_iff.mpr h0);rw[Zi,List.getElem?_eq_getElem hl];rfl
theorem Zqs(w:World)(hok:GOk W.length m E L g)(h0:∀c,c<m->(g.tk c).at_=0)(hM:May W E)(hT:DTab w)(hg:IsGrS w base WA Wn Wc EF Em Ed W E)
  (hp:picks.length=nP)(hp2:nP<=1000)(hP:Ints w base AP picks)(h:IsWk w base gw m g L ad (.slice WA Wn Wc) (.slice EF Em Ed)):
  Calls Tryz.prog 44 #[.pointer (some ⟨gw,0,none⟩),.slice AP nP cP] w fun e w'=>e=.returned (.tuple #[.int .i64 (lenC m g picks:Nat),.int .i64 0])/\∃Rv',IsWk w' base gw m (Zdx m g picks) L {ad with Rv:=Rv'} (.slice WA Wn Wc) (.slice EF Em Ed)/\Kp [ad.gO,ad.gD,ad.gF,ad.gT] w w':=by
 have hm8:m<=8:=by rw[<-hok.ol];exact hok.crew.hi
 obtain⟨s1,s2,s3,s4⟩:=ZeA (picks:=picks) hok h0;have HINV:=Zf (fun k (hk:k<=lenC m g picks)=>(CalmInv.upto hok h0 k fun j hj=>s2 j (by omega)).ok);obtain⟨N,hN⟩:∃N,N=lenC m g picks:=⟨_,rfl⟩;have hfin:Zdx m g picks=(Zbq m g picks N).1:=by rw[hN];rfl
 rw[hfin,<-hN];rw[hfin]at s1;rw[<-hN]at HINV s2 s3;have hm3:m * (m * (4 * m+4)+4 * m)<=1000000:=by have:=Zjd hok.m1;have h8:8 * m * m * (m+1)<=8 * 8 * 8 * 9:=Nat.mul_le_mul (Nat.mul_le_mul (Nat.mul_le_mul_left 8 hm8) hm8) (by omega);omega
 have hN6:N<=1000000:=by omega
 have HS1:=Zf s1;have HS2:=Zf s2;obtain⟨vW,hvW⟩:∃v,v=Value.slice WA Wn Wc:=⟨_,rfl⟩;obtain⟨vE,hvE⟩:∃v,v=Value.slice EF Em Ed:=⟨_,rfl⟩;rw[<-hvW,<-hvE]at h⊢;have HVW:=Zf hvW;have HVE:=Zf hvE;have HG:=Zf hg;have HT:=Zf hT;have HP:=Zf hP;have HPL:=Zf hp;have HM:=Zf hM;have H:=Zf h;have HLT:=Zf h.gng.lts;have HBS:Hid (base<=w.heap.size):=Zf (by have:=h.gng.lts;omega);have CW:=Zf (Zi0 w h.gng.r hm8);have q0:w.cell? ⟨gw,0,none⟩=some (.slice (some ⟨ad.gO,0,none⟩) m ad.cO):=h.row.cell rfl;have q1:w.cell? ⟨gw,1,none⟩=some ad.vL:=h.row.cell rfl;have q2:w.cell? ⟨gw,2,none⟩=some (.slice (some ⟨ad.gD,0,none⟩) m ad.cD):=h.row.cell rfl;have q3:w.cell? ⟨gw,3,none⟩=some (.slice (some ⟨ad.gT,0,none⟩) m ad.cT):=h.row.cell rfl;have q4:w.cell? ⟨gw,4,none⟩=some (.slice (some ⟨ad.gF,0,none⟩) m ad.cF):=h.row.cell rfl;clear hok h0 hM hT hg hP h hvW hvE s1 s2 s3 s4 hN hfin hm3;go_enter func44,ntmps44;go_wp2_with fail;refine CW.out.mono ?_;rintro e w1 ⟨A1,c1,rfl,ho,hb⟩;have HI1:=Zf ho.ints;have HB1:=Zf hb;have W1:=Zf (H.out.below hb);clear ho hb CW q0 q1 q2 q3 q4;go_wp2_with fail
 go_loopg [6,7,8] N (fun gk s co l wr=>∃(k q:Nat) (R':Nat->Value) (A:Option Addr) (c:Nat),gk+k=N/\s=.int .i64 k/\co=.int .i64 (Zbq m g picks k).2/\l=.slice A q c/\Hid (q=(nums (ZaK m (Zbq m g picks k).1)).length)/\Hid (Ints wr wr.heap.size A (nums (ZaK m (Zbq m g picks k).1)))/\Hid (IsWk wr base gw m (Zbq m g picks k).1 L {ad with Rv:=R'} vW vE)/\Hid (Kp [ad.gO,ad.gD,ad.gF,ad.gT] w wr))
 case atStart=>exact⟨0,_,ad.Rv,A1,c1,rfl,rfl,rfl,rfl,Zf rfl,HI1,W1,Zf (Kp.of_below HB1.out _)⟩
 case round=>
  clear HI1 HB1 W1;obtain⟨k,q,R',A,c,hgk,rfl,rfl,rfl,HQ,HI,HW,HK⟩:=hrel;obtain⟨gk',hgk'⟩:∃z,z=(Zbq m g picks k).1:=⟨_,rfl⟩;obtain⟨last,hlast⟩:∃z,z=(Zbq m g picks k).2:=⟨_,rfl⟩;rw[<-hgk']at HQ HI HW;rw[<-hlast];have HGK:=Zf hgk';have HLA:=Zf hlast;clear hgk' hlast;by_cases hkN:k<N
  ·have hwne: ZaK m gk' ≠ []:=by rw [HGK.out]; exact HS2.out k hkN
   have hq0:0<q:=by rw[HQ.out,Zai];exact List.length_pos_iff.mpr hwne
   have HWN:=Zf hwne;have d0:decide (0<q)=true:=Ze hq0;have d0':decide ((0:Int)<(q:Int))=true:=Ze (by omega);obtain⟨cc,hcc⟩:∃z,z=Zh1 (ZaK m gk') picks k last:=⟨_,rfl⟩;have HCC:=Zf hcc;have hq8:q<=8:=by rw[HQ.out,Zai];unfold ZaK;exact Nat.le_trans (List.length_filter_le _ _) (by rw[List.length_range];exact hm8)
   have HBW:Hid (Below base w wr):=Zf (HK.out.below (fun b hb=>by have:=HLT.out;simp at hb;omega) HBS.out);clear hwne hcc
   go_upto_if 26 with fail
   go_cut [7]from 15 to 48 (fun v wx=>v=.int .i64 (cc:Nat)/\Hid (Below wr.heap.size wr wx))
   case first=>
    by_cases hkp:k<nP
    ·have d1: decide (k < nP) = true:=Ze hkp
     have d1':decide ((k:Int)<(nP:Int))=true:=Ze (by omega);obtain⟨bb,off,p,hA0,hbb,hx,hcl⟩:=(HP.out.below HBW.out).at_ (k:=k) (by rw[HPL.out];exact hkp);subst hA0;have hpk:=Zov (l:=ZaK m gk') (last:=last) HWN.out hx;rw[<-HCC.out]at hpk;have hnk:¬((nP:Int)<=(k:Int)):=by omega
     have hq00:¬q=0:=by omega
     by_cases hp0:p<0
     ·have d2: decide (p < 0) = true:=Ze hp0
      have e0:(max p 0).toNat%(ZaK m gk').length=0:=by rw[show max p 0=0 by omega];rfl
      have hmx:max p (0:Int)=0:=by omega
      rw[e0]at hpk;obtain⟨b2,o2,z,hA2,_,hx2,hcl2⟩:=HI.out.at_ (k:=0) (by rw[<-HQ.out];exact hq0);obtain rfl:z=(cc:Int):=by rw[ZeW hpk]at hx2;exact(Option.some.inj hx2).symm
      subst hA2;simp only[Nat.add_zero]at hcl2;have htm0:(0:Int).tmod (q:Int)=0:=Int.zero_tmod _;have hnx0:¬((q:Int)<=0):=by omega
      clear hx hx2 hpk;go_wp2_with fail
      go_meet
      case rel=>exact⟨by first|rfl|simp,Zf (Below.refl _ _)⟩
     ·have d2: decide (p < 0) = false:=Zd hp0
      obtain⟨pn,rfl⟩:∃pn:Nat,p=pn:=⟨p.toNat,by omega⟩;have e0:(max (pn:Int) 0).toNat%(ZaK m gk').length=pn%q:=by rw[show max (pn:Int) 0=(pn:Int) by omega,Int.toNat_natCast,HQ.out,Zai]
      rw[e0]at hpk;have hlt:pn%q<q:=Nat.mod_lt _ hq0;obtain⟨b2,o2,z,hA2,_,hx2,hcl2⟩:=HI.out.at_ (k:=pn%q) (by rw[<-HQ.out];exact hlt);obtain rfl:z=(cc:Int):=by rw[ZeW hpk]at hx2;exact(Option.some.inj hx2).symm
      subst hA2;have hnx:¬((q:Int)<=(pn:Int)%(q:Int)):=by omega
      clear hx hx2 hpk e0;go_wp2_with fail
      go_meet
      case rel=>exact⟨by first|rfl|simp,Zf (Below.refl _ _)⟩
    ·have d1: decide (k < nP) = false:=Zd hkp
     have d1':decide ((k:Int)<(nP:Int))=false:=Zd (by omega);have hcv:cc=ZdW (ZaK m gk') last:=by rw[HCC.out];unfold Zh1;rw[Zb (by rw[HPL.out];exact hkp)]
     have CAb:=Zf (Zn7 A c q (ZaK m gk') last wr (by rw[HQ.out,Zai]) (by omega) HWN.out HI.out);rw[<-hcv]at CAb;clear hcv;go_wp2_with fail;refine CAb.out.mono ?_;rintro e w2 ⟨rfl,hb⟩;have HB2:=Zf hb;clear hb CAb;go_wp2_with fail
     go_meet
     case rel=>exact⟨rfl,HB2⟩
   case rest=>
    obtain⟨rfl,HB2⟩:=hcut;have hmem:cc∈ZaK m gk':=by rw[HCC.out];exact Zlr HWN.out picks k last
    obtain⟨hcm,hidle,_⟩:=mem_wants.mp hmem;have W2:=Zf (HW.out.below HB2.out);have HBB:=Zf (HBW.out.trans (HB2.out.mono (Nat.le_trans HBS.out HK.out.size)));have CS:=Zf (Zqh wc hcm hidle (by rw[HGK.out];exact HINV.out k (by omega)) HM.out (Tab64.below HT.out HBB.out HG.out.tb) (HG.out.below HBB.out) (by rw[<-HVW.out,<-HVE.out];exact W2.out));rw[<-HVW.out,<-HVE.out]at CS;have HK2:=Zf (HK.out.trans (Kp.of_below HB2.out _));have hst:Zal m gk' cc=(Zbq m g picks (k+1)).1:=by rw[HGK.out,HCC.out,HGK.out,HLA.out];rfl
    have hsl:(cc:Int)=(Zbq m g picks (k+1)).2:=by rw[HCC.out,HGK.out,HLA.out];rfl
    rw[hst]at CS;have HSL:=Zf hsl;clear hmem hst hsl W2 HBB HBW HW HI HB2;go_wp2_with fail;refine CS.out.mono ?_;rintro e w3 ⟨rfl,R3,hw3,hk3⟩;have W3:=Zf hw3;have HK3:=Zf (HK2.out.trans (hk3.more (by simp)));have CW:=Zf (Zi0 w3 hw3.gng.r hm8);have q0:w3.cell? ⟨gw,0,none⟩=some (.slice (some ⟨ad.gO,0,none⟩) m ad.cO):=hw3.row.cell rfl;have q1:w3.cell? ⟨gw,1,none⟩=some ad.vL:=hw3.row.cell rfl;have q2:w3.cell? ⟨gw,2,none⟩=some (.slice (some ⟨ad.gD,0,none⟩) m ad.cD):=hw3.row.cell rfl;have q3:w3.cell? ⟨gw,3,none⟩=some (.slice (some ⟨ad.gT,0,none⟩) m ad.cT):=hw3.row.cell rfl;have q4:w3.cell? ⟨gw,4,none⟩=some (.slice (some ⟨ad.gF,0,none⟩) m ad.cF):=hw3.row.cell rfl;clear hw3 hk3 CS HK2;go_wp2_with fail;refine CW.out.mono ?_;rintro e w4 ⟨A4,c4,rfl,ho,hb⟩;have HI4:=Zf ho.ints;have HK4:=Zf (HK3.out.trans (Kp.of_below hb _));have W4:=Zf (W3.out.below hb);clear ho hb CW q0 q1 q2 q3 q4 W3 HK3;go_wp2_with fail
    go_roundg (N - (k+1))
    case measure=>omega
    case rel=>exact⟨k+1,_,R3,A4,c4,by omega,by simp,by rw[HSL.out],rfl,Zf rfl,HI4,W4,HK4⟩
  ·have hkN2: k = N:=by omega
   subst hkN2;have hw0:ZaK m gk'= []:=by rw[HGK.out];exact HS1.out
   have hq0:q=0:=by rw[HQ.out,Zai,hw0];rfl
   subst hq0;rw[HGK.out]at HW;clear hw0 HI HQ;go_wp2;refine bodyPost_ret (results_tmp2 rfl _ _ _) rfl ?_;exact⟨rfl,R',HW.out,HK.out⟩
end
section
variable {base g n c: Nat}{xs: List Value}
end
section
variable {P: Program}{ops: Array Oper}{Q: Exit -> Act -> World -> Prop}
end
end Go.Proofs.YtfahabphncmbfaaGreatDoor
