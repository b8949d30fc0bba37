import Derived.Test.YtfahabphncmbfaaGreatDoorZQ36
set_option linter.all false
set_option maxRecDepth 100000
set_option maxHeartbeats 16000000
namespace Go.Proofs.YtfahabphncmbfaaGreatDoor
open Go Go.RowKit
open Go.Lib renaming hid→Zf
open List renaming filter_cons→Yf,getElem?_eq_getElem→Zh,getElem?_eq_some_iff→Zs,getElem?_map→ZO,length_append→Zq
open Nat renaming add_zero→Zy,mul_comm→YM,not_lt_zero→Yj,zero_le→Zu
open Option.some renaming inj→Zr
open Go.Proofs.Tryz renaming prog→Zg
open Go.Proofs.Tryz
section
variable {P: Program}{ops: Array Oper}{Q: Exit -> Act -> World -> Prop}
end
section
variable {base m: Nat}{g: Gng}{L: List Int}{ad: GAd}
end
section
variable {base m: Nat}{g: Gng}{L: List Int}{ad: GAd}
theorem GngR.crew{w:World}{base m:Nat}{g:Gng}{L:List Int}{a:GAd}(h:GngR w base m g L a)(hm:m<=8)(hl:L.length<=400):∃AL cL,a.vL=.slice AL L.length cL/\IsC w (some ⟨a.gO,0,none⟩) m a.cO AL L.length cL g.O L:=by
 obtain⟨AL,cL,e,hI⟩:=h.left.slice;refine⟨AL,cL,e,h.ol,rfl,by omega,hl,h.on.ints,hI,(fun q=>by cases q),fun q=> ?_,?_⟩
 ·rcases h.left.2 with ⟨q1,q2⟩ | ⟨b,cp,cur,q1,_⟩
  ·rw [e] at q1
   injection q1 with _ q1 q3;exact⟨q1,q3⟩
  ·rw [e,q] at q1
   injection q1 with q1 _ _;cases q1
 ·obtain ⟨cur,_,_,h1,_⟩:=Zah h.onF.1
  exact h1
end
section
variable {base m: Nat}{g: Gng}{L: List Int}{ad: GAd}
theorem Zrw(v:Value)(T B:Int)(w:World):Calls Zg 110 #[.agg #[v,.int .i64 T,.int .i64 B]] w fun e w'=>e=.returned (.bool (decide (T<B)))/\Below w.heap.size w w':=by
 go_enter func110,ntmps110;go_wp2_with fail
 all_goals
  go_ret;exact⟨rfl,Zaa _⟩
theorem Zqa(w:World)(h:GngR w base m g L ad)(hm:m<=8):
  Calls Zg 160 #[.slice (some ⟨ad.gD,0,none⟩) m ad.cD,.func (.func 110) #[] #[]] w fun e w'=>∃r:Int,e=.returned (.int .i64 r)/\(0<=r↔visG m g)/\Below w.heap.size w w':=by
 have H:=Zf h;clear h;go_enter func160,ntmps160;go_wp2;go_loopw [8] (fun v wr=>∃k:Nat,k<=m/\v=.int .i64 k/\Hid (Below w.heap.size w wr)/\Hid (∀j,j<k->¬g.T j<g.B j)) (fun v _=>m - (intOf v).toNat)
 case atStart=>exact⟨0,Zu _,rfl,Zf (Below.refl _ _),Zf (fun j hj=>absurd hj (Yj _))⟩
 case round=>
  obtain⟨k,hk,rfl,HI,HF⟩:=hrel;by_cases hlt:k<m
  ·have G:=H.out.below HI.out
   have c0:=G.dq hlt (i:=0) rfl;have c1:=G.dq hlt (i:=1) rfl;have c2:=G.dq hlt (i:=2) rfl;simp only[Zy]at c0;have e3:k * 3=3 * k:=YM _ _;have CV:=Zf (Zrw (ad.Rv k) (g.T k) (g.B k) wr);clear G;by_cases hq:g.T k<g.B k
   ·rw [Ze hq] at CV
    go_wp2_with fail;refine CV.out.mono ?_;rintro e w' ⟨rfl,hb'⟩;have HB:=Zf hb';clear hb' CV;go_wp2;go_ret;exact⟨_,rfl,⟨fun _=>⟨k,hlt,hq⟩,fun _=>by omega⟩,HI.out.trans (HB.out.mono HI.out.size)⟩
   ·rw [Zd hq] at CV
    go_wp2_with fail;refine CV.out.mono ?_;rintro e w' ⟨rfl,hb'⟩;have HB:=Zf hb';clear hb' CV;go_wp2_with fail;go_roundw
    case rel=>exact⟨k+1,by omega,by go_num,Zf (HI.out.trans (HB.out.mono HI.out.size)),Zf (fun j hj=>by
     by_cases e:j=k
     ·rw[e];omega
     ·have:=HF.out j (by omega);omega)⟩
    case measure=>simp[intOf];omega
  ·have e: k = m:=by omega
   subst e;go_wp2;go_ret;exact⟨_,rfl,⟨fun h=>Za h,fun⟨j,hj,hv⟩=>absurd hv (by have:=HF.out j hj;omega)⟩,HI.out⟩
theorem Zqb(w:World)(h:GngR w base m g L ad)(hm:m<=8):
  Calls Zg 109 #[.slice (some ⟨ad.gD,0,none⟩) m ad.cD,.func (.func 110) #[] #[]] w fun e w'=>e=.returned (.bool (decide (visG m g)))/\Below w.heap.size w w':=by
 have CI:=Zf (Zqa w h hm);obtain⟨vs,hvs⟩:∃vs,vs=decide (visG m g):=⟨_,rfl⟩;rw[<-hvs];have HVS:=Zf hvs;clear h hvs;go_enter func109,ntmps109;go_wp2_with fail;refine CI.out.mono ?_;rintro e w1 ⟨r,rfl,hr,hb⟩;have HB:=Zf hb;have HR:=Zf hr;clear hr hb CI;by_cases h0:0<=r
 ·have d1: decide (0 <= r) = true:=Ze h0
  obtain rfl:vs=true:=by rw[HVS.out];exact Ze (HR.out.mp h0)
  go_wp2;go_ret;exact⟨rfl,HB.out⟩
 ·have d1: decide (0 <= r) = false:=Zd h0
  obtain rfl:vs=false:=by rw[HVS.out];exact Zd fun q=>h0 (HR.out.mpr q)
  go_wp2;go_ret;exact⟨rfl,HB.out⟩
def Zer(m:Nat)(g:Gng)(k:Nat):List Nat:=(List.range k).filter fun c=>decide (g.O.getD c 0= -1/\((g.tk c).at_≠0\/visG m g))
theorem Zme(m:Nat)(g:Gng)(k:Nat):Zer m g (k+1)=if g.O.getD k 0= -1/\((g.tk k).at_≠0\/visG m g)then Zer m g k++ [k]else Zer m g k:=by
 unfold Zer;rw[List.range_succ,List.filter_append];by_cases h:g.O.getD k 0= -1/\((g.tk k).at_≠0\/visG m g)
 ·rw[Zc h,Yf,Zc (Ze h)];rfl
 ·rw[Zb h,Yf,Zb (by rw[Zd h];decide)];exact List.append_nil _
theorem Zi0(w:World)(h:GngR w base m g L ad)(hm:m<=8):
  Calls Zg 57 #[.agg #[.slice (some ⟨ad.gO,0,none⟩) m ad.cO,ad.vL,.slice (some ⟨ad.gD,0,none⟩) m ad.cD,.slice (some ⟨ad.gT,0,none⟩) m ad.cT,.slice (some ⟨ad.gF,0,none⟩) m ad.cF]] w (GotOwn (nums (ZaK m g)) w):=by
 obtain⟨w0,hw0⟩:∃w0,w0=w.alloc (.cells #[.slice (some ⟨ad.gO,0,none⟩) m ad.cO,ad.vL,.slice (some ⟨ad.gD,0,none⟩) m ad.cD,.slice (some ⟨ad.gT,0,none⟩) m ad.cT,.slice (some ⟨ad.gF,0,none⟩) m ad.cF] 41):=⟨_,rfl⟩;have HB0:Hid (Below w.heap.size w w0):=Zf (by rw[hw0];exact Zaa _);have HR0:Hid (RowV w.heap.size 41 (Zkt m ad) w0):=Zf (by rw[hw0];exact RowV.new w _ (Zkt m ad));have HG0:=Zf (h.below HB0.out);have HW0:=Zf hw0;have CH:=Zf (Zqb w0 HG0.out hm);obtain⟨vs,hvs⟩:∃vs,vs=decide (visG m g):=⟨_,rfl⟩;rw[<-hvs]at CH;have HVS:=Zf hvs;clear h hw0 hvs;go_enter func57,ntmps57;go_wp2_with fail;rw[<-HW0.out];refine CH.out.mono ?_;rintro e w1 ⟨rfl,hb⟩;have HB1:=Zf (HB0.out.trans (hb.mono HB0.out.size));have HR1:=Zf (HR0.out.below hb HR0.out.lt);have HG1:=Zf (HG0.out.below hb);clear hb CH HB0 HR0 HG0 HW0;have r0:w1.cell? ⟨w.heap.size,0,none⟩=some (.slice (some ⟨ad.gO,0,none⟩) m ad.cO):=HR1.out.cell rfl;go_wp2_with fail;clear r0;go_loopw [4,14] (fun v i wr=>∃(k q:Nat) (A1:Option Addr) (c1:Nat),k<=m/\q<=k/\i=.int .i64 k/\v=.slice A1 q c1/\Hid (q=(nums (Zer m g k)).length)/\Hid (OwnI wr w1.heap.size v (nums (Zer m g k)))/\Hid (Below w1.heap.size w1 wr)) (fun _ i _=>m - (intOf i).toNat)
 case atStart=>exact⟨0,0,none,0,Zu _,Nat.le_refl _,rfl,rfl,Zf rfl,Zf ⟨rfl,.inl ⟨rfl,rfl⟩⟩,Zf (Below.refl _ _)⟩
 case round=>
  obtain⟨k,q,A1,c1,hk,hqk,rfl,rfl,HQ,HO,HB⟩:=hrel;by_cases hlt:k<m
  ·have HR:=Zf (HR1.out.below HB.out HR1.out.lt)
   have HG:=Zf (HG1.out.below HB.out);have HSZ:=Zf HB.out.size;have r0:wr.cell? ⟨w.heap.size,0,none⟩=some (.slice (some ⟨ad.gO,0,none⟩) m ad.cO):=HR.out.cell rfl;have r3:wr.cell? ⟨w.heap.size,3,none⟩=some (.slice (some ⟨ad.gT,0,none⟩) m ad.cT):=HR.out.cell rfl;have o0:=HG.out.onc hlt;have t1:=HG.out.tk hlt (i:=1) rfl;have hn:¬((m:Int)<=(k:Int)):=by omega
   have e6:k * 6=6 * k:=YM _ _;obtain⟨x,hx⟩:∃x,x=g.O.getD k 0:=⟨_,rfl⟩;obtain⟨y,hy⟩:∃y,y=(g.tk k).at_:=⟨_,rfl⟩;rw[<-hx]at o0;have HS:=Zf (Zme m g k);have t1':wr.cell? ⟨ad.gT,6 * k+1,none⟩=some (.int .i64 y):=by rw[hy];exact t1
   clear t1;have HX:=Zf hx;have HY:=Zf hy;by_cases hr:g.O.getD k 0= -1/\((g.tk k).at_≠0\/visG m g)
   ·have HN: Hid (nums (Zer m g (k + 1)) = nums (Zer m g k) ++ [(k: Int)]):=Zf (by rw [HS.out,Zc hr,ZcH])
    have d1:(x== -1)=true:=by rw[hx,hr.1];rfl
    by_cases hvis:visG m g
    ·obtain rfl: vs = true:=by rw [HVS.out]; exact Ze hvis
     clear HS hr hx hy;go_wp2_with(at_builtin;refine ZaV rfl _ _ rfl wr w1.heap.size _ (nums (Zer m g k)) (k:Int) q HQ.out.symm (by omega) HO.out HSZ.out rfl rfl ?_;intro A2 c2 w3 HO3 HB3;(have HO3':=Zf HO3);(have HB3':=Zf HB3);clear HO3 HB3);go_roundw
     case rel=>exact⟨k+1,q+1,A2,c2,by omega,by omega,by go_num,rfl,Zf (by rw[HN.out,Zq,<-HQ.out];rfl),Zf (by rw[HN.out];exact HO3'.out),Zf (HB.out.trans HB3'.out)⟩
     case measure=>simp[intOf];omega
    ·obtain rfl: vs = false:=by rw [HVS.out]; exact Zd hvis
     have d2:(y !=0)=true:=by rw[hy];simpa using hr.2.resolve_right hvis
     clear HS hr hx hy;go_wp2_with(at_builtin;refine ZaV rfl _ _ rfl wr w1.heap.size _ (nums (Zer m g k)) (k:Int) q HQ.out.symm (by omega) HO.out HSZ.out rfl rfl ?_;intro A2 c2 w3 HO3 HB3;(have HO3':=Zf HO3);(have HB3':=Zf HB3);clear HO3 HB3);go_roundw
     case rel=>exact⟨k+1,q+1,A2,c2,by omega,by omega,by go_num,rfl,Zf (by rw[HN.out,Zq,<-HQ.out];rfl),Zf (by rw[HN.out];exact HO3'.out),Zf (HB.out.trans HB3'.out)⟩
     case measure=>simp[intOf];omega
   ·have HN: Hid (nums (Zer m g (k + 1)) = nums (Zer m g k)):=Zf (by rw [HS.out,Zb hr])
    by_cases hid:x= -1
    ·have d1: (x == -1) = true:=by rw [hid]; rfl
     have hnv:¬visG m g:=fun q=>hr ⟨by rw[<-hx];exact hid,.inr q⟩;obtain rfl:vs=false:=by rw[HVS.out];exact Zd hnv
     have d2:(y !=0)=false:=by have:y=0:=Classical.byContradiction fun q=>hr ⟨by rw[<-hx];exact hid,.inl (by rw[<-hy];exact q)⟩;rw[this];rfl
     clear HS hr hx hy;go_wp2_with fail;go_roundw
     case rel=>exact⟨k+1,q,A1,c1,by omega,by omega,by go_num,rfl,Zf (by rw[HN.out,HQ.out]),Zf (by rw[HN.out];exact HO.out),HB⟩
     case measure=>simp[intOf];omega
    ·have d1: (x == -1) = false:=by simpa using hid
     clear HS hr hx hy;go_wp2_with fail;go_roundw
     case rel=>exact⟨k+1,q,A1,c1,by omega,by omega,by go_num,rfl,Zf (by rw[HN.out,HQ.out]),Zf (by rw[HN.out];exact HO.out),HB⟩
     case measure=>simp[intOf];omega
  ·obtain rfl: m = k:=by omega
   go_wp2;go_ret;exact⟨A1,c1,by rw[show ZaK m g=Zer m g m from rfl,<-HQ.out];rfl,by rw[show ZaK m g=Zer m g m from rfl,<-HQ.out];exact HO.out.down HB1.out.size,HB1.out.trans (HB.out.mono HB1.out.size)⟩
end
theorem Zn5(z last:Int)(gb:Nat)(w:World)(hb:RowV gb 3 [.int .i64 last] w):Calls Zg 145 #[.int .i64 z,.pointer (some ⟨gb,0,none⟩)] w fun e w'=>e=.returned (.bool (decide (last<z)))/\w'=w:=by
 have h0:=hb.cell (j:=0) rfl;clear hb;go_enter func145,ntmps145;go_wp2_with fail
 all_goals
  go_ret;exact⟨rfl,rfl⟩
def Zsr(zs:List Int)(last r:Int):Prop:=(∃(j:Nat) (z:Int),r=j/\zs[j]?=some z/\last<z/\∀(i:Nat) (y:Int),i<j->zs[i]?=some y->y<=last)\/(r= -1/\∀(i:Nat) (y:Int),zs[i]?=some y->y<=last)
theorem Zn6(A:Option Addr)(c n:Nat)(zs:List Int)(last:Int)(gb:Nat)(w:World)(hn:zs.length=n)(hl:n<=1000)(hI:Ints w w.heap.size A zs)(hb:RowV gb 3 [.int .i64 last] w):
  Calls Zg 89 #[.slice A n c,.func (.func 145) #[] #[.pointer (some ⟨gb,0,none⟩)]] w fun e w'=>
   ∃r:Int,e=.returned (.int .i64 r)/\Zsr zs last r/\w'=w:=by
 have HI:=Zf hI;have HN:=Zf hn;have HB:=Zf hb;clear hI hn hb;go_enter func89,ntmps89;go_wp2;go_loopw [8] (fun v wr=>∃k:Nat,k<=n/\v=.int .i64 k/\w=wr/\Hid (∀(i:Nat) (y:Int),i<k->zs[i]?=some y->y<=last)) (fun v _=>n - (intOf v).toNat)
 case atStart=>exact⟨0,Zu _,rfl,rfl,Zf (fun i y hi=>absurd hi (Yj _))⟩
 case round=>
  obtain⟨k,hk,rfl,rfl,HF⟩:=hrel;by_cases hlt:k<n
  ·obtain ⟨bb,off,z,hA0,hbb,hx,hcc⟩:=HI.out.at_ (k:=k) (by rw [HN.out]; exact hlt)
   subst hA0;have HX:=Zf hx;have CV:=Zf (Zn5 z last gb w HB.out);clear hx;by_cases hq:last<z
   ·rw [Ze hq] at CV
    go_wp2_with fail;refine CV.out.mono ?_;rintro e w' ⟨rfl,rfl⟩;clear CV;go_wp2;go_ret;exact⟨_,rfl,.inl ⟨k,z,rfl,HX.out,hq,HF.out⟩,by first|rfl|trivial⟩
   ·rw [Zd hq] at CV
    go_wp2_with fail;refine CV.out.mono ?_;rintro e w' ⟨rfl,rfl⟩;clear CV;go_wp2_with fail;go_roundw
    case rel=>exact⟨k+1,by omega,by go_num,by first|rfl|trivial,Zf (fun i y hi hy=>by
     by_cases e:i=k
     ·subst e
      have:=HX.out.symm.trans hy;injection this with this;omega
     ·exact HF.out i y (by omega) hy)⟩
    case measure=>simp[intOf];omega
  ·have e: k = n:=by omega
   subst e;go_wp2;go_ret;exact⟨_,rfl,.inr ⟨rfl,fun i y hy=>HF.out i y (by have:=(Zs.mp hy).1;rw[HN.out]at this;exact this) hy⟩,rfl⟩
theorem Zqc{l:List Nat}{last:Int}{j z:Nat}(hj:l[j]?=some z)(hz:last<(z:Int))(hf:∀(i y:Nat),i<j->l[i]?=some y->(y:Int)<=last):ZdW l last=z:=by
  unfold ZdW;have:l.find? (fun(c:Nat)=>decide (last<(c:Int)))=some z:=by
    induction l generalizing j with
    |nil=>simp at hj
    | cons x r ih =>
      cases j with
      | zero =>
        have hx:x=z:=by simpa using hj
        rw[hx,List.find?_cons,Ze hz]
      | succ j =>have h0:=hf 0 x (by omega) (by simp);rw[List.find?_cons,Zd (by omega)];exact ih (by simpa using hj) fun i y hi hy=>hf (i+1) y (by omega) (by simpa using hy)
  rw[this];rfl
theorem Zmf{l:List Nat}{last:Int}(hf:∀(i y:Nat),l[i]?=some y->(y:Int)<=last):ZdW l last=l.getD 0 0:=by
 unfold ZdW;have:l.find? (fun(c:Nat)=>decide (last<(c:Int)))=none:=by rw[List.find?_eq_none];intro x hx;obtain⟨i,hi,he⟩:=List.getElem_of_mem hx;have:=hf i x (by rw[Zh hi,he]);rw[Zd (by omega)];decide
 rw[this];rfl
theorem ZeW{l:List Nat}{i z:Nat}(h:l[i]?=some z):(nums l)[i]?=some (z:Int):=by unfold nums;rw[ZO,h];rfl
theorem Zqd{l:List Nat}{i:Nat}{z:Int}(h:(nums l)[i]?=some z):∃y:Nat,l[i]?=some y/\z=y:=by
 unfold nums at h;rw[ZO]at h
 cases hq:l[i]? with
 |none=>rw[hq]at h;cases h
 |some y=>rw[hq]at h;exact⟨y,rfl,(Zr h).symm⟩
theorem Zn7(A:Option Addr)(c k:Nat)(l:List Nat)(last:Int)(w:World)(hk:l.length=k)(hl:k<=1000)(h0:l≠ [])(hI:Ints w w.heap.size A (nums l)):
  Calls Zg 90 #[.slice A k c,.int .i64 last] w fun e w'=>e=.returned (.int .i64 (ZdW l last:Nat))/\Below w.heap.size w w':=by
 obtain⟨w0,hw0⟩:∃w0,w0=w.alloc (.cells #[.int .i64 last] 3):=⟨_,rfl⟩;have hb0:Below w.heap.size w w0:=by rw[hw0];exact Zaa _
 have HR:=Zf (show RowV w.heap.size 3 [.int .i64 last] w0 by rw[hw0];exact RowV.new w 3 [.int .i64 last]);have HI:=Zf ((hI.below hb0).more hb0.size);have CI:=Zf (Zn6 A c k (nums l) last w.heap.size w0 (by rw[Zai,hk]) hl HI.out HR.out);have HB0:=Zf hb0;have HW:=Zf hw0;have HK:=Zf hk;obtain⟨v,hv⟩:∃v,v=ZdW l last:=⟨_,rfl⟩;rw[<-hv];have HV:=Zf hv;have hk0:0<k:=by rw[<-hk];exact List.length_pos_iff.mpr h0
 clear hI hb0 hw0 hv hk;go_enter func90,ntmps90;go_wp2_with fail;rw[<-HW.out];refine CI.out.mono ?_;rintro e w1 ⟨r,rfl,hr,rfl⟩;clear CI;unfold Zsr at hr;rcases hr with⟨j,z,rfl,h1,h2,h3⟩|⟨rfl,h3⟩
 ·obtain ⟨y,hy,rfl⟩:=Zqd h1
  have hv:v=y:=HV.out.trans (Zqc hy h2 fun i q hi hq=>h3 i _ hi (ZeW hq));have hjk:j<k:=by rw[<-HK.out];exact(Zs.mp hy).1
  obtain⟨bb,off,z,hA0,hbb,hx,hcc⟩:=HI.out.at_ (k:=j) (by rw[Zai,HK.out];exact hjk);obtain rfl:z=(v:Int):=by rw[ZeW hy]at hx;rw[hv];exact(Zr hx).symm
  subst hA0;have hn:¬((k:Int)<=(j:Int)):=by omega
  clear h1 h2 h3 hx hy hv;go_wp2;go_ret;exact⟨rfl,HB0.out⟩
 ·have hlt: 0 < l.length:=by rw [HK.out]; exact hk0
  have hy:l[0]?=some (l.getD 0 0):=by rw[List.getD_eq_getElem?_getD,Zh hlt];rfl
  have hv:v=l.getD 0 0:=HV.out.trans (Zmf fun i q hq=>h3 i _ (ZeW hq));obtain⟨bb,off,z,hA0,hbb,hx,hcc⟩:=HI.out.at_ (k:=0) (by rw[Zai,HK.out];exact hk0);obtain rfl:z=(v:Int):=by rw[ZeW hy]at hx;rw[hv];exact(Zr hx).symm
  subst hA0;simp only[Zy]at hcc;have hn:¬((k:Int)<=0):=by omega
  have hn':¬k=0:=by omega
  have hcd:w1.cell? ⟨bb,off+(max (-1:Int) 0).toNat,none⟩=some (.int .i64 (v:Int)):=hcc
  clear h3 hx hy hv;go_wp2;go_ret;exact⟨rfl,HB0.out⟩
end Go.Proofs.YtfahabphncmbfaaGreatDoor
