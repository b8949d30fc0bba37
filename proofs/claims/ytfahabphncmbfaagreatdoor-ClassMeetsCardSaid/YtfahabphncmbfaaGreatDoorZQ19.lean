import Derived.Test.YtfahabphncmbfaaGreatDoorZQ15
set_option linter.all false
set_option maxRecDepth 100000
set_option maxHeartbeats 1000000
namespace Go.Proofs.YtfahabphncmbfaaGreatDoor
open Classical renaming byContradiction→Zn
open List renaming count_cons→YP,count_eq_zero→Yi,count_pos_iff→Yz,getD_eq_getElem?_getD→Zi,getElem?_eq_getElem→Zh,getElem?_eq_none→Zt,getElem?_map→ZO,getElem?_range→Y3,getElem?_set→Yh,getElem?_take→YO,getElem_mem→Zz,getElem_of_mem→ZA,length_set→ZU,length_take→ZP,mem_of_mem_take→YY,range→Zo,take_length→Y6,take_of_length_le→Z6
open Nat renaming le_refl→Zm,lt_or_ge→Zv
open Go.World renaming block_lt_of_cell?→Zw,cell?_alloc_at→Zp
open Go.Proofs.Tryz
def ranT(t:List (List Int))(x:Int)(k:Nat):Nat:=(t.take k).flatten.count x
def rowT(t:List (List Int))(i:Nat):List Int:=t.getD i []
def numT(t:List (List Int))(i c:Nat):Int:=(rowT t i).getD c (-1)
def ZaJ(need:List Int)(x:Int):Int:=need.getD x.toNat 0
theorem Zdp{t:List (List Int)}{i:Nat}{r:List Int}(h:t[i]?=some r):rowT t i=r:=by unfold rowT;rw[Zi,h];rfl
theorem ZpU{t:List (List Int)}{i:Nat}(h:t.length<=i):rowT t i= []:=by unfold rowT;rw[Zi,Zt h];rfl
theorem Zrr{t:List (List Int)}{i c:Nat}{r:List Int}{x:Int}(h:t[i]?=some r)(hx:r[c]?=some x):numT t i c=x:=by unfold numT;rw[Zdp h,Zi,hx];rfl
theorem Zlg{t:List (List Int)}{i:Nat}(h:i<t.length):rowT t i∈t:=by rw[Zdp (Zh h)];exact Zz h
theorem Zlh{t:List (List Int)}{k:Nat}(h:k<t.length):t.take (k+1)=t.take k++ [rowT t k]:=by rw[List.take_add_one,Zh h,Zdp (Zh h)];rfl
theorem Zbt(t:List (List Int))(x:Int):ranT t x 0=0:=by simp[ranT]
theorem Zgc{t:List (List Int)}{k:Nat}(x:Int)(h:k<t.length):ranT t x (k+1)=ranT t x k+(rowT t k).count x:=by unfold ranT;rw[Zlh h,List.flatten_append,List.count_append];simp
theorem Zdq{t:List (List Int)}{k:Nat}(x:Int)(h:t.length<=k):ranT t x k=ranT t x t.length:=by unfold ranT;rw[Z6 h,Y6]
theorem Za0(t:List (List Int))(x:Int)(k:Nat):ranT t x (k+1)=ranT t x k+(rowT t k).count x:=by
 rcases Zv k t.length with h|h
 ·exact Zgc x h
 ·rw[Zdq x (by omega),Zdq x h,ZpU h];simp
theorem Zbu(t:List (List Int))(x:Int){j k:Nat}(h:j<=k):ranT t x j<=ranT t x k:=by
  induction k with
  | zero => obtain rfl : j = 0 := by omega
            exact Zm _
  | succ k ih =>
    rcases Zv j (k+1)with hj|hj
    · have:=ih (by omega);rw[Za0];omega
    · obtain rfl:j=k+1:=by omega
      exact Zm _
theorem Zcm(t:List (List Int))(x:Int)(a k:Nat)(h:k<=a):ranT (t.take a) x k=ranT t x k:=by unfold ranT;rw[List.take_take,Nat.min_eq_left h]
theorem Zcn(t:List (List Int))(a i:Nat)(h:i<a):rowT (t.take a) i=rowT t i:=by unfold rowT;rw[Zi,Zi,YO,Zc h]
def Zdr(E:List (Int×Int))(need:List Int)(t:List (List Int))(x:Int)(k:Nat):Prop:=∀ e∈E,e.2=x->ZaJ need e.1<=ranT t e.1 k
instance (E:List (Int×Int)) (need:List Int) (t:List (List Int)) (x:Int) (k:Nat):Decidable (Zdr E need t x k):=by unfold Zdr;infer_instance
def oneV(E:List (Int×Int))(need:List Int)(t:List (List Int))(i c:Nat):Int:=
 if numT t i c= -1 then 0
 else if numT t i c<0\/(need.length:Int)<=numT t i c then 101
 else if numT t i c∈(rowT t i).take c then 102
 else if ZaJ need (numT t i c)<=ranT t (numT t i c) i then 105
 else if 0<ranT t (numT t i c) i/\numT t (i - 1) c≠numT t i c then 104
 else if ranT t (numT t i c) i=0/\¬Zdr E need t (numT t i c) i then 103
 else 0
def Za7(f:Nat->Int):Nat->Int
 |0=>0
 |k+1=>if Za7 f k=0 then f k else Za7 f k
theorem Zgd{f:Nat->Int}{k:Nat}(h:Za7 f k≠0):∀d,Za7 f (k+d)=Za7 f k
  |0=>rfl
  | d + 1 => by
    show(if Za7 f (k+d)=0 then f (k+d)else Za7 f (k+d))=_;rw[Zgd h d,Zb h]
theorem Zhg{f:Nat->Int}{k n:Nat}(h0:Za7 f k=0)(h:f k≠0)(hn:k<n):Za7 f n=f k:=by
 have h1:Za7 f (k+1)=f k:=by show(if Za7 f k=0 then f k else Za7 f k)=_;rw[Zc h0]
 have h2:=Zgd (f:=f) (k:=k+1) (by rw[h1];exact h) (n - (k+1));rw[show k+1+(n - (k+1))=n by omega]at h2;rw[h2,h1]
theorem ZcX{f:Nat->Int}{k:Nat}(h0:Za7 f k=0)(h:f k=0):Za7 f (k+1)=0:=by show(if Za7 f k=0 then f k else Za7 f k)=0;rw[Zc h0,h]
theorem firstV_zero{f:Nat->Int}{n:Nat}:Za7 f n=0↔ ∀k,k<n->f k=0:=by
  induction n with
  |zero=>exact⟨fun _ k hk=>absurd hk (by omega),fun _=>rfl⟩
  | succ n ih =>
    constructor
    · intro h k hk;have h':(if Za7 f n=0 then f n else Za7 f n)=0:=h;by_cases h0:Za7 f n=0
      · rw[Zc h0]at h';rcases Zv k n with h1|h1
        · exact ih.mp h0 k h1
        · rw[show k=n by omega];exact h'
      · rw[Zb h0]at h';exact absurd h' h0
    · intro h;exact ZcX (ih.mpr fun k hk=>h k (by omega)) (h n (by omega))
def ZpV(E:List (Int×Int))(need:List Int)(cores:Nat)(t:List (List Int))(i:Nat):Int:=Za7 (oneV E need t i) cores
def ZdT(E:List (Int×Int))(need:List Int)(cores:Nat)(t:List (List Int)):Int:=Za7 (ZpV E need cores t) t.length
structure Good(E:List (Int×Int))(need:List Int)(cores:Nat)(t:List (List Int)):Prop where
 rows:∀r∈t,r.length=cores
 one:∀i,i<t.length->∀c,c<cores->oneV E need t i c=0
theorem ZpW{E:List (Int×Int)}{need:List Int}{cores:Nat}{t:List (List Int)}(h:∀r∈t,r.length=cores):Good E need cores t↔ZdT E need cores t=0:=by
 unfold ZdT;rw[firstV_zero];constructor
 ·intro g i hi
  exact firstV_zero.mpr (g.one i hi)
 ·intro k
  exact⟨h,fun i hi=>firstV_zero.mp (k i hi)⟩
section
variable {E: List (Int × Int)}{need: List Int}{cores: Nat}{t: List (List Int)}
theorem ZnW{i c:Nat}(h:oneV E need t i c=0):numT t i c= -1\/((0<=numT t i c/\numT t i c<need.length)/\numT t i c∉(rowT t i).take c/\(ranT t (numT t i c) i:Int)<ZaJ need (numT t i c)/\
  (0<ranT t (numT t i c) i->numT t (i - 1) c=numT t i c)/\(ranT t (numT t i c) i=0->Zdr E need t (numT t i c) i)):=by
 unfold oneV at h;by_cases h1:numT t i c= -1
 ·exact .inl h1
 rw[Zb h1]at h;by_cases h2:numT t i c<0\/(need.length:Int)<=numT t i c
 ·rw[Zc h2]at h;exact Za h
 rw[Zb h2]at h;by_cases h3:numT t i c∈(rowT t i).take c
 ·rw[Zc h3]at h;exact Za h
 rw[Zb h3]at h;by_cases h4:ZaJ need (numT t i c)<=ranT t (numT t i c) i
 ·rw[Zc h4]at h;exact Za h
 rw[Zb h4]at h;by_cases h5:0<ranT t (numT t i c) i/\numT t (i - 1) c≠numT t i c
 ·rw[Zc h5]at h;exact Za h
 rw[Zb h5]at h;by_cases h6:ranT t (numT t i c) i=0/\¬Zdr E need t (numT t i c) i
 ·rw[Zc h6]at h;exact Za h
 refine .inr ⟨⟨by omega,by omega⟩,h3,by omega,fun k=> ?_,fun k=> ?_⟩
 ·exact Zn fun q=>h5 ⟨k,q⟩
 ·exact Zn fun q=>h6 ⟨k,q⟩
theorem ZcM(a i c:Nat)(h:i<a):oneV E need (t.take a) i c=oneV E need t i c:=by have h1:rowT (t.take a) i=rowT t i:=Zcn t a i h;have h2:rowT (t.take a) (i - 1)=rowT t (i - 1):=Zcn t a (i - 1) (by omega);have h3:∀x,ranT (t.take a) x i=ranT t x i:=fun x=>Zcm t x a i (by omega);unfold oneV numT Zdr;simp only[h1,h2,h3]
theorem Good.take(G:Good E need cores t)(a:Nat):Good E need cores (t.take a):=
 ⟨fun r hr=>G.rows r (YY hr),fun i hi c hc=>by rw[ZP]at hi;rw[ZcM a i c (by omega)];exact G.one i (by omega) c hc⟩
theorem Good.len(G:Good E need cores t){i:Nat}(h:i<t.length):(rowT t i).length=cores:=G.rows _ (Zlg h)
theorem Good.at_(G:Good E need cores t){i c:Nat}(hi:i<t.length)(hc:c<cores)(x:Int)(hx:numT t i c=x)(h1:x≠ -1):
  (0<=x/\x<need.length)/\x∉(rowT t i).take c/\(ranT t x i:Int)<ZaJ need x/\(0<ranT t x i->numT t (i - 1) c=x)/\(ranT t x i=0->Zdr E need t x i):=by
 subst hx;rcases ZnW (G.one i hi c hc)with h|h
 ·exact absurd h h1
 ·exact h
theorem ZeT{i:Nat}{x:Int}(h:x∈rowT t i):∃c,c<(rowT t i).length/\numT t i c=x:=by obtain⟨c,hc,he⟩:=ZA h;refine⟨c,hc,?_⟩;unfold numT;rw[Zi,Zh hc];exact he
theorem ZeU{i c:Nat}(h:c<(rowT t i).length):numT t i c∈rowT t i:=by unfold numT;rw[Zi,Zh h];exact Zz h
theorem Zco{l:List Int}{k:Nat}(h:k<l.length)(x:Int):(l.take (k+1)).count x=(l.take k).count x+if l.getD k (-1)=x then 1 else 0:=by rw[List.take_add_one,Zh h,Zi,Zh h];simp only[Option.toList_some,Option.getD_some,List.count_append,List.count_singleton,beq_iff_eq]
theorem Good.count(G:Good E need cores t){i:Nat}(hi:i<t.length)(x:Int)(h1:x≠ -1):(rowT t i).count x<=1:=by
  have hl:=G.len hi;have key:∀k,k<=cores->((rowT t i).take k).count x<=1:=by
    intro k
    induction k with
    |zero=>intro _;simp
    | succ k ih =>
      intro hk;rw[Zco (by omega)];by_cases hx:(rowT t i).getD k (-1)=x
      · rw[Zc hx];have h2:=(G.at_ hi (by omega:k<cores) x hx h1).2.1;rw[Yi.mpr h2];omega
      · rw[Zb hx];exact ih (by omega)
  have:=key cores (Zm _)
  rwa [Z6 (by omega)]at this
theorem Good.mem(G:Good E need cores t){i:Nat}(hi:i<t.length){x:Int}(hx:x∈rowT t i):x= -1\/(0<=x/\x<need.length):=by
 obtain⟨c,hc,he⟩:=ZeT hx;by_cases h1:x= -1
 ·exact .inl h1
 ·exact .inr (G.at_ hi (by rw[G.len hi]at hc;exact hc) x he h1).1
theorem Good.ran_le(G:Good E need cores t)(hn:∀z∈need,1<=z){x:Int}(h0:0<=x)(hx:x<need.length):∀k,(ranT t x k:Int)<=ZaJ need x:=by
  intro k
  induction k with
  | zero =>
    rw[Zbt];have h2:x.toNat<need.length:=by omega
    have:=hn need[x.toNat] (Zz h2);unfold ZaJ;rw[Zi,Zh h2]
    simp;omega
  | succ k ih =>
    rcases Zv k t.length with hk|hk
    · rw[Za0];by_cases hm:x∈rowT t k
      · obtain⟨c,hc,he⟩:=ZeT hm;have h1:=(G.at_ hk (by rw[G.len hk]at hc;exact hc) x he (by omega)).2.2.1;have h2:=G.count hk x (by omega);omega
      · rw[Yi.mpr hm];omega
    · rw[Zdq x (by omega),<-Zdq x hk];exact ih
def RunT(t:List (List Int))(cores:Nat)(x:Int)(k s m c:Nat):Prop:=0<m/\s+m<=k/\c<cores/\ranT t x k=m/\∀i,i<k->∀d,d<cores->(numT t i d=x↔(s<=i/\i<s+m)/\d=c)
theorem Good.run(G:Good E need cores t)(x:Int)(h1:x≠ -1):∀k,k<=t.length->ranT t x k=0\/ ∃s m c,RunT t cores x k s m c:=by
  intro k
  induction k with
  |zero=>exact fun _=> .inl (Zbt t x)
  | succ k ih =>
    intro hk;have hkt:k<t.length:=by omega
    have hl:=G.len hkt;by_cases hm:x∈rowT t k
    · obtain⟨c,hc,he⟩:=ZeT hm;rw[hl]at hc;have ha:=G.at_ hkt hc x he h1;have hcount:(rowT t k).count x=1:=by
        have:=G.count hkt x h1;have:=Yz.mpr hm;omega
      have huniq:∀d,d<cores->numT t k d=x->d=c:=by
        intro d hd hdx;have hb:=G.at_ hkt hd x hdx h1;have part:∀a b,a<b->b<cores->numT t k a=x->x∉(rowT t k).take b->False:=by intro a b hab hb hax hn;refine hn ?_;rw[<-hax];unfold numT;rw[Zi,Zh (by omega:a<(rowT t k).length)];rw[List.mem_iff_getElem?];refine⟨a,?_⟩;rw[YO,Zc hab,Zh (by omega:a<(rowT t k).length)];rfl
        rcases Nat.lt_trichotomy d c with h|h|h
        · exact(part d c h hc hdx ha.2.1).elim
        · exact h
        · exact(part c d h hd he hb.2.1).elim
      have hs:=Za0 t x k;right;rcases ih (by omega)with h0|⟨s,m,c',hm0,hsm,hc',hr,hiff⟩
      · refine⟨k,1,c,by omega,by omega,hc,by omega,fun i hi d hd=> ?_⟩;rcases Zv i k with hik|hik
        · constructor
          · intro hx;exfalso;have h2:x∈rowT t i:=by rw[<-hx];exact ZeU (by rw[G.len (by omega)];exact hd)
            have h3:=Za0 t x i;have h4:=Yz.mpr h2;have h5:=Zbu t x (show i+1<=k by omega);omega
          · intro h;omega
        · obtain rfl:i=k:=by omega
          constructor
          · intro hx;exact⟨by omega,huniq d hd hx⟩
          · rintro⟨_,rfl⟩;exact he
      · have h2:=ha.2.2.2.1 (by omega);have hk1:k - 1<k:=by omega
        have h3:=(hiff (k - 1) hk1 c hc).mp h2;obtain rfl:c=c':=h3.2;refine⟨s,m+1,c,by omega,by omega,hc,by omega,fun i hi d hd=> ?_⟩;rcases Zv i k with hik|hik
        · rw[hiff i hik d hd];constructor
          · intro h;exact⟨by omega,h.2⟩
          · intro h;exact⟨by omega,h.2⟩
        · obtain rfl:i=k:=by omega
          constructor
          · intro hx;exact⟨by omega,huniq d hd hx⟩
          · rintro⟨_,rfl⟩;exact he
    · have hs:=Za0 t x k;rw[Yi.mpr hm]at hs;have hno:∀d,d<cores->numT t k d≠x:=fun d hd h=>hm (by rw[<-h];exact ZeU (by omega));rcases ih (by omega)with h0|⟨s,m,c',hm0,hsm,hc',hr,hiff⟩
      · exact .inl (by omega)
      · refine .inr ⟨s,m,c',hm0,by omega,hc',by omega,fun i hi d hd=> ?_⟩;rcases Zv i k with hik|hik
        · exact hiff i hik d hd
        · obtain rfl:i=k:=by omega
          constructor
          · intro hx;exact absurd hx (hno d hd)
          · intro h;omega
theorem RunT.ran(G:Good E need cores t){x:Int}(h1:x≠ -1){k s m c:Nat}(hk:k<=t.length)(h:RunT t cores x k s m c):∀j,j<=k->ranT t x j=min (j - s) m:=by
  obtain⟨hm,hsm,hc,hr,hiff⟩:=h;intro j
  induction j with
  |zero=>intro _;rw[Zbt];omega
  | succ j ih =>
    intro hj;have ih:=ih (by omega);rw[Za0,ih];have hl:=G.len (show j<t.length by omega);by_cases hx:x∈rowT t j
    · obtain⟨d,hd,he⟩:=ZeT hx;have h2:=(hiff j (by omega) d (by omega)).mp he;have:=G.count (show j<t.length by omega) x h1;have:=Yz.mpr hx;omega
    · rw[Yi.mpr hx];have h2:¬(s<=j/\j<s+m):=fun h=>hx (by rw[<-(hiff j (by omega) c hc).mpr ⟨h,rfl⟩];exact ZeU (by omega));omega
end
def endV(need:List Int)(t:List (List Int))(x:Int):Int:=
 match(Zo (t.length+1)).find? (fun k=>decide (ZaJ need x<=ranT t x k))with
 |some k=>k
 |none=> -1
def GreedyT(E:List (Int×Int))(need:List Int)(t:List (List Int)):Prop:=
 ∀i,i<t.length->(-1)∈rowT t i->∀n,n<need.length->ranT t (n:Int) i=0->(n:Int)∉rowT t i->¬Zdr E need t (n:Int) i
section
variable {E: List (Int × Int)}{need: List Int}{cores: Nat}{t: List (List Int)}
theorem ZdG{p:Nat->Bool}{k n:Nat}(hk:p k=true)(hn:k<n)(h:∀j,j<k->p j=false):(Zo n).find? p=some k:=by rw[List.find?_eq_some_iff_getElem];refine⟨hk,k,by simpa using hn,by simp,fun j hj=> ?_⟩;simp[h j hj]
theorem Zge{x:Int}{k:Nat}(hk:k<=t.length)(h:ZaJ need x<=ranT t x k)(hl:∀j,j<k->(ranT t x j:Int)<ZaJ need x):endV need t x=k:=by unfold endV;rw[ZdG (k:=k) (by simpa using h) (by omega) (fun j hj=>by simpa using hl j hj)]
theorem ZiS{x:Int}(h:(ranT t x t.length:Int)<ZaJ need x):endV need t x= -1:=by
 unfold endV;have:(Zo (t.length+1)).find? (fun k=>decide (ZaJ need x<=ranT t x k))=none:=by
  rw[List.find?_eq_none];intro k hk;have hk':k<=t.length:=by simp at hk;omega
  have:=Zbu t x hk';simp;omega
 rw[this]
theorem ZdH(x:Int):(endV need t x= -1/\(ranT t x t.length:Int)<ZaJ need x)\/ ∃k:Nat,endV need t x=k/\k<=t.length/\ZaJ need x<=ranT t x k/\∀j,j<k->(ranT t x j:Int)<ZaJ need x:=by
  rcases Int.lt_or_le (ranT t x t.length) (ZaJ need x)with h|h
  · exact .inl ⟨ZiS h,h⟩
  · right;have hex:∃k,ZaJ need x<=ranT t x k:=⟨t.length,h⟩;have key:∀n:Nat,ZaJ need x<=ranT t x n->∃k,k<=n/\ZaJ need x<=ranT t x k/\∀j,j<k->(ranT t x j:Int)<ZaJ need x:=by
      intro n
      induction n with
      |zero=>exact fun h0=>⟨0,Zm _,h0,fun j hj=>by omega⟩
      | succ n ih =>
        intro h0;by_cases h1:ZaJ need x<=ranT t x n
        · obtain⟨k,hk,h2,h3⟩:=ih h1;exact⟨k,by omega,h2,h3⟩
        · refine⟨n+1,Zm _,h0,fun j hj=> ?_⟩;have:=Zbu t x (show j<=n by omega);omega
    obtain⟨k,hk,h2,h3⟩:=key t.length h;exact⟨k,Zge hk h2 h3,hk,h2,h3⟩
theorem Zds(hn:∀z∈need,1<=z){x:Int}(h0:0<=x)(hx:x<need.length):1<=ZaJ need x:=by
 have h2:x.toNat<need.length:=by omega
 have:=hn need[x.toNat] (Zz h2);unfold ZaJ;rw[Zi,Zh h2];simpa using this
theorem ZcN{n:Nat}:ZaJ need (n:Int)=need.getD n 0:=by unfold ZaJ;rw[Int.toNat_natCast]
theorem Good.done(G:Good E need cores t)(hn:∀z∈need,1<=z){x:Int}(h0:0<=x)(hx:x<need.length)(hd:0<=endV need t x):
  ∃s m c,RunT t cores x t.length s m c/\(m:Int)=ZaJ need x/\endV need t x=((s+m:Nat):Int):=by
 rcases ZdH (need:=need) (t:=t) x with⟨h,_⟩|⟨k,hk,hkl,h1,h2⟩
 ·omega
 have hp:=Zds hn h0 hx;have hle:=G.ran_le hn h0 hx;rcases G.run x (by omega) t.length (Zm _)with h3|⟨s,m,c,hr⟩
 ·have:=Zbu t x hkl
  omega
 ·have hran:=hr.ran G (by omega) (Zm _)
  have hm:(m:Int)=ZaJ need x:=by have e1:=hr.2.2.2.1;have:=Zbu t x hkl;have:=hle t.length;omega
  refine⟨s,m,c,hr,hm,?_⟩;have:=hr.2.1;refine Zge this ?_ (fun j hj=> ?_)
  ·rw[hran _ this];omega
  ·rw[hran _ (by omega)];have:=hr.1;omega
theorem ZhT{x:Int}{k:Nat}(h:ZaJ need x<=ranT t x k):0<=endV need t x/\endV need t x<=k:=by
 rcases ZdH (need:=need) (t:=t) x with⟨_,h2⟩|⟨j,hk,h1,h2,h3⟩
 ·exfalso
  rcases Zv k t.length with hk|hk
  ·have:=Zbu t x (Nat.le_of_lt hk);omega
  ·rw[Zdq x hk]at h;omega
 ·rw [hk]
  refine⟨by omega,?_⟩;rcases Zv k j with h4|h4
  ·have:=h3 k h4;omega
  ·omega
theorem Zj2{x:Int}{k:Nat}(h:(ranT t x k:Int)<ZaJ need x)(hd:0<=endV need t x):(k:Int)<endV need t x:=by
 rcases ZdH (need:=need) (t:=t) x with⟨h1,_⟩|⟨j,hk,h1,h2,h3⟩
 ·omega
 ·rw [hk]
  rcases Zv k j with h4|h4
  ·omega
  ·have:=Zbu t x h4;omega
theorem Good.began(G:Good E need cores t){x:Int}(h1:x≠ -1){k s m c:Nat}(hk:k<=t.length)(h:RunT t cores x k s m c):Zdr E need t x s:=by have hran:=h.ran G h1 hk;obtain⟨hm,hsm,hc,hr,hiff⟩:=h;have hx:=(hiff s (by omega) c hc).mpr ⟨⟨by omega,by omega⟩,rfl⟩;exact(G.at_ (by omega) hc x hx h1).2.2.2.2 (by rw[hran s (by omega)];omega)
def sumN(f:Nat->Nat):Nat->Nat
 |0=>0
 |n+1=>sumN f n+f n
theorem ZfB(f g:Nat->Nat):∀n,sumN (fun x=>f x+g x) n=sumN f n+sumN g n
  |0=>rfl
  | n + 1 => by
    show sumN (fun x=>f x+g x) n+(f n+g n)=(sumN f n+f n)+(sumN g n+g n);rw[ZfB f g n];omega
theorem ZaP{f g:Nat->Nat}:∀{n},(∀k,k<n->f k=g k)->sumN f n=sumN g n
  |0,_=>rfl
  | n + 1, h => by
    show sumN f n+f n=sumN g n+g n;rw[ZaP fun k hk=>h k (by omega),h n (by omega)]
theorem Zdt:∀n,sumN (fun _=>0) n=0
 |0=>rfl
 |n+1=>by show sumN _ n+0=0;rw[Zdt n]
theorem ZbZ{f g:Nat->Nat}:∀{n},(∀k,k<n->f k<=g k)->sumN f n<=sumN g n
  |0,_=>Zm _
  | n + 1, h => by
    show sumN f n+f n<=sumN g n+g n;have:=ZbZ (f:=f) (g:=g) (n:=n) fun k hk=>h k (by omega);have:=h n (by omega);omega
theorem ZnX{f g:Nat->Nat}:∀{n},(∀k,k<n->f k<=g k)->sumN f n=sumN g n->∀k,k<n->f k=g k
  |0,_,_,k,hk=>absurd hk (by omega)
  | n + 1, h, e, k, hk => by
    have e':sumN f n+f n=sumN g n+g n:=e;have h1:=ZbZ (f:=f) (g:=g) (n:=n) fun k hk=>h k (by omega);have h2:=h n (by omega);rcases Zv k n with h3|h3
    · exact ZnX (fun k hk=>h k (by omega)) (by omega) k h3
    · rw[show k=n by omega];omega
theorem Zli(a:Int):∀n,sumN (fun x=>if a=(x:Int)then 1 else 0) n=if 0<=a/\a<(n:Int)then 1 else 0
  | 0 => by
    show 0=_
    rw[Zb (by omega)]
  | n + 1 => by
    show sumN _ n+(if a=(n:Int)then 1 else 0)=_;rw[Zli a n];by_cases h:a=(n:Int)
    · rw[Zc h,Zb (by omega),Zc (by omega)]
    · rw[Zb h];by_cases h2:0<=a/\a<(n:Int)
      · rw[Zc h2,Zc (by omega)]
      · rw[Zb h2,Zb (by omega)]
theorem ZiT(n:Nat):∀l:List Int,(∀x∈l,x= -1\/(0<=x/\x<n))->l.length=l.count (-1)+sumN (fun x=>l.count (x:Int)) n
  | [],_=>by simp[Zdt]
  | a :: l, h => by
    have ih:=ZiT n l fun x hx=>h x (List.mem_cons_of_mem _ hx);have hs:sumN (fun x=>(a::l).count (x:Int)) n=sumN (fun x=>l.count (x:Int)) n+if 0<=a/\a<(n:Int)then 1 else 0:=by rw[<-Zli a n,<-ZfB];refine ZaP fun k _=> ?_;rw[YP];simp only[beq_iff_eq]
    rw[hs,List.length_cons,YP];rcases h a (by simp)with rfl|h1
    · have e:¬(0<=(-1:Int)/\(-1:Int)<(n:Int)):=by omega
      rw[Zb e];simp;omega
    · rw[Zc h1];have:¬(a== -1)=true:=by simp;omega
      rw[Zb this];omega
def ZeV(t:List (List Int))(k:Nat):Nat:=ranT t (-1) k
theorem ZfC(h:∀r∈t,r.length=cores):∀k,k<=t.length->(t.take k).flatten.length=cores * k
  |0,_=>by simp
  | k + 1, hk => by
    rw[Zlh (by omega),List.flatten_append,List.length_append,ZfC h k (by omega)];have:=h _ (Zlg (show k<t.length by omega));simp[this,Nat.mul_succ]
theorem Good.flat(G:Good E need cores t)(k:Nat):∀x∈(t.take k).flatten,x= -1\/(0<=x/\x<(need.length:Int)):=by intro x hx;rw[List.mem_flatten]at hx;obtain⟨r,hr,hx⟩:=hx;obtain⟨i,hi,he⟩:=ZA (YY hr);refine G.mem (i:=i) hi ?_;rw[Zdp (Zh hi),he];exact hx
theorem Good.all(G:Good E need cores t){k:Nat}(hk:k<=t.length):cores * k=ZeV t k+sumN (fun x=>ranT t (x:Int) k) need.length:=by rw[<-ZfC G.rows k hk,ZiT need.length _ (G.flat k)];rfl
theorem ZiU:∀(l:List Int),(∀z∈l,0<=z)->(sumN (fun x=>(l.getD x 0).toNat) l.length:Int)=l.sum:=by
  intro l hl;have key:∀k,k<=l.length->(sumN (fun x=>(l.getD x 0).toNat) k:Int)=(l.take k).sum:=by
    intro k
    induction k with
    |zero=>intro _;simp[sumN]
    | succ k ih =>
      intro hk;have h2:k<l.length:=by omega
      have h1:=hl l[k] (Zz h2);show((sumN _ k+(l.getD k 0).toNat:Nat):Int)=_;rw[Int.natCast_add,ih (by omega),List.take_add_one,List.sum_append,Zi,Zh h2];simp;omega
  have:=key l.length (Zm _)
  rwa [Y6]at this
theorem Good.busy_le(G:Good E need cores t)(hn:∀z∈need,1<=z)(k:Nat):(sumN (fun x=>ranT t (x:Int) k) need.length:Int)<=need.sum:=by
 rw[<-ZiU need (fun z hz=>by have:=hn z hz;omega)];have:=ZbZ (f:=fun x=>ranT t (x:Int) k) (g:=fun x=>(need.getD x 0).toNat) (n:=need.length) fun j hj=>by have:=G.ran_le hn (x:=(j:Int)) (by omega) (by omega) k;rw[ZcN]at this;omega
 omega
theorem ZpX{i:Nat}{x:Int}(h:x∈rowT t i)(h1:x≠ -1):(rowT t i).count (-1)+1<=(rowT t i).length:=by have h2:=List.count_le_length (a:=(-1:Int)) (l:=(rowT t i).erase x);rw[List.length_erase_of_mem h,List.count_erase_of_ne (by omega)]at h2;have:=List.length_pos_of_mem h;omega
theorem ZpY(G:Good E need cores t){x:Int}(h1:x≠ -1){s m c:Nat}(h:RunT t cores x t.length s m c):∀j,j<=m->(ZeV t (s+j):Int)<=ZeV t s+((cores:Int) - 1) * j:=by
  intro j
  induction j with
  |zero=>intro _;simp
  | succ j ih =>
    intro hj;have ih:=ih (by omega);have h2:=(h.2.2.2.2 (s+j) (by have:=h.2.1;omega) c h.2.2.1).mpr ⟨⟨by omega,by omega⟩,rfl⟩;have hlt:s+j<t.length:=by have:=h.2.1;omega
    have hm:x∈rowT t (s+j):=by rw[<-h2];exact ZeU (by rw[G.len hlt];exact h.2.2.1)
    have h3:=ZpX hm h1;rw[G.len hlt]at h3;unfold ZeV at *;rw[show s+(j+1)=(s+j)+1 by omega,Za0];have:((cores:Int) - 1) * ((j+1:Nat):Int)=((cores:Int) - 1) * j+((cores:Int) - 1):=by rw[Int.natCast_add,Int.mul_add];simp
    rw[this];omega
theorem ZiV(W:List Int)(a:Nat)(r:List Nat):wsum W (a::r)=W.getD a 0+wsum W r:=by unfold wsum;simp
theorem chain(G:Good E need cores t)(hg:GreedyT E need t)(hF:Fits need.length E)(hn:∀z∈need,1<=z)(hd:∀n,n<need.length->0<=endV need t (n:Int))(h1:1<=cores):
    ∀(e n:Nat),n<need.length->endV need t (n:Int)=e->∃r,Up E (n::r)/\In need.length (n::r)/\(ZeV t e:Int)<=((cores:Int) - 1) * wsum need (n::r):=by
  intro e
  induction e using Nat.strongRecOn with
  | _ e ih =>
    intro n hnl he;obtain⟨s,m,c,hr,hm,hsm⟩:=G.done hn (x:=(n:Int)) (by omega) (by omega) (hd n hnl);have hsm':e=s+m:=by omega
    have hm0:=hr.1;have hfree:=G.began (x:=(n:Int)) (by omega) (Zm _) hr;have hran:=hr.ran G (by omega) (Zm _);have hrun:=ZpY G (x:=(n:Int)) (by omega) hr m (Zm _);rw[ZcN]at hm;have ahead:∀k,k<=s->ZeV t k=0\/ ∃p r,ed E p n/\p<need.length/\Up E (p::r)/\In need.length (p::r)/\(ZeV t k:Int)<=((cores:Int) - 1) * wsum need (p::r):=by
      intro k
      induction k with
      |zero=>exact fun _=> .inl (Zbt t (-1))
      | succ k ihk =>
        intro hk;have hkt:k<t.length:=by have:=hr.2.1;omega
        by_cases hm1:(-1:Int)∈rowT t k
        · have hnot:(n:Int)∉rowT t k:=by
            intro hmem;have h2:=Za0 t (n:Int) k;have:=Yz.mpr hmem;rw[hran (k+1) (by omega)]at h2;omega
          have h3:=hg k hkt hm1 n hnl (by rw[hran k (by omega)];omega) hnot;have h4:∃e∈E,e.2=(n:Int)/\(ranT t e.1 k:Int)<ZaJ need e.1:=by apply Zn;intro hno;refine h3 fun e he h5=> ?_;apply Zn;intro h6;exact hno ⟨e,he,h5,by omega⟩
          obtain⟨⟨a,b⟩,heE,hb,hlt⟩:=h4;simp only at hb hlt;subst hb;have hfe:=hF _ heE;simp only at hfe;obtain⟨p,rfl⟩:∃p:Nat,a=(p:Int):=⟨a.toNat,by omega⟩;have hpl:p<need.length:=by omega
          have hdp:=hd p hpl;have h7:=Zj2 hlt hdp;have h8:=ZhT (hfree _ heE rfl);simp only at h8;obtain⟨r,hu,hi,hle⟩:=ih (endV need t (p:Int)).toNat (by omega) p hpl (by omega);refine .inr ⟨p,r,heE,hpl,hu,hi,?_⟩;have:=Zbu t (-1) (show k+1<=(endV need t (p:Int)).toNat by omega);unfold ZeV at *;omega
        · have h2:ZeV t (k+1)=ZeV t k:=by
            unfold ZeV;rw[Za0,Yi.mpr hm1];omega
          rw[h2];exact ihk (by omega)
    rcases ahead s (Zm _)with h0|⟨p,r,hed,hpl,hu,hi,hle⟩
    · refine⟨[],trivial,fun x hx=> ?_,?_⟩
      · obtain rfl:x=n:=by simpa using hx
        exact hnl
      · rw[hsm',ZiV];have:wsum need []=0:=rfl;rw[this,Int.add_zero,<-hm];omega
    · refine⟨p::r,⟨hed,hu⟩,fun x hx=> ?_,?_⟩
      · rcases List.mem_cons.mp hx with rfl|hx
        · exact hnl
        · exact hi x hx
      · rw[hsm',ZiV,<-hm,Int.mul_add];omega
theorem Zsq(G:Good E need cores t)(hg:GreedyT E need t)(hF:Fits need.length E)(hn:∀z∈need,1<=z)(hd:∀n,n<need.length->0<=endV need t (n:Int))(h1:1<=cores)(L:Int)(hL:Zg8 need E L):
  ∀(n:Nat),n<need.length->(cores:Int) * endV need t (n:Int)<=need.sum+((cores:Int) - 1) * L:=by
 intro n hnl;obtain⟨s,m,c,hr,hm,hsm⟩:=G.done hn (x:=(n:Int)) (by omega) (by omega) (hd n hnl);obtain⟨r,hu,hi,hle⟩:=chain G hg hF hn hd h1 (s+m) n hnl hsm;have hall:=G.all (k:=s+m) hr.2.1;have hb:=G.busy_le hn (s+m);have hw:=hL.1 _ hu hi;have h2:((cores:Int) - 1) * wsum need (n::r)<=((cores:Int) - 1) * L:=Int.mul_le_mul_of_nonneg_left hw (by omega);rw[hsm];have h3:(cores:Int) * ((s+m:Nat):Int)=((cores * (s+m):Nat):Int):=by simp
 rw[h3,hall,Int.natCast_add];omega
theorem GreedyT.take(h:GreedyT E need t)(a:Nat):GreedyT E need (t.take a):=by
 intro i hi h1 n hn h2 h3 h4;have hia:i<a:=by rw[ZP]at hi;omega
 rw[Zcn t a i hia]at h1 h3;rw[Zcm t _ a i (by omega)]at h2;refine h i (by rw[ZP]at hi;omega) h1 n hn h2 h3 (fun e he h5=> ?_);have:=h4 e he h5
 rwa [Zcm t _ a i (by omega)]at this
def Zj3(t:List (List Int)):Nat:=t.flatten.countP (fun x=>x != -1)
theorem ZpZ(t:List (List Int)):Zj3 t+t.flatten.count (-1)=t.flatten.length:=by unfold Zj3;rw[List.length_eq_countP_add_countP (fun x=>x !=(-1:Int)) (l:=t.flatten),List.count];congr 1;refine List.countP_congr fun x _=> ?_;simp
theorem Good.busy(G:Good E need cores t)(hn:∀z∈need,1<=z):(Zj3 t:Int)<=need.sum/\((Zj3 t:Int)=need.sum↔ ∀n,n<need.length->0<=endV need t (n:Int))/\Zj3 t<=cores * t.length:=by
 have h1:=ZpZ t;have h2:=G.all (k:=t.length) (Zm _);have h3:=ZfC G.rows t.length (Zm _);rw[Y6]at h3;have h4:=G.busy_le hn t.length;have h5:ZeV t t.length=t.flatten.count (-1):=by unfold ZeV ranT;rw[Y6]
 have h6:Zj3 t=sumN (fun x=>ranT t (x:Int) t.length) need.length:=by omega
 refine⟨by rw[h6];exact h4,?_,by omega⟩;have hs:=ZiU need (fun z hz=>by have:=hn z hz;omega);have hle:∀j,j<need.length->ranT t (j:Int) t.length<=(need.getD j 0).toNat:=fun j hj=>by have:=G.ran_le hn (x:=(j:Int)) (by omega) (by omega) t.length;rw[ZcN]at this;omega
 rw[h6,<-hs];constructor
 ·intro he n hnl
  have:=ZnX hle (by omega) n hnl;have hp:=Zds hn (x:=(n:Int)) (by omega) (by omega);rw[ZcN]at hp;exact(ZhT (k:=t.length) (by rw[ZcN];omega)).1
 ·intro hd
  have:sumN (fun x=>ranT t (x:Int) t.length) need.length=sumN (fun x=>(need.getD x 0).toNat) need.length:=ZaP fun k hk=>by
   have h7:=hd k hk;have h8:=hle k hk;rcases ZdH (need:=need) (t:=t) (k:Int)with⟨h9,_⟩|⟨j,_,hj,h10,_⟩
   ·omega
   ·have:=Zbu t (k: Int) hj
    rw[ZcN]at h10;omega
  rw[this]
end
open Go.RowKit
def Trc(w:World)(B:Nat)(A:Option Addr)(t:List (List Int)):Prop:=
 0<t.length->∃b off,A=some ⟨b,off,none⟩/\b<B/\∀k r,t[k]?=some r->∃A1 c1,w.cell? ⟨b,off+k,none⟩=some (.slice A1 r.length c1)/\Ints w B A1 r/\((A1=none->r.length=0/\c1=0)/\r.length<=c1)
theorem Trc.at_{w:World}{B:Nat}{A:Option Addr}{t:List (List Int)}{k:Nat}(h:Trc w B A t)(hk:k<t.length):
  ∃b off r A1 n1 c1,A=some ⟨b,off,none⟩/\b<B/\t[k]?=some r/\r.length=n1/\w.cell? ⟨b,off+k,none⟩=some (.slice A1 n1 c1)/\Ints w B A1 r/\((A1=none->n1=0/\c1=0)/\n1<=c1):=by
 obtain⟨b,off,e,hb,hc⟩:=h (by omega);have he:t[k]?=some t[k]:=Zh hk;obtain⟨A1,c1,h1,h2,h3⟩:=hc k _ he;exact⟨b,off,t[k],A1,_,c1,e,hb,he,rfl,h1,h2,h3⟩
theorem Trc.keep{w w':World}{B:Nat}{A:Option Addr}{t:List (List Int)}(h:Trc w B A t)(hk:∀p:Addr,p.block<B->w'.cell? p=w.cell? p):Trc w' B A t:=fun hn=>by obtain⟨b,off,e,hb,hc⟩:=h hn;refine⟨b,off,e,hb,fun k x hx=> ?_⟩;obtain⟨A1,c1,h1,h2,h3⟩:=hc k x hx;exact⟨A1,c1,(hk _ hb).trans h1,h2.keep hk,h3⟩
theorem Trc.more{w:World}{B B':Nat}{A:Option Addr}{t:List (List Int)}(h:Trc w B A t)(hB:B<=B'):Trc w B' A t:=fun hn=>by obtain⟨b,off,e,hb,hc⟩:=h hn;refine⟨b,off,e,by omega,fun k x hx=> ?_⟩;obtain⟨A1,c1,h1,h2,h3⟩:=hc k x hx;exact⟨A1,c1,h1,h2.more hB,h3⟩
theorem Trc.below{w w':World}{B:Nat}{A:Option Addr}{t:List (List Int)}(h:Trc w B A t)(hb:Below B w w'):Trc w' B A t:=h.keep fun _ hp=>hb.cell hp
theorem Trc.nil_(w:World)(B:Nat)(A:Option Addr):Trc w B A []:=fun h=>absurd h (by simp)
theorem Trc.take{w:World}{B:Nat}{A:Option Addr}{t:List (List Int)}(h:Trc w B A t)(i:Nat):Trc w B A (t.take i):=fun hn=>by
 have hl:(t.take i).length<=t.length:=by simp;omega
 obtain⟨b,off,e,hb,hc⟩:=h (by omega);refine⟨b,off,e,hb,fun k r hk=> ?_⟩;rw[YO]at hk;split at hk
 ·exact hc k r hk
 ·cases hk
structure IsS(w:World)(N:Option Addr)(nn nc:Nat)(T:Option Addr)(tn tc:Nat)(need:List Int)(t:List (List Int)):Prop where
 hn:need.length=nn
 ht:t.length=tn
 ln:nn<=400
 lt:tn<=400
 lr:∀r∈t,r.length<=400
 ints:Ints w w.heap.size N need
 rows:Trc w w.heap.size T t
 hN:N=none->nn=0/\nc=0
 hT:T=none->tn=0/\tc=0
theorem IsS.below{w w':World}{N:Option Addr}{nn nc:Nat}{T:Option Addr}{tn tc:Nat}{need:List Int}{t:List (List Int)}(h:IsS w N nn nc T tn tc need t)(hb:Below w.heap.size w w'):IsS w' N nn nc T tn tc need t:=
 ⟨h.hn,h.ht,h.ln,h.lt,h.lr,(h.ints.below hb).more hb.size,(h.rows.below hb).more hb.size,h.hN,h.hT⟩
def upd(f:Nat->Int)(n:Nat)(z:Int):Nat->Int:=fun k=>if k=n then z else f k
theorem ZiW(f:Nat->Int)(n:Nat)(z:Int):upd f n z n=z:=Zc rfl
theorem Zgf(f:Nat->Int){n k:Nat}(z:Int)(h:k≠n):upd f n z k=f k:=Zb h
def ZcO(ran lt lc:Nat->Int):List Value:=(Zo 64).map (fun n=>Value.int .i64 (ran n))++(Zo 128).map (fun j=>Value.int .i64 (if j%2=0 then lt (j/2)else lc (j/2)))
theorem Zbf(ran lt lc:Nat->Int):(ZcO ran lt lc).length=192:=by simp[ZcO]
theorem Zep{ran lt lc:Nat->Int}{n:Nat}(h:n<64):(ZcO ran lt lc)[n]?=some (.int .i64 (ran n)):=by unfold ZcO;rw[List.getElem?_append_left (by simpa using h),ZO,Y3 h];rfl
theorem Zlj{ran lt lc:Nat->Int}{j:Nat}(h:j<128):(ZcO ran lt lc)[64+j]?=some (.int .i64 (if j%2=0 then lt (j/2)else lc (j/2))):=by unfold ZcO;rw[List.getElem?_append_right (by simp),List.length_map,List.length_range,Nat.add_sub_cancel_left,ZO,Y3 h];rfl
theorem Zgg{ran lt lc:Nat->Int}{n:Nat}(h:n<64):(ZcO ran lt lc)[64+n * 2]?=some (.int .i64 (lt n)):=by rw[Zlj (by omega),Zc (by omega),show n * 2/2=n by omega]
theorem Zgh{ran lt lc:Nat->Int}{n:Nat}(h:n<64):(ZcO ran lt lc)[64+n * 2+1]?=some (.int .i64 (lc n)):=by rw[show 64+n * 2+1=64+(n * 2+1) by omega,Zlj (by omega),Zb (by omega),show(n * 2+1)/2=n by omega]
theorem Zgi{ran lt lc:Nat->Int}{l:List Value}(hl:l.length=192)(h1:∀n,n<64->l[n]?=some (.int .i64 (ran n)))(h2:∀n,n<64->l[64+n * 2]?=some (.int .i64 (lt n)))(h3:∀n,n<64->l[64+n * 2+1]?=some (.int .i64 (lc n))):l=ZcO ran lt lc:=by
 apply List.ext_getElem?;intro i;rcases Zv i 64 with hi|hi
 ·rw[h1 i hi,Zep hi]
 ·rcases Zv i 192 with hj | hj
  ·obtain ⟨k,hk | hk⟩:∃ k,i = 64 + k * 2 \/ i = 64 + k * 2 + 1:=⟨(i - 64) / 2,by omega⟩
   ·rw[hk,h2 k (by omega),Zgg (by omega)]
   ·rw[hk,h3 k (by omega),Zgh (by omega)]
  ·rw[Zt (by omega),Zt (by rw[Zbf];omega)]
theorem Zj4(ran lt lc:Nat->Int){n:Nat}(h:n<64)(z:Int):(ZcO ran lt lc).set n (.int .i64 z)=ZcO (upd ran n z) lt lc:=by
 refine Zgi (by rw[ZU,Zbf]) (fun k hk=> ?_) (fun k hk=> ?_) (fun k hk=> ?_)
 ·rw [Yh]
  by_cases e:n=k
  ·rw[Zc e,Zc (by rw[Zbf];omega),<-e,ZiW]
  ·rw[Zb e,Zep hk,Zgf _ _ (fun q=>e q.symm)]
 ·rw[Yh,Zb (by omega),Zgg hk]
 ·rw[Yh,Zb (by omega),Zgh hk]
theorem Zj5(ran lt lc:Nat->Int){n:Nat}(h:n<64)(z:Int):(ZcO ran lt lc).set (64+n * 2) (.int .i64 z)=ZcO ran (upd lt n z) lc:=by
 refine Zgi (by rw[ZU,Zbf]) (fun k hk=> ?_) (fun k hk=> ?_) (fun k hk=> ?_)
 ·rw[Yh,Zb (by omega),Zep hk]
 ·rw [Yh]
  by_cases e:n=k
  ·rw[Zc (by omega),Zc (by rw[Zbf];omega),<-e,ZiW]
  ·rw[Zb (by omega),Zgg hk,Zgf _ _ (fun q=>e q.symm)]
 ·rw[Yh,Zb (by omega),Zgh hk]
theorem Zj6(ran lt lc:Nat->Int){n:Nat}(h:n<64)(z:Int):(ZcO ran lt lc).set (64+n * 2+1) (.int .i64 z)=ZcO ran lt (upd lc n z):=by
 refine Zgi (by rw[ZU,Zbf]) (fun k hk=> ?_) (fun k hk=> ?_) (fun k hk=> ?_)
 ·rw[Yh,Zb (by omega),Zep hk]
 ·rw[Yh,Zb (by omega),Zgg hk]
 ·rw [Yh]
  by_cases e:n=k
  ·rw[Zc (by omega),Zc (by rw[Zbf];omega),<-e,ZiW]
  ·rw[Zb (by omega),Zgh hk,Zgf _ _ (fun q=>e q.symm)]
def Past(g:Nat)(ran lt lc:Nat->Int)(w:World):Prop:=RowV g 263 (ZcO ran lt lc) w
section
variable {g: Nat}{ran lt lc: Nat -> Int}{w w': World}
theorem Past.lt_(h:Past g ran lt lc w):g<w.heap.size:=RowV.lt h
theorem Past.cells(h:Past g ran lt lc w){n:Nat}(hn:n<64):w.cell? ⟨g,n,none⟩=some (.int .i64 (ran n))/\w.cell? ⟨g,64+n * 2,none⟩=some (.int .i64 (lt n))/\w.cell? ⟨g,64+n * 2+1,none⟩=some (.int .i64 (lc n)):=
 ⟨RowV.cell h (Zep hn),RowV.cell h (Zgg hn),RowV.cell h (Zgh hn)⟩
theorem Past.frozen(h:Past g ran lt lc w)(j:Nat):w.frozen? ⟨g,j,none⟩=false:=RowV.frozen h j
theorem Past.below(h:Past g ran lt lc w){B:Nat}(hb:Below B w w')(hB:g<B):Past g ran lt lc w':=RowV.below h hb hB
theorem Past.ran_(h:Past g ran lt lc w){n:Nat}(hn:n<64)(z:Int):Past g (upd ran n z) lt lc (w.setCell ⟨g,n,none⟩ (.int .i64 z)):=by unfold Past;rw[<-Zj4 _ _ _ hn];exact RowV.set h n _
theorem Past.place(h:Past g ran lt lc w){n:Nat}(hn:n<64)(a c:Int):Past g ran (upd lt n a) (upd lc n c) ((w.setCell ⟨g,64+n * 2,none⟩ (.int .i64 a)).setCell ⟨g,64+n * 2+1,none⟩ (.int .i64 c)):=by unfold Past;rw[<-Zj6 _ _ _ hn,<-Zj5 _ _ _ hn];exact RowV.set (RowV.set h _ _) _ _
end
structure Watch(gp gv gn:Nat)(N:Option Addr)(nn nc:Nat)(need:List Int)(ran lt lc:Nat->Int)(w:World):Prop where
 past:Past gp ran lt lc w
 v0:w.cell? ⟨gv,0,none⟩=some (.pointer (some ⟨gp,0,none⟩))
 n0:w.cell? ⟨gn,0,none⟩=some (.slice N nn nc)
 ints:Ints w gp N need
 hn:need.length=nn
 lv:gv<gp
 ln:gn<gp
section
variable {gp gv gn: Nat}{N: Option Addr}{nn nc: Nat}{need: List Int}{ran lt lc: Nat -> Int}{w w': World}
theorem Watch.below(h:Watch gp gv gn N nn nc need ran lt lc w)(hb:Below w.heap.size w w'):Watch gp gv gn N nn nc need ran lt lc w':=
 ⟨h.past.below hb h.past.lt_,(hb.cell (Zw _ _ h.v0)).trans h.v0,(hb.cell (Zw _ _ h.n0)).trans h.n0,h.ints.below (hb.mono (Nat.le_of_lt h.past.lt_)),h.hn,h.lv,h.ln⟩
theorem Watch.turned(h:Watch gp gv gn N nn nc need ran lt lc w){ran' lt' lc':Nat->Int}(hb:Below gp w w')(hp:Past gp ran' lt' lc' w'):Watch gp gv gn N nn nc need ran' lt' lc' w':=
 ⟨hp,(hb.cell h.lv).trans h.v0,(hb.cell h.ln).trans h.n0,h.ints.below hb,h.hn,h.lv,h.ln⟩
theorem Zp0(n:Nat)(z:Int)(w:World)(h:Watch gp gv gn N nn nc need ran lt lc w)(hn:n<64)(hz:need[n]?=some z):
  Calls Tryz.prog 253 #[.int .i64 n,.pointer (some ⟨gv,0,none⟩),.pointer (some ⟨gn,0,none⟩)] w fun e w'=>e=.returned (.bool (decide (ran n=z)))/\Below w.heap.size w w':=by
 obtain⟨d1,_,_⟩:=h.past.cells hn;have d2:=h.v0;have d3:=h.n0;have hl:n<nn:=by
  have:=h.hn;rcases Zv n need.length with k|k
  ·omega
  ·rw[Zt k]at hz;cases hz
 obtain⟨bk,off,z',rfl,hbg,hzz,hc⟩:=h.ints.at_ (k:=n) (by rw[h.hn];exact hl);obtain rfl:z=z':=by rw[hz]at hzz;injection hzz
 obtain⟨r,hr⟩:∃r,r=ran n:=⟨_,rfl⟩;rw[<-hr]at d1⊢;clear hr hz hzz h;go_enter func253,ntmps253;go_wp2
 go_quiet (fail)
 go_wp2;go_ret;exact⟨by rw[show(r==z)=decide (r=z)from by simp[BEq.beq]];rfl,(below_drewN (Below.refl _ _) _)⟩
theorem ZnY(N:Option Addr)(nn nc:Nat)(need:List Int)(w:World)(hn:need.length=nn)(hI:Ints w w.heap.size N need):
  Calls Tryz.prog 231 #[.slice N nn nc] w fun e w'=>∃gp gv gn,e=.returned (.tuple #[.pointer (some ⟨gp,0,none⟩),.func (.func 253) #[] #[.pointer (some ⟨gv,0,none⟩),.pointer (some ⟨gn,0,none⟩)]])/\
   Watch gp gv gn N nn nc need (fun _=>0) (fun _=>0) (fun _=>0) w'/\Below w.heap.size w w'/\w.heap.size<=gn/\w.heap.size<=gv/\w.heap.size<=gp:=by
 have HI:=Lib.hid hI;have HN:=Lib.hid hn;clear hI hn;go_enter func231,ntmps231;go_wp2;obtain⟨w1,hw1⟩:∃w1,w1=(w.alloc (.cells #[.slice N nn nc] 22)).alloc (.cells #[.pointer (some ⟨w.heap.size+1+1,0,none⟩)] 255):=⟨_,rfl⟩;rw[<-hw1];have s1:w1.heap.size=w.heap.size+2:=by rw[hw1];simp
 have b1:Below w.heap.size w w1:=by rw[hw1];exact(Zaa _).alloc (by simp) _
 have c0:w1.cell? ⟨w.heap.size,0,none⟩=some (.slice N nn nc):=by rw[hw1,World.cell?_alloc_lt _ _ _ (by simp),Zp _ _ _ _ rfl];rfl
 have c1:w1.cell? ⟨w.heap.size+1,0,none⟩=some (.pointer (some ⟨w.heap.size+1+1,0,none⟩)):=by rw[hw1,Zp _ _ _ _ (by simp)];rfl
 have hz:Tryz.zeroCells263=(ZcO (fun _=>0) (fun _=>0) (fun _=>0)).toArray:=by rfl
 rw[hz];have hp:Past (w.heap.size+1+1) (fun _=>0) (fun _=>0) (fun _=>0) (w1.alloc (.cells (ZcO (fun _=>0) (fun _=>0) (fun _=>0)).toArray 263)):=by have:=RowV.new w1 263 (ZcO (fun _=>0) (fun _=>0) (fun _=>0));rw[s1]at this;exact this
 have b2:Below w1.heap.size w1 (w1.alloc (.cells (ZcO (fun _=>0) (fun _=>0) (fun _=>0)).toArray 263)):=Zaa _;have d0:=(b2.cell (show(⟨w.heap.size,0,none⟩:Addr).block<_ by rw[s1];show w.heap.size<_;omega)).trans c0;have d1:=(b2.cell (show(⟨w.heap.size+1,0,none⟩:Addr).block<_ by rw[s1];show w.heap.size+1<_;omega)).trans c1;have hI:=((HI.out.below b1).below (b2.mono b1.size)).more (show w.heap.size<=w.heap.size+1+1 by omega);refine bodyPost_ret (v:=.tuple #[.pointer (some ⟨w.heap.size+1+1,0,none⟩),.func (.func 253) #[] #[.pointer (some ⟨w.heap.size+1,0,none⟩),.pointer (some ⟨w.heap.size,0,none⟩)]]) ?_ rfl
  ⟨w.heap.size+1+1,w.heap.size+1,w.heap.size,rfl,⟨hp,d1,d0,hI,HN.out,by omega,by omega⟩,b1.trans (b2.mono b1.size),by omega,by omega,by omega⟩
 rw[results_cell_tmp (p:=2) (u:=3) rfl];simp[go_sem,d1]
end
end Go.Proofs.YtfahabphncmbfaaGreatDoor
