import Derived.Test.YtngdbbligebcbabGreatDoorZM1
set_option linter.unusedVariables false
namespace Go.Proofs.YtngdbbligebcbabGreatDoor
def endV(need:List Int)(t:List (List Int))(x:Int):Int:=
 match(List.range (t.length+1)).find? (fun k=>decide (needT need x<=ranT t x k))with
 |some k=>k
 |none=> -1
def GreedyT(E:List (Int×Int))(need:List Int)(t:List (List Int)):Prop:=
 ∀i,i<t.length->(-1)∈rowT t i-> ∀n,n<need.length->ranT t (n:Int) i=0->(n:Int)∉rowT t i-> ¬FreeT E need t (n:Int) i
section
variable {E: List (Int × Int)} {need: List Int} {cores: Nat} {t: List (List Int)}
theorem find_least{p:Nat->Bool}{k n:Nat}(hk:p k=true)(hn:k<n)(h: ∀j,j<k->p j=false):(List.range n).find? p=some k:=by
 rw[List.find?_eq_some_iff_getElem]
 refine⟨hk,k,by simpa using hn,by simp,fun j hj=> ?_⟩
 simp[h j hj]
theorem endV_some{x:Int}{k:Nat}(hk:k<=t.length)(h:needT need x<=ranT t x k)(hl: ∀j,j<k->(ranT t x j:Int)<needT need x):endV need t x=k:=by
 unfold endV;rw[find_least (k:=k) (by simpa using h) (by omega) (fun j hj=>by simpa using hl j hj)]
theorem endV_none{x:Int}(h:(ranT t x t.length:Int)<needT need x):endV need t x= -1:=by
 unfold endV;have:(List.range (t.length+1)).find? (fun k=>decide (needT need x<=ranT t x k))=none:=by
  rw[List.find?_eq_none]
  intro k hk;have hk':k<=t.length:=by simp at hk;omega
  have:=ranT_mono t x hk';simp;omega
 rw[this]
theorem endV_cases(x:Int):(endV need t x= -1/\(ranT t x t.length:Int)<needT need x)\/ ∃k:Nat,endV need t x=k/\k<=t.length/\needT need x<=ranT t x k/\ ∀j,j<k->(ranT t x j:Int)<needT need x:=by
  rcases Int.lt_or_le (ranT t x t.length) (needT need x)with h|h
  · exact .inl ⟨endV_none h,h⟩
  · right
    have hex: ∃k,needT need x<=ranT t x k:=⟨t.length,h⟩;have key: ∀n:Nat,needT need x<=ranT t x n-> ∃k,k<=n/\needT need x<=ranT t x k/\ ∀j,j<k->(ranT t x j:Int)<needT need x:=by
      intro n
      induction n with
      |zero=>exact fun h0=>⟨0,Nat.le_refl _,h0,fun j hj=>by omega⟩
      | succ n ih =>
        intro h0
        by_cases h1:needT need x<=ranT t x n
        · obtain⟨k,hk,h2,h3⟩:=ih h1;exact⟨k,by omega,h2,h3⟩
        · refine⟨n+1,Nat.le_refl _,h0,fun j hj=> ?_⟩
          have:=ranT_mono t x (show j<=n by omega)
          omega
    obtain⟨k,hk,h2,h3⟩:=key t.length h;exact⟨k,endV_some hk h2 h3,hk,h2,h3⟩
theorem needT_pos(hn: ∀z∈need,1<=z){x:Int}(h0:0<=x)(hx:x<need.length):1<=needT need x:=by
 have h2:x.toNat<need.length:=by omega
 have:=hn need[x.toNat] (List.getElem_mem h2);unfold needT;rw[List.getD_eq_getElem?_getD,List.getElem?_eq_getElem h2]
 simpa using this
theorem needT_nat{n:Nat}:needT need (n:Int)=need.getD n 0:=by unfold needT;rw[Int.toNat_natCast]
theorem Good.done(G:Good E need cores t)(hn: ∀z∈need,1<=z){x:Int}(h0:0<=x)(hx:x<need.length)(hd:0<=endV need t x):
  ∃s m c,RunT t cores x t.length s m c/\(m:Int)=needT need x/\endV need t x=((s+m:Nat):Int):=by
 rcases endV_cases (need:=need) (t:=t) x with⟨h,_⟩|⟨k,hk,hkl,h1,h2⟩
 ·omega
 have hp:=needT_pos hn h0 hx;have hle:=G.ran_le hn h0 hx;rcases G.run x (by omega) t.length (Nat.le_refl _)with h3|⟨s,m,c,hr⟩
 ·have:=ranT_mono t x hkl
  omega
 ·have hran:=hr.ran G (by omega) (Nat.le_refl _)
  have hm:(m:Int)=needT need x:=by
   have e1:=hr.2.2.2.1;have:=ranT_mono t x hkl;have:=hle t.length;omega
  refine⟨s,m,c,hr,hm,?_⟩
  have:=hr.2.1;refine endV_some this ?_ (fun j hj=> ?_)
  ·rw[hran _ this];omega
  ·rw[hran _ (by omega)];have:=hr.1;omega
theorem endV_lt{x:Int}{k:Nat}(h:needT need x<=ranT t x k):0<=endV need t x/\endV need t x<=k:=by
 rcases endV_cases (need:=need) (t:=t) x with⟨_,h2⟩|⟨j,hk,h1,h2,h3⟩
 ·exfalso
  rcases Nat.lt_or_ge k t.length with hk|hk
  ·have:=ranT_mono t x (Nat.le_of_lt hk);omega
  ·rw[ranT_over x hk]at h;omega
 ·rw [hk]
  refine⟨by omega,?_⟩
  rcases Nat.lt_or_ge k j with h4|h4
  ·have:=h3 k h4;omega
  ·omega
theorem le_endV{x:Int}{k:Nat}(h:(ranT t x k:Int)<needT need x)(hd:0<=endV need t x):(k:Int)<endV need t x:=by
 rcases endV_cases (need:=need) (t:=t) x with⟨h1,_⟩|⟨j,hk,h1,h2,h3⟩
 ·omega
 ·rw [hk]
  rcases Nat.lt_or_ge k j with h4|h4
  ·omega
  ·have:=ranT_mono t x h4;omega
theorem Good.began(G:Good E need cores t){x:Int}(h1:x≠ -1){k s m c:Nat}(hk:k<=t.length)(h:RunT t cores x k s m c):FreeT E need t x s:=by
 have hran:=h.ran G h1 hk;obtain⟨hm,hsm,hc,hr,hiff⟩:=h;have hx:=(hiff s (by omega) c hc).mpr ⟨⟨by omega,by omega⟩,rfl⟩
 exact(G.at_ (by omega) hc x hx h1).2.2.2.2 (by rw[hran s (by omega)];omega)
def sumN(f:Nat->Nat):Nat->Nat
 |0=>0
 |n+1=>sumN f n+f n
theorem sumN_add(f g:Nat->Nat): ∀n,sumN (fun x=>f x+g x) n=sumN f n+sumN g n
  |0=>rfl
  | n + 1 => by
    show sumN (fun x=>f x+g x) n+(f n+g n)=(sumN f n+f n)+(sumN g n+g n)
    rw[sumN_add f g n];omega
theorem sumN_congr{f g:Nat->Nat}: ∀{n},(∀k,k<n->f k=g k)->sumN f n=sumN g n
  |0,_=>rfl
  | n + 1, h => by
    show sumN f n+f n=sumN g n+g n
    rw[sumN_congr fun k hk=>h k (by omega),h n (by omega)]
theorem sumN_zero: ∀n,sumN (fun _=>0) n=0
 |0=>rfl
 |n+1=>by show sumN _ n+0=0;rw[sumN_zero n]
theorem sumN_le{f g:Nat->Nat}: ∀{n},(∀k,k<n->f k<=g k)->sumN f n<=sumN g n
  |0,_=>Nat.le_refl _
  | n + 1, h => by
    show sumN f n+f n<=sumN g n+g n
    have:=sumN_le (f:=f) (g:=g) (n:=n) fun k hk=>h k (by omega)
    have:=h n (by omega)
    omega
theorem sumN_eq{f g:Nat->Nat}: ∀{n},(∀k,k<n->f k<=g k)->sumN f n=sumN g n-> ∀k,k<n->f k=g k
  |0,_,_,k,hk=>absurd hk (by omega)
  | n + 1, h, e, k, hk => by
    have e':sumN f n+f n=sumN g n+g n:=e;have h1:=sumN_le (f:=f) (g:=g) (n:=n) fun k hk=>h k (by omega)
    have h2:=h n (by omega)
    rcases Nat.lt_or_ge k n with h3|h3
    · exact sumN_eq (fun k hk=>h k (by omega)) (by omega) k h3
    · rw[show k=n by omega];omega
theorem sumN_one(a:Int): ∀n,sumN (fun x=>if a=(x:Int)then 1 else 0) n=if 0<=a/\a<(n:Int)then 1 else 0
  | 0 => by
    show 0=_
    rw[if_neg (by omega)]
  | n + 1 => by
    show sumN _ n+(if a=(n:Int)then 1 else 0)=_
    rw[sumN_one a n]
    by_cases h:a=(n:Int)
    · rw[if_pos h,if_neg (by omega),if_pos (by omega)]
    · rw[if_neg h]
      by_cases h2:0<=a/\a<(n:Int)
      · rw[if_pos h2,if_pos (by omega)]
      · rw[if_neg h2,if_neg (by omega)]
theorem count_all(n:Nat): ∀l:List Int,(∀x∈l,x= -1\/(0<=x/\x<n))->l.length=l.count (-1)+sumN (fun x=>l.count (x:Int)) n
  | [],_=>by simp[sumN_zero]
  | a :: l, h => by
    have ih:=count_all n l fun x hx=>h x (List.mem_cons_of_mem _ hx)
    have hs:sumN (fun x=>(a::l).count (x:Int)) n=sumN (fun x=>l.count (x:Int)) n+if 0<=a/\a<(n:Int)then 1 else 0:=by
      rw[<-sumN_one a n,<-sumN_add];refine sumN_congr fun k _=> ?_
      rw[List.count_cons];simp only[beq_iff_eq]
    rw[hs,List.length_cons,List.count_cons];rcases h a (by simp)with rfl|h1
    · have e: ¬(0<=(-1:Int)/\(-1:Int)<(n:Int)):=by omega
      rw[if_neg e];simp;omega
    · rw[if_pos h1];have: ¬(a== -1)=true:=by simp;omega
      rw[if_neg this];omega
def idleT(t:List (List Int))(k:Nat):Nat:=ranT t (-1) k
theorem flat_len(h: ∀r∈t,r.length=cores): ∀k,k<=t.length->(t.take k).flatten.length=cores * k
  |0,_=>by simp
  | k + 1, hk => by
    rw[take_row (by omega),List.flatten_append,List.length_append,flat_len h k (by omega)]
    have:=h _ (rowT_mem (show k<t.length by omega))
    simp[this,Nat.mul_succ]
theorem Good.flat(G:Good E need cores t)(k:Nat): ∀x∈(t.take k).flatten,x= -1\/(0<=x/\x<(need.length:Int)):=by
 intro x hx;rw[List.mem_flatten]at hx;obtain⟨r,hr,hx⟩:=hx;obtain⟨i,hi,he⟩:=List.getElem_of_mem (List.mem_of_mem_take hr);refine G.mem (i:=i) hi ?_
 rw[rowT_at (List.getElem?_eq_getElem hi),he]
 exact hx
theorem Good.all(G:Good E need cores t){k:Nat}(hk:k<=t.length):cores * k=idleT t k+sumN (fun x=>ranT t (x:Int) k) need.length:=by
 rw[<-flat_len G.rows k hk,count_all need.length _ (G.flat k)];rfl
theorem sumN_need: ∀(l:List Int),(∀z∈l,0<=z)->(sumN (fun x=>(l.getD x 0).toNat) l.length:Int)=l.sum:=by
  intro l hl;have key: ∀k,k<=l.length->(sumN (fun x=>(l.getD x 0).toNat) k:Int)=(l.take k).sum:=by
    intro k
    induction k with
    |zero=>intro _;simp[sumN]
    | succ k ih =>
      intro hk;have h2:k<l.length:=by omega
      have h1:=hl l[k] (List.getElem_mem h2);show((sumN _ k+(l.getD k 0).toNat:Nat):Int)=_
      rw[Int.natCast_add,ih (by omega),List.take_add_one,List.sum_append,List.getD_eq_getElem?_getD,List.getElem?_eq_getElem h2]
      simp;omega
  have:=key l.length (Nat.le_refl _)
  rwa [List.take_length]at this
theorem Good.busy_le(G:Good E need cores t)(hn: ∀z∈need,1<=z)(k:Nat):(sumN (fun x=>ranT t (x:Int) k) need.length:Int)<=need.sum:=by
 rw[<-sumN_need need (fun z hz=>by have:=hn z hz;omega)]
 have:=sumN_le (f:=fun x=>ranT t (x:Int) k) (g:=fun x=>(need.getD x 0).toNat) (n:=need.length) fun j hj=>by
  have:=G.ran_le hn (x:=(j:Int)) (by omega) (by omega) k
  rw[needT_nat]at this;omega
 omega
theorem row_idle{i:Nat}{x:Int}(h:x∈rowT t i)(h1:x≠ -1):(rowT t i).count (-1)+1<=(rowT t i).length:=by
 have h2:=List.count_le_length (a:=(-1:Int)) (l:=(rowT t i).erase x);rw[List.length_erase_of_mem h,List.count_erase_of_ne (by omega)]at h2
 have:=List.length_pos_of_mem h;omega
theorem idle_run(G:Good E need cores t){x:Int}(h1:x≠ -1){s m c:Nat}(h:RunT t cores x t.length s m c): ∀j,j<=m->(idleT t (s+j):Int)<=idleT t s+((cores:Int) - 1) * j:=by
  intro j
  induction j with
  |zero=>intro _;simp
  | succ j ih =>
    intro hj;have ih:=ih (by omega)
    have h2:=(h.2.2.2.2 (s+j) (by have:=h.2.1;omega) c h.2.2.1).mpr ⟨⟨by omega,by omega⟩,rfl⟩
    have hlt:s+j<t.length:=by have:=h.2.1;omega
    have hm:x∈rowT t (s+j):=by rw[<-h2];exact num_mem (by rw[G.len hlt];exact h.2.2.1)
    have h3:=row_idle hm h1;rw[G.len hlt]at h3;unfold idleT at *;rw[show s+(j+1)=(s+j)+1 by omega,ranT_step]
    have:((cores:Int) - 1) * ((j+1:Nat):Int)=((cores:Int) - 1) * j+((cores:Int) - 1):=by
      rw[Int.natCast_add,Int.mul_add];simp
    rw[this];omega
theorem wsum_cons(W:List Int)(a:Nat)(r:List Nat):wsum W (a::r)=W.getD a 0+wsum W r:=by unfold wsum;simp
theorem chain(G:Good E need cores t)(hg:GreedyT E need t)(hF:Fits need.length E)(hn: ∀z∈need,1<=z)(hd: ∀n,n<need.length->0<=endV need t (n:Int))(h1:1<=cores):
    ∀(e n:Nat),n<need.length->endV need t (n:Int)=e-> ∃r,Up E (n::r)/\In need.length (n::r)/\(idleT t e:Int)<=((cores:Int) - 1) * wsum need (n::r):=by
  intro e
  induction e using Nat.strongRecOn with
  | _ e ih =>
    intro n hnl he;obtain⟨s,m,c,hr,hm,hsm⟩:=G.done hn (x:=(n:Int)) (by omega) (by omega) (hd n hnl)
    have hsm':e=s+m:=by omega
    have hm0:=hr.1;have hfree:=G.began (x:=(n:Int)) (by omega) (Nat.le_refl _) hr
    have hran:=hr.ran G (by omega) (Nat.le_refl _)
    have hrun:=idle_run G (x:=(n:Int)) (by omega) hr m (Nat.le_refl _)
    rw[needT_nat]at hm;have ahead: ∀k,k<=s->idleT t k=0\/ ∃p r,ed E p n/\p<need.length/\Up E (p::r)/\In need.length (p::r)/\(idleT t k:Int)<=((cores:Int) - 1) * wsum need (p::r):=by
      intro k
      induction k with
      |zero=>exact fun _=> .inl (ranT_zero t (-1))
      | succ k ihk =>
        intro hk;have hkt:k<t.length:=by have:=hr.2.1;omega
        by_cases hm1:(-1:Int)∈rowT t k
        · have hnot:(n:Int)∉rowT t k:=by
            intro hmem;have h2:=ranT_step t (n:Int) k;have:=List.count_pos_iff.mpr hmem;rw[hran (k+1) (by omega)]at h2
            omega
          have h3:=hg k hkt hm1 n hnl (by rw[hran k (by omega)];omega) hnot
          have h4: ∃e∈E,e.2=(n:Int)/\(ranT t e.1 k:Int)<needT need e.1:=by
            apply Classical.byContradiction
            intro hno;refine h3 fun e he h5=> ?_
            apply Classical.byContradiction
            intro h6;exact hno ⟨e,he,h5,by omega⟩
          obtain⟨⟨a,b⟩,heE,hb,hlt⟩:=h4;simp only at hb hlt;subst hb;have hfe:=hF _ heE;simp only at hfe;obtain⟨p,rfl⟩: ∃p:Nat,a=(p:Int):=⟨a.toNat,by omega⟩
          have hpl:p<need.length:=by omega
          have hdp:=hd p hpl;have h7:=le_endV hlt hdp;have h8:=endV_lt (hfree _ heE rfl);simp only at h8;obtain⟨r,hu,hi,hle⟩:=ih (endV need t (p:Int)).toNat (by omega) p hpl (by omega)
          refine .inr ⟨p,r,heE,hpl,hu,hi,?_⟩
          have:=ranT_mono t (-1) (show k+1<=(endV need t (p:Int)).toNat by omega)
          unfold idleT at *;omega
        · have h2:idleT t (k+1)=idleT t k:=by
            unfold idleT;rw[ranT_step,List.count_eq_zero.mpr hm1];omega
          rw[h2];exact ihk (by omega)
    rcases ahead s (Nat.le_refl _)with h0|⟨p,r,hed,hpl,hu,hi,hle⟩
    · refine⟨[],trivial,fun x hx=> ?_,?_⟩
      · obtain rfl:x=n:=by simpa using hx
        exact hnl
      · rw[hsm',wsum_cons];have:wsum need []=0:=rfl;rw[this,Int.add_zero,<-hm];omega
    · refine⟨p::r,⟨hed,hu⟩,fun x hx=> ?_,?_⟩
      · rcases List.mem_cons.mp hx with rfl|hx
        · exact hnl
        · exact hi x hx
      · rw[hsm',wsum_cons,<-hm,Int.mul_add];omega
theorem GreedyT.take(h:GreedyT E need t)(a:Nat):GreedyT E need (t.take a):=by
 intro i hi h1 n hn h2 h3 h4;have hia:i<a:=by rw[List.length_take]at hi;omega
 rw[rowT_take t a i hia]at h1 h3;rw[ranT_take t _ a i (by omega)]at h2
 refine h i (by rw[List.length_take]at hi;omega) h1 n hn h2 h3 (fun e he h5=> ?_)
 have:=h4 e he h5
 rwa [ranT_take t _ a i (by omega)]at this
def busyT(t:List (List Int)):Nat:=t.flatten.countP (fun x=>x != -1)
theorem busyT_eq(t:List (List Int)):busyT t+t.flatten.count (-1)=t.flatten.length:=by
 unfold busyT;rw[List.length_eq_countP_add_countP (fun x=>x !=(-1:Int)) (l:=t.flatten),List.count]
 congr 1
 refine List.countP_congr fun x _=> ?_
 simp
theorem Good.busy(G:Good E need cores t)(hn: ∀z∈need,1<=z):(busyT t:Int)<=need.sum/\((busyT t:Int)=need.sum↔ ∀n,n<need.length->0<=endV need t (n:Int))/\busyT t<=cores * t.length:=by
 have h1:=busyT_eq t;have h2:=G.all (k:=t.length) (Nat.le_refl _);have h3:=flat_len G.rows t.length (Nat.le_refl _);rw[List.take_length]at h3;have h4:=G.busy_le hn t.length;have h5:idleT t t.length=t.flatten.count (-1):=by unfold idleT ranT;rw[List.take_length]
 have h6:busyT t=sumN (fun x=>ranT t (x:Int) t.length) need.length:=by omega
 refine⟨by rw[h6];exact h4,?_,by omega⟩
 have hs:=sumN_need need (fun z hz=>by have:=hn z hz;omega)
 have hle: ∀j,j<need.length->ranT t (j:Int) t.length<=(need.getD j 0).toNat:=fun j hj=>by
  have:=G.ran_le hn (x:=(j:Int)) (by omega) (by omega) t.length
  rw[needT_nat]at this;omega
 rw[h6,<-hs];constructor
 ·intro he n hnl
  have:=sumN_eq hle (by omega) n hnl
  have hp:=needT_pos hn (x:=(n:Int)) (by omega) (by omega)
  rw[needT_nat]at hp;exact(endV_lt (k:=t.length) (by rw[needT_nat];omega)).1
 ·intro hd
  have:sumN (fun x=>ranT t (x:Int) t.length) need.length=sumN (fun x=>(need.getD x 0).toNat) need.length:=sumN_congr fun k hk=>by
   have h7:=hd k hk;have h8:=hle k hk;rcases endV_cases (need:=need) (t:=t) (k:Int)with⟨h9,_⟩|⟨j,_,hj,h10,_⟩
   ·omega
   ·have:=ranT_mono t (k: Int) hj
    rw[needT_nat]at h10;omega
  rw[this]
end
end Go.Proofs.YtngdbbligebcbabGreatDoor
