import Derived.Test.YtfahabphncmbfaaGreatDoorZQ26
import Derived.Test.YtfahabphncmbfaaGreatDoorZQ22
set_option linter.all false
namespace Go.Proofs.YtfahabphncmbfaaGreatDoor
open List renaming getD_eq_getElem?_getD→Zi,getElem?_eq_getElem→Zh,getElem_mem→Zz,getElem_of_mem→ZA,length_set→ZU,range→Zo
open Nat renaming add_mod_right→Yad,add_zero→Zy,mod_eq_of_lt→Yn,not_lt_zero→Yj,zero_le→Zu
structure Gng where
 R:Nat->List Int
 T:Nat->Int
 B:Nat->Int
 tk:Nat->Tkr
 fr:Nat->Nat
 O:List Int
def updG{α:Type}(f:Nat->α)(i:Nat)(v:α):Nat->α:=fun j=>if j=i then v else f j
theorem Zae{α:Type}(f:Nat->α)(i:Nat)(v:α):updG f i v i=v:=Zc rfl
theorem Zad{α:Type}(f:Nat->α){i j:Nat}(v:α)(h:j≠i):updG f i v j=f j:=Zb h
theorem ZbV{f f':Nat->Nat}{m j:Nat}(hj:j<m)(h:∀i,i<m->i≠j->f' i=f i):sumN f' m+f j=sumN f m+f' j:=by
  induction m with
  |zero=>omega
  | succ m ih =>
    show sumN f' m+f' m+f j=sumN f m+f m+f' j;by_cases hm:j=m
    · subst hm;have:sumN f' j=sumN f j:=ZaP fun k hk=>h k (by omega) (by omega);omega
    · have:=ih (by omega) fun i hi hne=>h i (by omega) hne;have:=h m (by omega) (fun e=>hm e.symm);omega
def owG(g:Gng)(j:Nat):Tkr:=if g.fr j=0 then g.tk j else Zaq false
def tgtG(m:Nat)(g:Gng)(c:Nat):Nat:=(c+g.fr c)%m
def virG(g:Gng)(j:Nat):Int:=virD (g.B j) (owG g j)
def lftG(g:Gng)(j:Nat)(x:Int):Nat:=lftD (g.R j) (g.T j) (g.B j) (owG g j) x
def resG(m:Nat)(g:Gng)(c:Nat):Int×Int×Tkr:=Zav (g.R (tgtG m g c)) (g.T (tgtG m g c)) (g.B (tgtG m g c)) (g.tk c)
def nfG(m:Nat)(g:Gng)(c:Nat):Nat:=if(resG m g c).2.2.end_=0 then g.fr c else if(resG m g c).2.2.end_=1 then 0 else(g.fr c+1)%m
def ntG(m:Nat)(g:Gng)(c:Nat):Tkr:=if(resG m g c).2.2.end_=0 then(resG m g c).2.2 else Zaq (decide (nfG m g c≠0))
def Zal(m:Nat)(g:Gng)(c:Nat):Gng:=
 {R:=g.R,T:=updG g.T (tgtG m g c) (resG m g c).1,B:=updG g.B (tgtG m g c) (resG m g c).2.1,tk:=updG g.tk c (ntG m g c),fr:=updG g.fr c (nfG m g c),O:=if(resG m g c).2.2.end_=1 then g.O.set c (resG m g c).2.2.got else g.O}
structure GOk(n m:Nat)(E:List (Int×Int))(L:List Int)(g:Gng):Prop where
 m1:1<=m
 n64:n<=64
 crew:CrewOk n E g.O L
 ol:g.O.length=m
 fr:∀c,c<m->g.fr c<m
 rl:∀j,j<m->(g.R j).length=64
 dq:∀j,j<m->DqOk (g.R j) 64 (g.T j) (g.B j) (owG g j)
 th:∀c,c<m->g.fr c≠0->ThiefOk (g.R (tgtG m g c)) (g.T (tgtG m g c)) (virG g (tgtG m g c)) 64 (g.tk c)
 busy:∀c,c<m->g.O.getD c 0≠ -1->g.fr c=0/\g.tk c=Zaq false
 once:∀x:Int,sumN (fun j=>lftG g j x) m=if(0<=x/\x<n)/\ZaD E g.O L x.toNat then 1 else 0
 few:sumN (fun j=>(virG g j).toNat) m<=sumN (fun x=>if OverC E L (x:Int)then 1 else 0) n
section
variable {n m: Nat}{E: List (Int × Int)}{L: List Int}{g: Gng}{c: Nat}
theorem CrewOk.put{O:List Int}(h:CrewOk n E O L){i x:Nat}(hi:i<O.length)(h0:O.getD i 0= -1)(hx:x<n)(hr:ZaD E O L x):CrewOk n E (O.set i (x:Int)) L:=by
 obtain⟨r1,r2,r3⟩:=hr;refine⟨by rw[ZU];exact h.lo,by rw[ZU];exact h.hi,h.ln,h.left,h.done,fun y hy=> ?_,fun y hy=> ?_⟩
 ·rcases ZbI hy with hy | rfl
  ·exact h.on y hy
  ·exact .inr ⟨⟨by omega,by omega⟩,by omega,r3⟩
 ·rw [List.count_set hi]
  have h1:=h.once y hy;by_cases hxy:(x:Int)=y
  ·have h2: O.count y = 0:=List.count_eq_zero.mpr (by rw [<- hxy]; exact r2)
   rw[h2];split<;>split<;>omega
  ·have h3: ((x: Int) == y) = false:=by simpa using hxy
   rw[h3];simp only[Bool.false_eq_true,if_false];omega
theorem ZrO{O:List Int}{i x:Nat}(hi:i<O.length)(h0:O.getD i 0= -1){y:Int}(hy:y≠ -1):y∈O.set i (x:Int)↔y∈O\/y=x:=by
 constructor
 ·exact ZbI
 ·rintro (h | rfl)
  ·obtain ⟨j,hj,he⟩:=ZA h
   have hji:j≠i:=by rintro rfl;rw[Zi,Zh hj]at h0;exact hy (by rw[<-he];exact h0)
   rw[<-he];have h1:(O.set i (x:Int))[j]?=some O[j]:=by rw[List.getElem?_set_ne hji.symm,Zh hj]
   exact List.mem_of_getElem? h1
  ·exact List.mem_set hi _
theorem Zjb{O:List Int}{i x:Nat}(hi:i<O.length)(h0:O.getD i 0= -1)(y:Nat):ZaD E (O.set i (x:Int)) L y↔ZaD E O L y/\y≠x:=by
 unfold ZaD;rw[ZrO hi h0 (by omega)];constructor
 ·rintro ⟨a,b,d⟩
  exact⟨⟨a,fun q=>b (.inl q),d⟩,fun e=>b (.inr (by rw[e]))⟩
 ·rintro ⟨⟨a,b,d⟩,e⟩
  exact⟨a,fun q=>q.elim b (fun e2=>e (by omega)),d⟩
theorem GOk.tgt(h:GOk n m E L g)(c:Nat):tgtG m g c<m:=Nat.mod_lt _ (by have:=h.m1;omega)
theorem GOk.own(h:GOk n m E L g)(hc:c<m)(hf:g.fr c=0):tgtG m g c=c/\owG g c=g.tk c:=by unfold tgtG owG;rw[hf,Zy,Yn hc,Zc rfl];exact⟨rfl,rfl⟩
theorem GOk.other(h:GOk n m E L g)(hc:c<m)(hf:g.fr c≠0):tgtG m g c≠c:=by
 have h1:=h.fr c hc;unfold tgtG;intro e;by_cases h2:c+g.fr c<m
 ·rw[Yn h2]at e;omega
 ·rw[Nat.mod_eq_sub_mod (by omega),Yn (by omega)]at e;omega
structure StepOk(m:Nat)(g:Gng)(c:Nat):Prop where
 dq:DqOk (g.R (tgtG m g c)) 64 (resG m g c).1 (resG m g c).2.1 (owG (Zal m g c) (tgtG m g c))
 cnt:∀x,lftD (g.R (tgtG m g c)) (resG m g c).1 (resG m g c).2.1 (owG (Zal m g c) (tgtG m g c)) x+gotD (resG m g c).2.2 x=lftG g (tgtG m g c) x
 th:∀t2,ThiefOk (g.R (tgtG m g c)) (g.T (tgtG m g c)) (virG g (tgtG m g c)) 64 t2->ThiefOk (g.R (tgtG m g c)) (resG m g c).1 (virD (resG m g c).2.1 (owG (Zal m g c) (tgtG m g c))) 64 t2
 vir:virD (resG m g c).2.1 (owG (Zal m g c) (tgtG m g c))<=virG g (tgtG m g c)
 ow:∀i,i<m->i≠tgtG m g c->owG (Zal m g c) i=owG g i
 me:(resG m g c).2.2.end_=0->g.fr c≠0->ThiefOk (g.R (tgtG m g c)) (resG m g c).1 (virD (resG m g c).2.1 (owG (Zal m g c) (tgtG m g c))) 64 (resG m g c).2.2
 nf:nfG m g c<m
theorem GOk.stepOk(h:GOk n m E L g)(hc:c<m):StepOk m g c:=by
 have hnf:nfG m g c<m:=by
  unfold nfG;split
  ·exact h.fr c hc
  ·split
   ·have:=h.m1;omega
   ·exact Nat.mod_lt _ (by have:=h.m1;omega)
 have hdq:=h.dq _ (h.tgt c);by_cases hf:g.fr c=0
 ·obtain ⟨e1,e2⟩:=h.own hc hf
  have hst:(g.tk c).steal=false:=by have:=hdq.own.1;rw[e1,e2]at this;exact this
  have hres:resG m g c=Zay (g.R (tgtG m g c)) (g.T (tgtG m g c)) (g.B (tgtG m g c)) (owG g (tgtG m g c)):=by unfold resG Zav;rw[Zb (by rw[hst];decide)];rw[e1,e2]
  obtain⟨p1,p2,p3,p4,p5⟩:=hdq.pop;rw[<-hres]at p1 p2 p3 p4 p5;have how:owG (Zal m g c) (tgtG m g c)=Zd2 (resG m g c).2.2:=by
   rw[e1];unfold owG Zd2;show(if updG g.fr c (nfG m g c) c=0 then updG g.tk c (ntG m g c) c else Zaq false)=_;rw[Zae,Zae];unfold ntG;by_cases he:(resG m g c).2.2.end_=0
   ·rw [Zc he,Zc he]
    unfold nfG;rw[Zc he,Zc hf]
   ·rw [Zb he,Zb he,p4]
    by_cases h0:nfG m g c=0
    ·rw[Zc h0,Zd (fun q=>q h0)]
    ·rw[Zb h0]
  refine⟨how▸p1,how▸p2,how▸p3,how▸p5,fun i hi hne=> ?_,fun _ q=>absurd hf q,hnf⟩;rw[e1]at hne;unfold owG;show(if updG g.fr c (nfG m g c) i=0 then updG g.tk c (ntG m g c) i else Zaq false)=_;rw[Zad _ _ hne,Zad _ _ hne]
 ·have hne:=h.other hc hf
  have hth:=h.th c hc hf;have hst:(g.tk c).steal=true:=hth.1;have hres:resG m g c=ZaS (g.R (tgtG m g c)) (g.T (tgtG m g c)) (g.B (tgtG m g c)) (g.tk c):=by unfold resG Zav;rw[Zc hst]
  obtain⟨p1,p2,p3,p4,p5,p6,p7⟩:=hdq.steal hth;rw[<-hres]at p1 p2 p3 p4 p5 p6 p7;have how:∀i,owG (Zal m g c) i=owG g i:=fun i=>by
   unfold owG;show(if updG g.fr c (nfG m g c) i=0 then updG g.tk c (ntG m g c) i else Zaq false)=_;by_cases hi:i=c
   ·subst hi
    rw[Zae,Zae,Zb hf];by_cases he:(resG m g i).2.2.end_=0
    ·have h1: nfG m g i = g.fr i:=Zc he
     rw[h1,Zb hf]
    ·have h1: ntG m g i = Zaq (decide (nfG m g i ≠ 0)):=Zb he
     rw[h1];by_cases h0:nfG m g i=0
     ·rw[Zc h0,Zd (fun q=>q h0)]
     ·rw[Zb h0]
   ·rw[Zad _ _ hi,Zad _ _ hi]
  refine⟨by rw[how,p1];exact p3,fun x=>by rw[how,p1];exact p4 x,fun t2 q=>by rw[how,p1];exact p6 t2 q,by rw[how,p1];exact Int.le_refl _,fun i _ _=>how i,fun he _=> ?_,hnf⟩;have hn:Zd2 (resG m g c).2.2=(resG m g c).2.2:=Zc he;rw[hn]at p5;rw[how,p1];exact p5
theorem GOk.step(h:GOk n m E L g)(hc:c<m)(hi:g.O.getD c 0= -1):
  ((resG m g c).2.2.end_=1->∃x:Nat,(resG m g c).2.2.got=x/\x<n/\ZaD E g.O L x)/\GOk n m E L (Zal m g c):=by
 have S:=h.stepOk hc;have hj:=h.tgt c;have hcl:c<g.O.length:=by rw[h.ol];exact hc
 have hsum:∀x:Int,sumN (fun j=>lftG (Zal m g c) j x) m+gotD (resG m g c).2.2 x=sumN (fun j=>lftG g j x) m:=fun x=>by
  have h1:=ZbV (f:=fun j=>lftG g j x) (f':=fun j=>lftG (Zal m g c) j x) hj fun i hi hne=>by show lftD (g.R i) (updG g.T (tgtG m g c) (resG m g c).1 i) (updG g.B (tgtG m g c) (resG m g c).2.1 i) (owG (Zal m g c) i) x=_;rw[Zad _ _ hne,Zad _ _ hne,S.ow i hi hne];rfl
  have h2:lftG (Zal m g c) (tgtG m g c) x+gotD (resG m g c).2.2 x=lftG g (tgtG m g c) x:=by rw[<-S.cnt x];show lftD (g.R (tgtG m g c)) (updG g.T (tgtG m g c) (resG m g c).1 (tgtG m g c)) (updG g.B (tgtG m g c) (resG m g c).2.1 (tgtG m g c)) (owG (Zal m g c) (tgtG m g c)) x+_=_;rw[Zae,Zae]
  omega
 have hready:(resG m g c).2.2.end_=1->∃x:Nat,(resG m g c).2.2.got=x/\x<n/\ZaD E g.O L x:=fun he=>by
  have h1:=hsum (resG m g c).2.2.got;rw[ZeD he,Zc rfl,h.once]at h1;split at h1
  ·next q=>exact⟨(resG m g c).2.2.got.toNat,by omega,by omega,q.2⟩
  ·omega
 refine⟨hready,?_⟩;have hO:((resG m g c).2.2.end_≠1/\(Zal m g c).O=g.O)\/ ∃x:Nat,(resG m g c).2.2.end_=1/\(resG m g c).2.2.got=x/\x<n/\ZaD E g.O L x/\(Zal m g c).O=g.O.set c (x:Int):=by
  by_cases he:(resG m g c).2.2.end_=1
  ·obtain ⟨x,e1,e2,e3⟩:=hready he
   exact .inr ⟨x,he,e1,e2,e3,by show(if _ then _ else _)=_;rw[Zc he,e1]⟩
  ·exact .inl ⟨he,Zb he⟩
 have hlen:(Zal m g c).O.length=m:=by
  rcases hO with⟨_,e⟩|⟨x,_,_,_,_,e⟩
  ·rw[e];exact h.ol
  ·rw[e,ZU];exact h.ol
 have hvir:∀j,j<m->virG (Zal m g c) j<=virG g j:=fun j hj2=>by
  unfold virG;show virD (updG g.B (tgtG m g c) (resG m g c).2.1 j) (owG (Zal m g c) j)<=_;by_cases hne:j=tgtG m g c
  ·subst hne
   rw[Zae];exact S.vir
  ·rw[Zad _ _ hne,S.ow j hj2 hne];exact Int.le_refl _
 refine⟨h.m1,h.n64,?_,hlen,fun k hk=> ?_,h.rl,fun j hj2=> ?_,fun k hk hkf=> ?_,fun k hk hkb=> ?_,fun x=> ?_,Nat.le_trans (ZbZ fun j hj2=>by have:=hvir j hj2;omega) h.few⟩
 ·rcases hO with ⟨_,e⟩ | ⟨x,_,_,hx,hr,e⟩
  ·rw[e];exact h.crew
  ·rw[e];exact h.crew.put hcl hi hx hr
 ·show updG g.fr c (nfG m g c) k < m
  by_cases hkc:k=c
  ·subst hkc;rw[Zae];exact S.nf
  ·rw[Zad _ _ hkc];exact h.fr k hk
 ·show DqOk (g.R j) 64 (updG g.T (tgtG m g c) (resG m g c).1 j) (updG g.B (tgtG m g c) (resG m g c).2.1 j) (owG (Zal m g c) j)
  by_cases hne:j=tgtG m g c
  ·subst hne
   rw[Zae,Zae];exact S.dq
  ·rw[Zad _ _ hne,Zad _ _ hne,S.ow j hj2 hne];exact h.dq j hj2
 ·-- who steals
  have hkf':updG g.fr c (nfG m g c) k≠0:=hkf;have hold:k≠c->ThiefOk ((Zal m g c).R (tgtG m (Zal m g c) k)) ((Zal m g c).T (tgtG m (Zal m g c) k)) (virG (Zal m g c) (tgtG m (Zal m g c) k)) 64 ((Zal m g c).tk k):=fun hkc=>by
   have ef:(Zal m g c).fr k=g.fr k:=Zad _ _ hkc;have et:tgtG m (Zal m g c) k=tgtG m g k:=by unfold tgtG;rw[ef]
   have e3:(Zal m g c).tk k=g.tk k:=Zad _ _ hkc;rw[Zad _ _ hkc]at hkf';rw[et,e3];have hth:=h.th k hk hkf';by_cases hne:tgtG m g k=tgtG m g c
   ·rw [hne] at hth ⊢
    unfold virG;show ThiefOk (g.R (tgtG m g c)) (updG g.T (tgtG m g c) (resG m g c).1 (tgtG m g c)) (virD (updG g.B (tgtG m g c) (resG m g c).2.1 (tgtG m g c)) (owG (Zal m g c) (tgtG m g c))) 64 (g.tk k);rw[Zae,Zae];exact S.th _ hth
   ·unfold virG
    show ThiefOk (g.R (tgtG m g k)) (updG g.T (tgtG m g c) (resG m g c).1 (tgtG m g k)) (virD (updG g.B (tgtG m g c) (resG m g c).2.1 (tgtG m g k)) (owG (Zal m g c) (tgtG m g k))) 64 (g.tk k);rw[Zad _ _ hne,Zad _ _ hne,S.ow _ (h.tgt k) hne];exact hth
  by_cases hkc:k=c
  ·subst hkc
   rw[Zae]at hkf';have e3:(Zal m g k).tk k=ntG m g k:=Zae _ _ _;rw[e3];by_cases he:(resG m g k).2.2.end_=0
   ·have en: nfG m g k = g.fr k:=Zc he
    have et:ntG m g k=(resG m g k).2.2:=Zc he;have eg:tgtG m (Zal m g k) k=tgtG m g k:=by unfold tgtG;show(k+updG g.fr k (nfG m g k) k)%m=_;rw[Zae,en]
    rw[en]at hkf';rw[eg,et];unfold virG;show ThiefOk (g.R (tgtG m g k)) (updG g.T (tgtG m g k) (resG m g k).1 (tgtG m g k)) (virD (updG g.B (tgtG m g k) (resG m g k).2.1 (tgtG m g k)) (owG (Zal m g k) (tgtG m g k))) 64 _;rw[Zae,Zae];exact S.me he hkf'
   ·have et: ntG m g k = Zaq true:=by
     unfold ntG;rw[Zb he,Ze hkf']
    rw[et];exact ZeB _ _ _ _ (by decide)
  ·exact hold hkc
 ·-- who has a node
  have hkb':(Zal m g c).O.getD k 0≠ -1:=hkb;by_cases hkc:k=c
  ·subst hkc
   rcases hO with⟨_,e⟩|⟨x,he,_,_,_,e⟩
   ·rw[e]at hkb';exact absurd hi hkb'
   ·have en: nfG m g k = 0:=by unfold nfG; rw [Zb (by rw [he]; decide),Zc he]
    have et:ntG m g k=Zaq false:=by unfold ntG;rw[Zb (by rw[he];decide),en];rfl
    exact⟨by show updG g.fr k (nfG m g k) k=0;rw[Zae,en],by show updG g.tk k (ntG m g k) k=_;rw[Zae,et]⟩
  ·have e: (Zal m g c).O.getD k 0 = g.O.getD k 0:=by
    rcases hO with⟨_,e⟩|⟨x,_,_,_,_,e⟩
    ·rw[e]
    ·rw[e,Zcl (fun q=>hkc q.symm)]
   rw[e]at hkb';obtain⟨b1,b2⟩:=h.busy k hk hkb';exact⟨by show updG g.fr c (nfG m g c) k=0;rw[Zad _ _ hkc,b1],by show updG g.tk c (ntG m g c) k=_;rw[Zad _ _ hkc,b2]⟩
 ·-- each number that is ready,once
  have h1:=hsum x;rw[h.once]at h1;rcases hO with⟨he,e⟩|⟨y,he,hy,hyn,hr,e⟩
  ·rw [e]
   rw[Zh3 he]at h1;omega
  ·rw [ZeD he,hy] at h1
   rw[e];by_cases hxy:(y:Int)=x
   ·subst hxy
    rw[Zc rfl]at h1;rw[Int.toNat_natCast]at h1⊢;rw[Zc ⟨⟨by omega,by omega⟩,hr⟩]at h1;rw[Zb (fun q=>((Zjb hcl hi y).mp q.2).2 rfl)];omega
   ·rw [Zb hxy] at h1
    rw[Zy]at h1;rw[h1];by_cases hx:0<=x/\x<n
    ·have hrd:=Zjb (E:=E) (L:=L) (x:=y) hcl hi x.toNat
     by_cases hq:ZaD E g.O L x.toNat
     ·rw[Zc ⟨hx,hq⟩,Zc ⟨hx,hrd.mpr ⟨hq,by omega⟩⟩]
     ·rw[Zb (fun q=>hq q.2),Zb (fun q=>hq (hrd.mp q.2).1)]
    ·rw[Zb (fun q=>hx q.1),Zb (fun q=>hx q.1)]
end
def bkG(m:Nat)(g:Gng)(c i:Nat):Nat:=(c+g.fr c+(m - 1 - i))%m
structure GhOk(m:Nat)(g:Gng)(a:Nat->Nat)(s:Nat->Bool):Prop where
 le:∀c,c<m->a c<=m
 lt:∀c,c<m->(g.tk c).at_≠0->s c=false->a c<m
 seen:∀c,c<m->∀i,i<a c->¬g.T (bkG m g c i)<g.B (bkG m g c i)
 top:∀c,c<m->g.fr c≠0->(g.tk c).at_≠0->s c=false->(g.tk c).top=g.T (tgtG m g c)
def phiG(m:Nat)(g:Gng)(a:Nat->Nat)(s:Nat->Bool)(c:Nat):Nat:=
 if g.O.getD c 0≠ -1 then 0 else if(g.tk c).at_=4 then 1 else if s c then 4 * m+4 - (g.tk c).at_.toNat else 4 * (m - a c) - (g.tk c).at_.toNat
def uG(g:Gng)(c:Nat):Nat:=if g.O.getD c 0= -1/\(g.tk c).at_≠4 then 1 else 0
def muG(m:Nat)(g:Gng)(a:Nat->Nat)(s:Nat->Bool):Nat:=sumN (fun c=>uG g c * (m * (4 * m+4))+phiG m g a s c) m
section
variable {n m: Nat}{E: List (Int × Int)}{L: List Int}{g: Gng}{c: Nat}{a: Nat -> Nat}{s: Nat -> Bool}
theorem ZrP(m:Nat)(g:Gng)(a:Nat->Nat)(s:Nat->Bool)(c:Nat):phiG m g a s c<=4 * m+4:=by
 unfold phiG;split
 ·omega
 ·split
  ·omega
  ·split<;>omega
theorem ZdN{m:Nat}{g:Gng}{a:Nat->Nat}{s:Nat->Bool}{c:Nat}(hi:g.O.getD c 0= -1)(h4:(g.tk c).at_≠4):phiG m g a s c=if s c then 4 * m+4 - (g.tk c).at_.toNat else 4 * (m - a c) - (g.tk c).at_.toNat:=by unfold phiG;rw[Zb (fun q=>q hi),Zb h4]
theorem GhOk.start(h:∀c,c<m->(g.tk c).at_=0):GhOk m g (fun _=>0) (fun _=>false):=
 ⟨fun _ _=>Zu _,fun c hc q=>absurd (h c hc) q,fun c hc i q=>absurd q (Yj _),fun c hc _ q=>absurd (h c hc) q⟩
theorem Zce(k:Nat):∀m:Nat,sumN (fun _=>k) m=m * k
  |0=>by show 0=0 * k;omega
  | m + 1 => by
    show sumN (fun _=>k) m+k=(m+1) * k;rw[Zce k m,Nat.succ_mul]
theorem Zot(h:∀c,c<m->(g.tk c).at_=0):muG m g (fun _=>0) (fun _=>false)<=m * (m * (4 * m+4)+4 * m):=by
 rw[<-Zce];refine ZbZ fun c hc=> ?_;have h1:uG g c<=1:=by unfold uG;split<;>omega
 have h2:phiG m g (fun _=>0) (fun _=>false) c<=4 * m:=by
  unfold phiG;rw[h c hc];split
  ·omega
  ·rw [Zb (by decide),Zb (by simp)]
   omega
 have h3:uG g c * (m * (4 * m+4))<=1 * (m * (4 * m+4)):=Nat.mul_le_mul_right _ h1;omega
theorem Zsz(m1:1<=m)(g:Gng)(c:Nat){j:Nat}(hj:j<m):∃i,i<m/\bkG m g c i=j:=by
 obtain⟨b,hb⟩:∃b,b=(c+g.fr c)%m:=⟨_,rfl⟩;have hbm:b<m:=by rw[hb];exact Nat.mod_lt _ (by omega)
 have e:∀i,bkG m g c i=(b+(m - 1 - i))%m:=fun i=>by unfold bkG;rw[hb,Nat.mod_add_mod]
 by_cases h:j<b
 ·exact⟨b - 1 - j,by omega,by rw[e,show b+(m - 1 - (b - 1 - j))=j+m by omega,Yad,Yn hj]⟩
 ·exact⟨m - 1 - (j - b),by omega,by rw[e,show b+(m - 1 - (m - 1 - (j - b)))=j by omega,Yn hj]⟩
theorem GhOk.room(gh:GhOk m g a s)(m1:1<=m)(hc:c<m){j:Nat}(hj:j<m)(hv:g.T j<g.B j):a c<m:=by obtain⟨i,hi,e⟩:=Zsz m1 g c hj;have h1:=gh.le c hc;have h2:¬i<a c:=fun q=>gh.seen c hc i q (by rw[e];exact hv);omega
theorem ZrQ(m1:1<=m){f i:Nat}(hf:f<m)(hi:i+1<m)(c:Nat):(c+(f+1)%m+(m - 1 - (i+1)))%m=(c+f+(m - 1 - i))%m:=by
 by_cases h:f+1<m
 ·rw [Yn h]
  congr 1;omega
 ·have e: f + 1 = m:=by omega
  rw[e,Nat.mod_self,show c+f+(m - 1 - i)=(c+0+(m - 1 - (i+1)))+m by omega,Yad]
theorem Zqp(m1:1<=m){f:Nat}(hf:f<m)(c:Nat):(c+(f+1)%m+(m - 1 - 0))%m=(c+f)%m:=by
 by_cases h:f+1<m
 ·rw[Yn h,show c+(f+1)+(m - 1 - 0)=c+f+m by omega,Yad]
 ·have e: f + 1 = m:=by omega
  rw[e,Nat.mod_self];congr 1;omega
inductive EndG (m:Nat) (g:Gng) (c:Nat):Prop
 |on (e:(resG m g c).2.2.end_=0) (t:(resG m g c).1=g.T (tgtG m g c)) (at1:(g.tk c).at_+1<=(resG m g c).2.2.at_) (at2:(resG m g c).2.2.at_<=3) (at0:0<=(g.tk c).at_) (top:g.fr c≠0->(resG m g c).2.2.top=if(g.tk c).at_=0 then g.T (tgtG m g c)else(g.tk c).top)
 |four (e:(resG m g c).2.2.end_=0) (f:g.fr c=0) (a4:(resG m g c).2.2.at_=4) (a2:(g.tk c).at_=2)
 |none (e:(resG m g c).2.2.end_=2) (t:(resG m g c).1=g.T (tgtG m g c)) (v:(resG m g c).2.1<=g.T (tgtG m g c)) (at1:1<=(g.tk c).at_) (at3:(g.tk c).at_<=3)
 |lost (e:(resG m g c).2.2.end_=3) (f:g.fr c≠0) (t:(resG m g c).1=g.T (tgtG m g c)) (a3:(g.tk c).at_=3) (top:(g.tk c).top≠g.T (tgtG m g c))
 |got (e:(resG m g c).2.2.end_=1) (a4:(g.tk c).at_≠4)
 |last (e:(resG m g c).2.2.end_=1) (t:(resG m g c).1=g.T (tgtG m g c)) (a4:(g.tk c).at_=4)
theorem GOk.ends(h:GOk n m E L g)(hc:c<m):EndG m g c/\((resG m g c).1=g.T (tgtG m g c)->(resG m g c).1<(resG m g c).2.1->g.T (tgtG m g c)<g.B (tgtG m g c)):=by
 have hdq:=h.dq _ (h.tgt c);by_cases hf:g.fr c=0
 ·obtain ⟨e1,e2⟩:=h.own hc hf
  have hst:(g.tk c).steal=false:=by have:=hdq.own.1;rw[e1,e2]at this;exact this
  have hres:resG m g c=Zay (g.R (tgtG m g c)) (g.T (tgtG m g c)) (g.B (tgtG m g c)) (g.tk c):=by unfold resG Zav;rw[Zb (by rw[hst];decide)]
  have ho:owG g (tgtG m g c)=g.tk c:=by rw[e1,e2]
  rw[ho]at hdq;obtain⟨q1,q2⟩:=Zmt hdq;rw[<-hres]at q1 q2;refine⟨?_,fun _=>q1⟩;rcases q2 with⟨b1,b2,b3,b4,b5⟩|⟨b1,b2,b3⟩|⟨b1,b2,b3,b4⟩|⟨b1,b2,b3⟩
  ·exact .on b1 b2 b3 b4 b5 fun q=>absurd hf q
  ·exact .four b1 hf b2 b3
  ·exact .none b1 b2 b3 (by omega) (by omega)
  ·by_cases h4: (g.tk c).at_ = 4
   ·exact .last b1 b2 h4
   ·exact .got b1 h4
 ·have hth:=h.th c hc hf
  have hres:resG m g c=ZaS (g.R (tgtG m g c)) (g.T (tgtG m g c)) (g.B (tgtG m g c)) (g.tk c):=by unfold resG Zav;rw[Zc hth.1]
  have hB:=(hdq.steal hth).1;rw[<-hres]at hB;have hE:=Zms hth;rw[<-hres]at hE;have t3:=hth.2.2.1;refine⟨?_,fun e q=>by rw[e,hB]at q;exact q⟩;rcases hE with⟨b1,b2,b3,b4,b5⟩|⟨b1,b2,b3,b4⟩|⟨b1,b2,b3,b4⟩|⟨b1,b2⟩
  ·exact .on b1 b2 (by omega) (by omega) t3.1 fun _=>b5
  ·exact .none b1 b2 (by rw[hB];exact b3) (by omega) (by omega)
  ·exact .lost b1 hf b2 b3 b4
  ·exact .got b1 (by omega)
theorem Ze0(e:(resG m g c).1=g.T (tgtG m g c))(i:Nat):(Zal m g c).T i=g.T i:=by
 show updG g.T (tgtG m g c) (resG m g c).1 i=g.T i;by_cases h:i=tgtG m g c
 ·rw[h,Zae,e]
 ·rw[Zad _ _ h]
theorem Zdw(e:(resG m g c).1=g.T (tgtG m g c))(hv:(resG m g c).1=g.T (tgtG m g c)->(resG m g c).1<(resG m g c).2.1->g.T (tgtG m g c)<g.B (tgtG m g c))(i:Nat):¬g.T i<g.B i->¬(Zal m g c).T i<(Zal m g c).B i:=fun q=>by
 rw[Ze0 e];show¬g.T i<updG g.B (tgtG m g c) (resG m g c).2.1 i;by_cases h:i=tgtG m g c
 ·subst h
  rw[Zae];exact fun q2=>q (hv e (by rw[e];exact q2))
 ·rw[Zad _ _ h];exact q
theorem ZgA{k:Nat}(h:k≠c):(Zal m g c).O.getD k 0=g.O.getD k 0:=by
 show(if(resG m g c).2.2.end_=1 then g.O.set c (resG m g c).2.2.got else g.O).getD k 0=_;split
 ·rw[Zcl (fun q=>h q.symm)]
 ·rfl
theorem Za9{k:Nat}(h:k≠c):(Zal m g c).tk k=g.tk k:=Zad _ _ h
theorem ZaQ{k:Nat}(h:k≠c):(Zal m g c).fr k=g.fr k:=Zad _ _ h
theorem ZgB(m:Nat)(g:Gng)(c:Nat):(Zal m g c).tk c=ntG m g c:=Zae _ _ _
theorem Zkv(m:Nat)(g:Gng)(c:Nat):(Zal m g c).fr c=nfG m g c:=Zae _ _ _
theorem Zjc(m1:1<=m)(hc:c<m)(hi:g.O.getD c 0= -1)(h4:(g.tk c).at_≠4)(hn:(Zal m g c).O.getD c 0≠ -1\/((Zal m g c).tk c).at_=4):
  ∃a' s',GhOk m (Zal m g c) a' s'/\muG m (Zal m g c) a' s'+1<=muG m g a s:=by
 refine⟨fun _=>0,fun k=>decide (((Zal m g c).tk k).at_≠0),⟨fun _ _=>Zu _,fun k _ q e=>absurd q (of_decide_eq_false e),fun k _ i q=>absurd q (Yj _),fun k _ _ q e=>absurd q (of_decide_eq_false e)⟩,?_⟩;obtain⟨s',hs'⟩:∃s':Nat->Bool,s'=fun k=>decide (((Zal m g c).tk k).at_≠0):=⟨_,rfl⟩;rw[<-hs'];obtain⟨W,hW⟩:∃W,W=m * (4 * m+4):=⟨_,rfl⟩;unfold muG;rw[<-hW,ZfB,ZfB];have hu:uG (Zal m g c) c=0:=by
  unfold uG;rcases hn with q|q
  ·exact Zb fun r=>q r.1
  ·exact Zb fun r=>r.2 q
 have hu1:uG g c=1:=Zc ⟨hi,h4⟩;have hun:∀k,k<m->k≠c->uG (Zal m g c) k * W=uG g k * W:=fun k _ hk=>by unfold uG;rw[ZgA hk,Za9 hk]
 have h1:=ZbV (f:=fun k=>uG g k * W) (f':=fun k=>uG (Zal m g c) k * W) hc hun;have h2:sumN (phiG m (Zal m g c) (fun _=>0) s') m<=sumN (fun k=>if k=c then 1 else 4 * m+4) m:=ZbZ fun k hk=>by
  by_cases hkc:k=c
  ·subst hkc
   rw[Zc rfl];unfold phiG;rcases hn with q|q
   ·rw[Zc q];omega
   ·split
    ·omega
    ·first|omega|(rw[Zc q];omega)
  ·rw[Zb hkc];exact ZrP _ _ _ _ _
 have h3:=ZbV (f:=fun _=>4 * m+4) (f':=fun k=>if k=c then 1 else 4 * m+4) hc fun k _ hk=>Zb hk;rw[Zce,<-hW]at h3;simp only[if_true]at h3;simp only[hu,hu1,Nat.zero_mul,Nat.one_mul]at h1;omega
theorem ZfD(hc:c<m){a':Nat->Nat}{s':Nat->Bool}(ha:∀k,k≠c->a' k=a k)(hs:∀k,k≠c->s' k=s k)
  (hu:uG (Zal m g c) c<=uG g c)(hp:phiG m (Zal m g c) a' s' c+1<=phiG m g a s c):muG m (Zal m g c) a' s'+1<=muG m g a s:=by
 unfold muG;have h1:=ZbV (f:=fun k=>uG g k * (m * (4 * m+4))+phiG m g a s k) (f':=fun k=>uG (Zal m g c) k * (m * (4 * m+4))+phiG m (Zal m g c) a' s' k) hc fun k _ hk=>by unfold uG phiG;rw[ZgA hk,Za9 hk,ha k hk,hs k hk]
 have h2:uG (Zal m g c) c * (m * (4 * m+4))<=uG g c * (m * (4 * m+4)):=Nat.mul_le_mul_right _ hu;omega
theorem GOk.less(h:GOk n m E L g)(gh:GhOk m g a s)(hc:c<m)(hi:g.O.getD c 0= -1)(hw:(g.tk c).at_≠0\/ ∃j,j<m/\g.T j<g.B j):
    ∃a' s',GhOk m (Zal m g c) a' s'/\muG m (Zal m g c) a' s'+1<=muG m g a s:=by
  have m1:=h.m1;obtain⟨hE,hV⟩:=h.ends hc;have hfr:=h.fr c hc;have hcl:c<g.O.length:=by rw[h.ol];exact hc
  have idle':(resG m g c).2.2.end_≠1->(Zal m g c).O.getD c 0= -1:=fun he=>by show(if(resG m g c).2.2.end_=1 then g.O.set c (resG m g c).2.2.got else g.O).getD c 0= -1;rw[Zb he];exact hi
  have busy':(resG m g c).2.2.end_=1->(Zal m g c).O.getD c 0≠ -1:=fun he=>by obtain⟨x,e,_,_⟩:=(h.step hc hi).1 he;show(if(resG m g c).2.2.end_=1 then g.O.set c (resG m g c).2.2.got else g.O).getD c 0≠ -1;rw[Zc he,Zb8 hcl,e];omega
  cases hE with
  | on e t at1 at2 at0 top =>
    have ht':(Zal m g c).tk c=(resG m g c).2.2:=(ZgB m g c).trans (Zc e);have hf':(Zal m g c).fr c=g.fr c:=(Zkv m g c).trans (Zc e);have hlt:s c=false->a c<m:=fun hs=>by
      rcases hw with q|⟨j,hj,hv⟩
      · exact gh.lt c hc q hs
      · exact gh.room m1 hc hj hv
    refine⟨a,s,⟨gh.le,fun k hk q hs=> ?_,fun k hk i hi2=> ?_,fun k hk q1 q2 hs=> ?_⟩,ZfD hc (fun _ _=>rfl) (fun _ _=>rfl) ?_ ?_⟩
    · by_cases hkc:k=c
      · subst hkc;exact hlt hs
      · rw[Za9 hkc]at q;exact gh.lt k hk q hs
    · have:bkG m (Zal m g c) k i=bkG m g k i:=by
        unfold bkG;by_cases hkc:k=c
        · subst hkc;rw[hf']
        · rw[ZaQ hkc]
      rw[this];exact Zdw t hV _ (gh.seen k hk i hi2)
    · rw[Ze0 t];by_cases hkc:k=c
      · subst hkc;have et:tgtG m (Zal m g k) k=tgtG m g k:=by unfold tgtG;rw[hf']
        rw[hf']at q1;rw[et,ht',top q1];split
        · rfl
        · next h0=>exact gh.top k hk q1 h0 hs
      · have et:tgtG m (Zal m g c) k=tgtG m g k:=by unfold tgtG;rw[ZaQ hkc]
        rw[ZaQ hkc]at q1;rw[Za9 hkc]at q2⊢;rw[et];exact gh.top k hk q1 q2 hs
    · unfold uG;split<;>split<;>first|omega|(next q1 q2=>exact absurd ⟨hi,by omega⟩ q2)
    · rw[ZdN (idle' (by rw[e];decide)) (by rw[ht'];omega),ZdN hi (by omega),ht'];by_cases hs:s c=true
      · rw[Zc hs,Zc hs];omega
      · have hs':s c=false:=by simpa using hs
        have:=hlt hs';rw[Zb hs,Zb hs];omega
  | four e f a4 a2 =>have ht':(Zal m g c).tk c=(resG m g c).2.2:=(ZgB m g c).trans (Zc e);exact Zjc m1 hc hi (by omega) (.inr (by rw[ht'];exact a4))
  |got e a4=>exact Zjc m1 hc hi a4 (.inl (busy' e))
  | last e t a4 =>
    have hat:((Zal m g c).tk c).at_=0:=by rw[ZgB];unfold ntG;rw[Zb (by rw[e];decide)];rfl
    have hf':(Zal m g c).fr c=0:=by rw[Zkv];unfold nfG;rw[Zb (by rw[e];decide),Zc e]
    refine⟨updG a c 0,updG s c false,⟨fun k hk=> ?_,fun k hk q hs=> ?_,fun k hk i hi2=> ?_,fun k hk q1 q2 hs=> ?_⟩,ZfD hc (fun k hk=>Zad _ _ hk) (fun k hk=>Zad _ _ hk) ?_ ?_⟩
    · by_cases hkc:k=c
      · rw[hkc,Zae];omega
      · rw[Zad _ _ hkc];exact gh.le k hk
    · by_cases hkc:k=c
      · rw[hkc]at q;exact absurd hat q
      · rw[Zad _ _ hkc]at hs⊢;rw[Za9 hkc]at q;exact gh.lt k hk q hs
    · by_cases hkc:k=c
      · rw[hkc,Zae]at hi2;omega
      · rw[Zad _ _ hkc]at hi2;have:bkG m (Zal m g c) k i=bkG m g k i:=by unfold bkG;rw[ZaQ hkc]
        rw[this];exact Zdw t hV _ (gh.seen k hk i hi2)
    · by_cases hkc:k=c
      · rw[hkc]at q1;exact absurd hf' q1
      · have et:tgtG m (Zal m g c) k=tgtG m g k:=by unfold tgtG;rw[ZaQ hkc]
        rw[Zad _ _ hkc]at hs;rw[ZaQ hkc]at q1;rw[Za9 hkc]at q2⊢;rw[et,Ze0 t];exact gh.top k hk q1 q2 hs
    · unfold uG;rw[Zb (fun q=>busy' e q.1)];omega
    · unfold phiG;rw[Zc (busy' e),Zb (fun q=>q hi),Zc a4]
      omega
  | none e t v at1 at3 =>
    have hat:((Zal m g c).tk c).at_=0:=by rw[ZgB];unfold ntG;rw[Zb (by rw[e];decide)];rfl
    have hf':(Zal m g c).fr c=(g.fr c+1)%m:=by rw[Zkv];unfold nfG;rw[Zb (by rw[e];decide),Zb (by rw[e];decide)]
    have hlt:s c=false->a c<m:=fun hs=>gh.lt c hc (by omega) hs;have hnv:¬(Zal m g c).T (tgtG m g c)<(Zal m g c).B (tgtG m g c):=by rw[Ze0 t];show¬_<updG g.B (tgtG m g c) (resG m g c).2.1 (tgtG m g c);rw[Zae];omega
    refine⟨updG a c (if s c then 0 else a c+1),updG s c false,⟨fun k hk=> ?_,fun k hk q hs=> ?_,fun k hk i hi2=> ?_,fun k hk q1 q2 hs=> ?_⟩,ZfD hc (fun k hk=>Zad _ _ hk) (fun k hk=>Zad _ _ hk) ?_ ?_⟩
    · by_cases hkc:k=c
      · rw[hkc,Zae];split
        · omega
        · next q=>exact hlt (by simpa using q)
      · rw[Zad _ _ hkc];exact gh.le k hk
    · by_cases hkc:k=c
      · rw[hkc]at q;exact absurd hat q
      · rw[Zad _ _ hkc]at hs⊢;rw[Za9 hkc]at q;exact gh.lt k hk q hs
    · by_cases hkc:k=c
      · subst hkc;rw[Zae]at hi2;split at hi2
        · omega
        · next q=>
          have hm:=hlt (by simpa using q)
          unfold bkG;rw[hf'];cases i with
          |zero=>rw[Zqp m1 hfr];exact hnv
          | succ i =>rw[ZrQ m1 hfr (by omega)];exact Zdw t hV _ (gh.seen k hk i (by omega))
      · rw[Zad _ _ hkc]at hi2;have:bkG m (Zal m g c) k i=bkG m g k i:=by unfold bkG;rw[ZaQ hkc]
        rw[this];exact Zdw t hV _ (gh.seen k hk i hi2)
    · by_cases hkc:k=c
      · rw[hkc]at q2;exact absurd hat q2
      · have et:tgtG m (Zal m g c) k=tgtG m g k:=by unfold tgtG;rw[ZaQ hkc]
        rw[Zad _ _ hkc]at hs;rw[ZaQ hkc]at q1;rw[Za9 hkc]at q2⊢;rw[et,Ze0 t];exact gh.top k hk q1 q2 hs
    · unfold uG;rw[Zc (show g.O.getD c 0= -1/\(g.tk c).at_≠4 from⟨hi,by omega⟩)];split<;>omega
    · rw[ZdN (idle' (by rw[e];decide)) (by rw[hat];decide),ZdN hi (by omega),hat,Zae,Zae,Zb (by decide)];by_cases hs:s c=true
      · rw[Zc hs,Zc hs];omega
      · have:=hlt (by simpa using hs)
        rw[Zb hs,Zb hs];omega
  | lost e f t a3 top =>
    have hs:s c=true:=by
      cases hs:s c with
      |true=>rfl
      |false=>exact absurd (gh.top c hc f (by omega) hs) top
    have hat:((Zal m g c).tk c).at_=0:=by rw[ZgB];unfold ntG;rw[Zb (by rw[e];decide)];rfl
    refine⟨updG a c 0,updG s c false,⟨fun k hk=> ?_,fun k hk q hs=> ?_,fun k hk i hi2=> ?_,fun k hk q1 q2 hs=> ?_⟩,ZfD hc (fun k hk=>Zad _ _ hk) (fun k hk=>Zad _ _ hk) ?_ ?_⟩
    · by_cases hkc:k=c
      · rw[hkc,Zae];omega
      · rw[Zad _ _ hkc];exact gh.le k hk
    · by_cases hkc:k=c
      · rw[hkc]at q;exact absurd hat q
      · rw[Zad _ _ hkc]at hs⊢;rw[Za9 hkc]at q;exact gh.lt k hk q hs
    · by_cases hkc:k=c
      · rw[hkc,Zae]at hi2;omega
      · rw[Zad _ _ hkc]at hi2;have:bkG m (Zal m g c) k i=bkG m g k i:=by unfold bkG;rw[ZaQ hkc]
        rw[this];exact Zdw t hV _ (gh.seen k hk i hi2)
    · by_cases hkc:k=c
      · rw[hkc]at q2;exact absurd hat q2
      · have et:tgtG m (Zal m g c) k=tgtG m g k:=by unfold tgtG;rw[ZaQ hkc]
        rw[Zad _ _ hkc]at hs;rw[ZaQ hkc]at q1;rw[Za9 hkc]at q2⊢;rw[et,Ze0 t];exact gh.top k hk q1 q2 hs
    · unfold uG;rw[Zc (show g.O.getD c 0= -1/\(g.tk c).at_≠4 from⟨hi,by omega⟩)];split<;>omega
    · rw[ZdN (idle' (by rw[e];decide)) (by rw[hat];decide),ZdN hi (by omega),hat,Zae,Zae,Zb (by decide),Zc hs];omega
end
def visG(m:Nat)(g:Gng):Prop:=∃ j,j<m/\g.T j<g.B j
instance (m:Nat) (g:Gng):Decidable (visG m g):=by
 unfold visG;exact decidable_of_iff (∃j:Fin m,g.T j.1<g.B j.1) ⟨fun⟨j,h⟩=>⟨j.1,j.2,h⟩,fun⟨j,hj,h⟩=>⟨⟨j,hj⟩,h⟩⟩
def ZaK(m:Nat)(g:Gng):List Nat:=(Zo m).filter fun c=>decide (g.O.getD c 0= -1/\((g.tk c).at_≠0\/visG m g))
theorem mem_wants{m:Nat}{g:Gng}{c:Nat}:c∈ZaK m g↔c<m/\g.O.getD c 0= -1/\((g.tk c).at_≠0\/visG m g):=by unfold ZaK;rw[List.mem_filter,List.mem_range,decide_eq_true_iff]
def ZdW(l:List Nat)(last:Int):Nat:=(l.find? fun(c:Nat)=>decide (last<(c:Int))).getD (l.getD 0 0)
def Zh1(l:List Nat)(picks:List Int)(k:Nat)(last:Int):Nat:=
 if k<picks.length then l.getD ((max (picks.getD k 0) 0).toNat%l.length) 0 else ZdW l last
def Zbq(m:Nat)(g:Gng)(picks:List Int):Nat->Gng×Int
 |0=>(g,-1)
 |k+1=>(Zal m (Zbq m g picks k).1 (Zh1 (ZaK m (Zbq m g picks k).1) picks k (Zbq m g picks k).2),(Zh1 (ZaK m (Zbq m g picks k).1) picks k (Zbq m g picks k).2:Int))
def lenC(m:Nat)(g:Gng)(picks:List Int):Nat:=((Zo (m * (m * (4 * m+4)+4 * m)+1)).find? fun k=>decide (ZaK m (Zbq m g picks k).1= [])).getD 0
def Zdx(m:Nat)(g:Gng)(picks:List Int):Gng:=(Zbq m g picks (lenC m g picks)).1
section
variable {n m: Nat}{E: List (Int × Int)}{L: List Int}{g: Gng}{c: Nat}{picks: List Int}
theorem Zou{l:List Nat}(h:l≠ [])(last:Int):ZdW l last∈l:=by
  unfold ZdW;cases hf:l.find? fun(c:Nat)=>decide (last<(c:Int))with
  |some x=>exact List.mem_of_find?_eq_some hf
  | none =>
    match l,h with
    |x::r,_=>exact List.mem_cons_self
theorem Zlr{l:List Nat}(h:l≠ [])(picks:List Int)(k:Nat)(last:Int):Zh1 l picks k last∈l:=by
 unfold Zh1;split
 ·have hl: 0 < l.length:=List.length_pos_iff.mpr h
  have h1:=Nat.mod_lt (max (picks.getD k 0) 0).toNat hl;rw[Zi,Zh h1];exact Zz h1
 ·exact Zou h last
structure CalmInv(n m:Nat)(E:List (Int×Int))(L:List Int)(g:Gng)(picks:List Int)(k:Nat):Prop where
 ok:GOk n m E L (Zbq m g picks k).1
 len0:g.O.length=m
 keep:∀c,c<m->g.O.getD c 0≠ -1->(Zbq m g picks k).1.O.getD c 0=g.O.getD c 0
 from_:∀x∈(Zbq m g picks k).1.O,x∈g.O\/ ∃y:Nat,x=y/\y<n/\ZaD E g.O L y
 mu:∃a s,GhOk m (Zbq m g picks k).1 a s/\muG m (Zbq m g picks k).1 a s+k<=m * (m * (4 * m+4)+4 * m)
theorem CalmInv.start(h:GOk n m E L g)(h0:∀c,c<m->(g.tk c).at_=0):CalmInv n m E L g picks 0:=
 ⟨h,h.ol,fun _ _ _=>rfl,fun x hx=> .inl hx,_,_,GhOk.start h0,by have:=Zot h0;show muG m g _ _+0<=_;omega⟩
theorem CalmInv.next{k:Nat}(h:CalmInv n m E L g picks k)(hw:ZaK m (Zbq m g picks k).1≠ []):CalmInv n m E L g picks (k+1):=by
 obtain⟨ok,len0,keep,from_,a,s,gh,hmu⟩:=h;obtain⟨q,hq⟩:∃q,q=(Zbq m g picks k).1:=⟨_,rfl⟩;obtain⟨c,hc⟩:∃c,c=Zh1 (ZaK m (Zbq m g picks k).1) picks k (Zbq m g picks k).2:=⟨_,rfl⟩;have hS:(Zbq m g picks (k+1)).1=Zal m q c:=by rw[hq,hc];rfl
 have hm:=Zlr hw picks k (Zbq m g picks k).2;rw[<-hc,<-hq]at hm;rw[<-hq]at ok keep from_ gh hmu;obtain⟨h1,h2,h3⟩:=mem_wants.mp hm;have hcl:c<q.O.length:=by rw[ok.ol];exact h1
 obtain⟨hg,hok⟩:=ok.step h1 h2;obtain⟨a',s',gh',hmu'⟩:=ok.less gh h1 h2 h3;refine⟨by rw[hS];exact hok,len0,fun i hi hne=> ?_,fun x hx=> ?_,a',s',by rw[hS];exact gh',by rw[hS];omega⟩
 ·rw [hS]
  have hic:i≠c:=by rintro rfl;rw[<-keep i hi hne]at hne;exact hne h2
  rw[ZgA hic];exact keep i hi hne
 ·rw [hS] at hx
  have hx':x∈(if(resG m q c).2.2.end_=1 then q.O.set c (resG m q c).2.2.got else q.O):=hx;split at hx'
  ·next he =>
   obtain⟨y,e1,e2,e3⟩:=hg he;rw[e1]at hx';rcases ZbI hx' with h4|rfl
   ·exact from_ x h4
   ·refine .inr ⟨y,rfl,e2,e3.1,fun hy => e3.2.1 ?_,e3.2.2⟩
    obtain⟨j,hj,he2⟩:=ZA hy;have h4:g.O.getD j 0=(y:Int):=by rw[Zi,Zh hj];exact he2
    by_cases hjm:j<m
    ·have h5:=keep j hjm (by omega)
     rw[h4]at h5;have h6:j<q.O.length:=by rw[ok.ol];exact hjm
     rw[Zi,Zh h6]at h5;have h7:q.O[j]=(y:Int):=h5;rw[<-h7];exact Zz h6
    ·omega
  ·exact from_ x hx'
theorem CalmInv.upto(h:GOk n m E L g)(h0:∀c,c<m->(g.tk c).at_=0):∀k,(∀j,j<k->ZaK m (Zbq m g picks j).1≠ [])->CalmInv n m E L g picks k
 |0,_=>CalmInv.start h h0
 |k+1,hw=>(CalmInv.upto h h0 k fun j hj=>hw j (by omega)).next (hw k (by omega))
theorem ZeA(h:GOk n m E L g)(h0:∀c,c<m->(g.tk c).at_=0):
  ZaK m (Zdx m g picks)= []/\(∀j,j<lenC m g picks->ZaK m (Zbq m g picks j).1≠ [])/\lenC m g picks<=m * (m * (4 * m+4)+4 * m)/\CalmInv n m E L g picks (lenC m g picks):=by
 obtain⟨M,hM⟩:∃M,M=m * (m * (4 * m+4)+4 * m):=⟨_,rfl⟩;have hex:∃k,k<=M/\ZaK m (Zbq m g picks k).1= []:=by
  by_cases h2:∃k,k<=M/\ZaK m (Zbq m g picks k).1= []
  ·exact h2
  ·exfalso
   have hw:∀j,j<M+1->ZaK m (Zbq m g picks j).1≠ []:=fun j hj q=>h2 ⟨j,by omega,q⟩;obtain⟨_,_,_,_,a,s,_,hmu⟩:=CalmInv.upto h h0 (M+1) hw;rw[<-hM]at hmu;omega
 obtain⟨k,hk,hs⟩:=hex;obtain⟨j,hj,hs2,hmin⟩:=Zen (p:=fun k=>ZaK m (Zbq m g picks k).1= []) k hs;have he:lenC m g picks=j:=by unfold lenC;rw[ZdG (k:=j) (by simpa using hs2) (by rw[<-hM];omega) (fun i hi=>by have:=hmin i hi;simpa using this)];rfl
 refine⟨?_,?_,?_,?_⟩
 ·unfold Zdx;rw[he];exact hs2
 ·rw[he];exact fun i hi=>hmin i hi
 ·rw[he,<-hM];omega
 ·rw[he];exact CalmInv.upto h h0 j fun i hi=>hmin i hi
theorem Zjd(m1:1<=m):m * (m * (4 * m+4)+4 * m)<=8 * m * m * (m+1):=by
 obtain⟨q,hq⟩:∃q,q=m * m:=⟨_,rfl⟩;obtain⟨p,hp⟩:∃p,p=q * (m+1):=⟨_,rfl⟩;have e1:m * (m * (4 * m+4)+4 * m)=4 * p+4 * q:=by rw[Nat.mul_add,<-Nat.mul_assoc,<-hq,show 4 * m+4=4 * (m+1) by omega,Nat.mul_left_comm q 4,<-hp,Nat.mul_left_comm m 4,<-hq]
 have e2:8 * m * m * (m+1)=8 * p:=by rw[Nat.mul_assoc 8 m m,<-hq,Nat.mul_assoc,<-hp]
 have e3:q * 1<=q * (m+1):=Nat.mul_le_mul_left _ (by omega);rw[e1,e2];omega
theorem Ze1(h:GOk n m E L g)(hw:ZaK m g= []):(∀c,c<m->(g.tk c).at_=0)/\(Zaw n E g.O L= []\/(-1)∉g.O):=by
 have h1:∀c,c<m->g.O.getD c 0= -1->(g.tk c).at_=0/\¬visG m g:=fun c hc hi=>by
  have h2:c∉ZaK m g:=by rw[hw];simp
  rw[mem_wants]at h2;constructor
  ·exact Classical.byContradiction fun q=>h2 ⟨hc,hi,.inl q⟩
  ·exact fun q=>h2 ⟨hc,hi,.inr q⟩
 have h3:∀c,c<m->(g.tk c).at_=0:=fun c hc=>by
  by_cases hi:g.O.getD c 0= -1
  ·exact(h1 c hc hi).1
  ·rw[(h.busy c hc hi).2];rfl
 refine⟨h3,?_⟩;by_cases hm:(-1:Int)∈g.O
 ·left
  obtain⟨c,hc,he⟩:=ZA hm;have hcm:c<m:=by rw[<-h.ol];exact hc
  have hi:g.O.getD c 0= -1:=by rw[Zi,Zh hc];exact he
  have hv:=(h1 c hcm hi).2;have hz:∀x:Int,sumN (fun j=>lftG g j x) m=0:=fun x=>by
   rw[<-Zdt m];refine ZaP fun j hj=> ?_;have ha:(owG g j).at_=0:=by
    unfold owG;split
    ·exact h3 j hj
    ·rfl
   have hb:¬g.T j<g.B j:=fun q=>hv ⟨j,hj,q⟩;unfold lftG lftD virD Zkw;rw[Zc ha,Zb (by rw[ha];decide),ZcA (by omega)];rfl
  apply List.eq_nil_iff_forall_not_mem.mpr;intro x hx;obtain⟨hxn,hr⟩:=mem_readyU.mp hx;have h4:=h.once (x:Int);rw[hz,Zc ⟨⟨by omega,by omega⟩,by rw[Int.toNat_natCast];exact hr⟩]at h4;omega
 ·exact .inr hm
end
end Go.Proofs.YtfahabphncmbfaaGreatDoor
