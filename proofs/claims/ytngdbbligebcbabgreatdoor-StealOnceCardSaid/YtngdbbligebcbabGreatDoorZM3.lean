import Derived.Test.YtngdbbligebcbabGreatDoorZM2
set_option linter.unusedVariables false
namespace Go.Proofs.YtngdbbligebcbabGreatDoor
structure Gng where
 R:Nat->List Int
 T:Nat->Int
 B:Nat->Int
 tk:Nat->Tkr
 fr:Nat->Nat
 O:List Int
def updG{α:Type}(f:Nat->α)(i:Nat)(v:α):Nat->α:=fun j=>if j=i then v else f j
theorem updG_at{α:Type}(f:Nat->α)(i:Nat)(v:α):updG f i v i=v:=if_pos rfl
theorem updG_ne{α:Type}(f:Nat->α){i j:Nat}(v:α)(h:j≠i):updG f i v j=f j:=if_neg h
theorem sumN_upd{f f':Nat->Nat}{m j:Nat}(hj:j<m)(h: ∀i,i<m->i≠j->f' i=f i):sumN f' m+f j=sumN f m+f' j:=by
  induction m with
  |zero=>omega
  | succ m ih =>
    show sumN f' m+f' m+f j=sumN f m+f m+f' j
    by_cases hm:j=m
    · subst hm;have:sumN f' j=sumN f j:=sumN_congr fun k hk=>h k (by omega) (by omega)
      omega
    · have:=ih (by omega) fun i hi hne=>h i (by omega) hne
      have:=h m (by omega) (fun e=>hm e.symm)
      omega
def owG(g:Gng)(j:Nat):Tkr:=if g.fr j=0 then g.tk j else newTk false
def tgtG(m:Nat)(g:Gng)(c:Nat):Nat:=(c+g.fr c)%m
def virG(g:Gng)(j:Nat):Int:=virD (g.B j) (owG g j)
def lftG(g:Gng)(j:Nat)(x:Int):Nat:=lftD (g.R j) (g.T j) (g.B j) (owG g j) x
def resG(m:Nat)(g:Gng)(c:Nat):Int×Int×Tkr:=moveD (g.R (tgtG m g c)) (g.T (tgtG m g c)) (g.B (tgtG m g c)) (g.tk c)
def nfG(m:Nat)(g:Gng)(c:Nat):Nat:=if(resG m g c).2.2.end_=0 then g.fr c else if(resG m g c).2.2.end_=1 then 0 else(g.fr c+1)%m
def ntG(m:Nat)(g:Gng)(c:Nat):Tkr:=if(resG m g c).2.2.end_=0 then(resG m g c).2.2 else newTk (decide (nfG m g c≠0))
def stepG(m:Nat)(g:Gng)(c:Nat):Gng:=
 {R:=g.R,T:=updG g.T (tgtG m g c) (resG m g c).1,B:=updG g.B (tgtG m g c) (resG m g c).2.1,tk:=updG g.tk c (ntG m g c),fr:=updG g.fr c (nfG m g c),O:=if(resG m g c).2.2.end_=1 then g.O.set c (resG m g c).2.2.got else g.O}
structure GOk(n m:Nat)(E:List (Int×Int))(L:List Int)(g:Gng):Prop where
 m1:1<=m
 n64:n<=64
 crew:CrewOk n E g.O L
 ol:g.O.length=m
 fr: ∀c,c<m->g.fr c<m
 rl: ∀j,j<m->(g.R j).length=64
 dq: ∀j,j<m->DqOk (g.R j) 64 (g.T j) (g.B j) (owG g j)
 th: ∀c,c<m->g.fr c≠0->ThiefOk (g.R (tgtG m g c)) (g.T (tgtG m g c)) (virG g (tgtG m g c)) 64 (g.tk c)
 busy: ∀c,c<m->g.O.getD c 0≠ -1->g.fr c=0/\g.tk c=newTk false
 once: ∀x:Int,sumN (fun j=>lftG g j x) m=if(0<=x/\x<n)/\ReadyC E g.O L x.toNat then 1 else 0
 few:sumN (fun j=>(virG g j).toNat) m<=sumN (fun x=>if OverC E L (x:Int)then 1 else 0) n
section
variable {n m: Nat} {E: List (Int × Int)} {L: List Int} {g: Gng} {c: Nat}
theorem CrewOk.put{O:List Int}(h:CrewOk n E O L){i x:Nat}(hi:i<O.length)(h0:O.getD i 0= -1)(hx:x<n)(hr:ReadyC E O L x):CrewOk n E (O.set i (x:Int)) L:=by
 obtain⟨r1,r2,r3⟩:=hr;refine⟨by rw[List.length_set];exact h.lo,by rw[List.length_set];exact h.hi,h.ln,h.left,h.done,fun y hy=> ?_,fun y hy=> ?_⟩
 ·rcases mem_set_ready hy with hy | rfl
  ·exact h.on y hy
  ·exact .inr ⟨⟨by omega,by omega⟩,by omega,r3⟩
 ·rw [List.count_set hi]
  have h1:=h.once y hy
  by_cases hxy:(x:Int)=y
  ·have h2: O.count y = 0:=List.count_eq_zero.mpr (by rw [<- hxy]; exact r2)
   rw[h2]
   split<;>split<;>omega
  ·have h3: ((x: Int) == y) = false:=by simpa using hxy
   rw[h3];simp only[Bool.false_eq_true,if_false];omega
theorem mem_put{O:List Int}{i x:Nat}(hi:i<O.length)(h0:O.getD i 0= -1){y:Int}(hy:y≠ -1):y∈O.set i (x:Int)↔y∈O\/y=x:=by
 constructor
 ·exact mem_set_ready
 ·rintro (h | rfl)
  ·obtain ⟨j,hj,he⟩:=List.getElem_of_mem h
   have hji:j≠i:=by
    rintro rfl;rw[List.getD_eq_getElem?_getD,List.getElem?_eq_getElem hj]at h0
    exact hy (by rw[<-he];exact h0)
   rw[<-he];have h1:(O.set i (x:Int))[j]? =some O[j]:=by rw[List.getElem?_set_ne hji.symm,List.getElem?_eq_getElem hj]
   exact List.mem_of_getElem? h1
  ·exact List.mem_set hi _
theorem ready_put{O:List Int}{i x:Nat}(hi:i<O.length)(h0:O.getD i 0= -1)(y:Nat):ReadyC E (O.set i (x:Int)) L y↔ReadyC E O L y/\y≠x:=by
 unfold ReadyC;rw[mem_put hi h0 (by omega)]
 constructor
 ·rintro ⟨a,b,d⟩
  exact⟨⟨a,fun q=>b (.inl q),d⟩,fun e=>b (.inr (by rw[e]))⟩
 ·rintro ⟨⟨a,b,d⟩,e⟩
  exact⟨a,fun q=>q.elim b (fun e2=>e (by omega)),d⟩
theorem GOk.tgt(h:GOk n m E L g)(c:Nat):tgtG m g c<m:=Nat.mod_lt _ (by have:=h.m1;omega)
theorem GOk.own(h:GOk n m E L g)(hc:c<m)(hf:g.fr c=0):tgtG m g c=c/\owG g c=g.tk c:=by
 unfold tgtG owG;rw[hf,Nat.add_zero,Nat.mod_eq_of_lt hc,if_pos rfl];exact⟨rfl,rfl⟩
theorem GOk.other(h:GOk n m E L g)(hc:c<m)(hf:g.fr c≠0):tgtG m g c≠c:=by
 have h1:=h.fr c hc;unfold tgtG;intro e
 by_cases h2:c+g.fr c<m
 ·rw[Nat.mod_eq_of_lt h2]at e;omega
 ·rw[Nat.mod_eq_sub_mod (by omega),Nat.mod_eq_of_lt (by omega)]at e;omega
structure StepOk(m:Nat)(g:Gng)(c:Nat):Prop where
 dq:DqOk (g.R (tgtG m g c)) 64 (resG m g c).1 (resG m g c).2.1 (owG (stepG m g c) (tgtG m g c))
 cnt: ∀x,lftD (g.R (tgtG m g c)) (resG m g c).1 (resG m g c).2.1 (owG (stepG m g c) (tgtG m g c)) x+gotD (resG m g c).2.2 x=lftG g (tgtG m g c) x
 th: ∀t2,ThiefOk (g.R (tgtG m g c)) (g.T (tgtG m g c)) (virG g (tgtG m g c)) 64 t2->ThiefOk (g.R (tgtG m g c)) (resG m g c).1 (virD (resG m g c).2.1 (owG (stepG m g c) (tgtG m g c))) 64 t2
 vir:virD (resG m g c).2.1 (owG (stepG m g c) (tgtG m g c))<=virG g (tgtG m g c)
 ow: ∀i,i<m->i≠tgtG m g c->owG (stepG m g c) i=owG g i
 me:(resG m g c).2.2.end_=0->g.fr c≠0->ThiefOk (g.R (tgtG m g c)) (resG m g c).1 (virD (resG m g c).2.1 (owG (stepG m g c) (tgtG m g c))) 64 (resG m g c).2.2
 nf:nfG m g c<m
theorem GOk.stepOk(h:GOk n m E L g)(hc:c<m):StepOk m g c:=by
 have hnf:nfG m g c<m:=by
  unfold nfG
  split
  ·exact h.fr c hc
  ·split
   ·have:=h.m1;omega
   ·exact Nat.mod_lt _ (by have:=h.m1;omega)
 have hdq:=h.dq _ (h.tgt c)
 by_cases hf:g.fr c=0
 ·obtain ⟨e1,e2⟩:=h.own hc hf
  have hst:(g.tk c).steal=false:=by
   have:=hdq.own.1;rw[e1,e2]at this;exact this
  have hres:resG m g c=ownerD (g.R (tgtG m g c)) (g.T (tgtG m g c)) (g.B (tgtG m g c)) (owG g (tgtG m g c)):=by
   unfold resG moveD;rw[if_neg (by rw[hst];decide)]
   rw[e1,e2]
  obtain⟨p1,p2,p3,p4,p5⟩:=hdq.pop;rw[<-hres]at p1 p2 p3 p4 p5;have how:owG (stepG m g c) (tgtG m g c)=nextT (resG m g c).2.2:=by
   rw[e1];unfold owG nextT;show(if updG g.fr c (nfG m g c) c=0 then updG g.tk c (ntG m g c) c else newTk false)=_
   rw[updG_at,updG_at];unfold ntG
   by_cases he:(resG m g c).2.2.end_=0
   ·rw [if_pos he,if_pos he]
    unfold nfG;rw[if_pos he,if_pos hf]
   ·rw [if_neg he,if_neg he,p4]
    by_cases h0:nfG m g c=0
    ·rw[if_pos h0,decide_eq_false (fun q=>q h0)]
    ·rw[if_neg h0]
  refine⟨how▸p1,how▸p2,how▸p3,how▸p5,fun i hi hne=> ?_,fun _ q=>absurd hf q,hnf⟩
  rw[e1]at hne;unfold owG;show(if updG g.fr c (nfG m g c) i=0 then updG g.tk c (ntG m g c) i else newTk false)=_
  rw[updG_ne _ _ hne,updG_ne _ _ hne]
 ·have hne:=h.other hc hf
  have hth:=h.th c hc hf;have hst:(g.tk c).steal=true:=hth.1;have hres:resG m g c=thiefD (g.R (tgtG m g c)) (g.T (tgtG m g c)) (g.B (tgtG m g c)) (g.tk c):=by
   unfold resG moveD;rw[if_pos hst]
  obtain⟨p1,p2,p3,p4,p5,p6,p7⟩:=hdq.steal hth;rw[<-hres]at p1 p2 p3 p4 p5 p6 p7;have how: ∀i,owG (stepG m g c) i=owG g i:=fun i=>by
   unfold owG;show(if updG g.fr c (nfG m g c) i=0 then updG g.tk c (ntG m g c) i else newTk false)=_
   by_cases hi:i=c
   ·subst hi
    rw[updG_at,updG_at,if_neg hf]
    by_cases he:(resG m g i).2.2.end_=0
    ·have h1: nfG m g i = g.fr i:=if_pos he
     rw[h1,if_neg hf]
    ·have h1: ntG m g i = newTk (decide (nfG m g i ≠ 0)):=if_neg he
     rw[h1]
     by_cases h0:nfG m g i=0
     ·rw[if_pos h0,decide_eq_false (fun q=>q h0)]
     ·rw[if_neg h0]
   ·rw[updG_ne _ _ hi,updG_ne _ _ hi]
  refine⟨by rw[how,p1];exact p3,fun x=>by rw[how,p1];exact p4 x,fun t2 q=>by rw[how,p1];exact p6 t2 q,by rw[how,p1];exact Int.le_refl _,fun i _ _=>how i,fun he _=> ?_,hnf⟩
  have hn:nextT (resG m g c).2.2=(resG m g c).2.2:=if_pos he;rw[hn]at p5;rw[how,p1];exact p5
theorem GOk.step(h:GOk n m E L g)(hc:c<m)(hi:g.O.getD c 0= -1):
  ((resG m g c).2.2.end_=1-> ∃x:Nat,(resG m g c).2.2.got=x/\x<n/\ReadyC E g.O L x)/\GOk n m E L (stepG m g c):=by
 have S:=h.stepOk hc;have hj:=h.tgt c;have hcl:c<g.O.length:=by rw[h.ol];exact hc
 have hsum: ∀x:Int,sumN (fun j=>lftG (stepG m g c) j x) m+gotD (resG m g c).2.2 x=sumN (fun j=>lftG g j x) m:=fun x=>by
  have h1:=sumN_upd (f:=fun j=>lftG g j x) (f':=fun j=>lftG (stepG m g c) j x) hj fun i hi hne=>by
   show lftD (g.R i) (updG g.T (tgtG m g c) (resG m g c).1 i) (updG g.B (tgtG m g c) (resG m g c).2.1 i) (owG (stepG m g c) i) x=_
   rw[updG_ne _ _ hne,updG_ne _ _ hne,S.ow i hi hne];rfl
  have h2:lftG (stepG m g c) (tgtG m g c) x+gotD (resG m g c).2.2 x=lftG g (tgtG m g c) x:=by
   rw[<-S.cnt x];show lftD (g.R (tgtG m g c)) (updG g.T (tgtG m g c) (resG m g c).1 (tgtG m g c)) (updG g.B (tgtG m g c) (resG m g c).2.1 (tgtG m g c)) (owG (stepG m g c) (tgtG m g c)) x+_=_
   rw[updG_at,updG_at]
  omega
 have hready:(resG m g c).2.2.end_=1-> ∃x:Nat,(resG m g c).2.2.got=x/\x<n/\ReadyC E g.O L x:=fun he=>by
  have h1:=hsum (resG m g c).2.2.got;rw[gotD_yes he,if_pos rfl,h.once]at h1
  split at h1
  ·next q=>exact⟨(resG m g c).2.2.got.toNat,by omega,by omega,q.2⟩
  ·omega
 refine⟨hready,?_⟩
 have hO:((resG m g c).2.2.end_≠1/\(stepG m g c).O=g.O)\/ ∃x:Nat,(resG m g c).2.2.end_=1/\(resG m g c).2.2.got=x/\x<n/\ReadyC E g.O L x/\(stepG m g c).O=g.O.set c (x:Int):=by
  by_cases he:(resG m g c).2.2.end_=1
  ·obtain ⟨x,e1,e2,e3⟩:=hready he
   exact .inr ⟨x,he,e1,e2,e3,by show(if _ then _ else _)=_;rw[if_pos he,e1]⟩
  ·exact .inl ⟨he,if_neg he⟩
 have hlen:(stepG m g c).O.length=m:=by
  rcases hO with⟨_,e⟩|⟨x,_,_,_,_,e⟩
  ·rw[e];exact h.ol
  ·rw[e,List.length_set];exact h.ol
 have hvir: ∀j,j<m->virG (stepG m g c) j<=virG g j:=fun j hj2=>by
  unfold virG;show virD (updG g.B (tgtG m g c) (resG m g c).2.1 j) (owG (stepG m g c) j)<=_
  by_cases hne:j=tgtG m g c
  ·subst hne
   rw[updG_at];exact S.vir
  ·rw[updG_ne _ _ hne,S.ow j hj2 hne];exact Int.le_refl _
 refine⟨h.m1,h.n64,?_,hlen,fun k hk=> ?_,h.rl,fun j hj2=> ?_,fun k hk hkf=> ?_,fun k hk hkb=> ?_,fun x=> ?_,Nat.le_trans (sumN_le fun j hj2=>by have:=hvir j hj2;omega) h.few⟩
 ·rcases hO with ⟨_,e⟩ | ⟨x,_,_,hx,hr,e⟩
  ·rw[e];exact h.crew
  ·rw[e];exact h.crew.put hcl hi hx hr
 ·show updG g.fr c (nfG m g c) k < m
  by_cases hkc:k=c
  ·subst hkc;rw[updG_at];exact S.nf
  ·rw[updG_ne _ _ hkc];exact h.fr k hk
 ·show DqOk (g.R j) 64 (updG g.T (tgtG m g c) (resG m g c).1 j) (updG g.B (tgtG m g c) (resG m g c).2.1 j) (owG (stepG m g c) j)
  by_cases hne:j=tgtG m g c
  ·subst hne
   rw[updG_at,updG_at];exact S.dq
  ·rw[updG_ne _ _ hne,updG_ne _ _ hne,S.ow j hj2 hne];exact h.dq j hj2
 ·-- who steals
  have hkf':updG g.fr c (nfG m g c) k≠0:=hkf;have hold:k≠c->ThiefOk ((stepG m g c).R (tgtG m (stepG m g c) k)) ((stepG m g c).T (tgtG m (stepG m g c) k)) (virG (stepG m g c) (tgtG m (stepG m g c) k)) 64 ((stepG m g c).tk k):=fun hkc=>by
   have ef:(stepG m g c).fr k=g.fr k:=updG_ne _ _ hkc;have et:tgtG m (stepG m g c) k=tgtG m g k:=by unfold tgtG;rw[ef]
   have e3:(stepG m g c).tk k=g.tk k:=updG_ne _ _ hkc;rw[updG_ne _ _ hkc]at hkf';rw[et,e3];have hth:=h.th k hk hkf'
   by_cases hne:tgtG m g k=tgtG m g c
   ·rw [hne] at hth ⊢
    unfold virG;show ThiefOk (g.R (tgtG m g c)) (updG g.T (tgtG m g c) (resG m g c).1 (tgtG m g c)) (virD (updG g.B (tgtG m g c) (resG m g c).2.1 (tgtG m g c)) (owG (stepG m g c) (tgtG m g c))) 64 (g.tk k)
    rw[updG_at,updG_at];exact S.th _ hth
   ·unfold virG
    show ThiefOk (g.R (tgtG m g k)) (updG g.T (tgtG m g c) (resG m g c).1 (tgtG m g k)) (virD (updG g.B (tgtG m g c) (resG m g c).2.1 (tgtG m g k)) (owG (stepG m g c) (tgtG m g k))) 64 (g.tk k)
    rw[updG_ne _ _ hne,updG_ne _ _ hne,S.ow _ (h.tgt k) hne];exact hth
  by_cases hkc:k=c
  ·subst hkc
   rw[updG_at]at hkf';have e3:(stepG m g k).tk k=ntG m g k:=updG_at _ _ _;rw[e3]
   by_cases he:(resG m g k).2.2.end_=0
   ·have en: nfG m g k = g.fr k:=if_pos he
    have et:ntG m g k=(resG m g k).2.2:=if_pos he;have eg:tgtG m (stepG m g k) k=tgtG m g k:=by unfold tgtG;show(k+updG g.fr k (nfG m g k) k)%m=_;rw[updG_at,en]
    rw[en]at hkf';rw[eg,et];unfold virG;show ThiefOk (g.R (tgtG m g k)) (updG g.T (tgtG m g k) (resG m g k).1 (tgtG m g k)) (virD (updG g.B (tgtG m g k) (resG m g k).2.1 (tgtG m g k)) (owG (stepG m g k) (tgtG m g k))) 64 _
    rw[updG_at,updG_at];exact S.me he hkf'
   ·have et: ntG m g k = newTk true:=by
     unfold ntG;rw[if_neg he,decide_eq_true hkf']
    rw[et];exact thief_new _ _ _ _ (by decide)
  ·exact hold hkc
 ·-- who has a node
  have hkb':(stepG m g c).O.getD k 0≠ -1:=hkb
  by_cases hkc:k=c
  ·subst hkc
   rcases hO with⟨_,e⟩|⟨x,he,_,_,_,e⟩
   ·rw[e]at hkb';exact absurd hi hkb'
   ·have en: nfG m g k = 0:=by unfold nfG; rw [if_neg (by rw [he]; decide),if_pos he]
    have et:ntG m g k=newTk false:=by
     unfold ntG;rw[if_neg (by rw[he];decide),en]
     rfl
    exact⟨by show updG g.fr k (nfG m g k) k=0;rw[updG_at,en],by show updG g.tk k (ntG m g k) k=_;rw[updG_at,et]⟩
  ·have e: (stepG m g c).O.getD k 0 = g.O.getD k 0:=by
    rcases hO with⟨_,e⟩|⟨x,_,_,_,_,e⟩
    ·rw[e]
    ·rw[e,getD_set_ne (fun q=>hkc q.symm)]
   rw[e]at hkb';obtain⟨b1,b2⟩:=h.busy k hk hkb';exact⟨by show updG g.fr c (nfG m g c) k=0;rw[updG_ne _ _ hkc,b1],by show updG g.tk c (ntG m g c) k=_;rw[updG_ne _ _ hkc,b2]⟩
 ·-- each number that is ready,once
  have h1:=hsum x;rw[h.once]at h1;rcases hO with⟨he,e⟩|⟨y,he,hy,hyn,hr,e⟩
  ·rw [e]
   rw[gotD_no he]at h1;omega
  ·rw [gotD_yes he,hy] at h1
   rw[e]
   by_cases hxy:(y:Int)=x
   ·subst hxy
    rw[if_pos rfl]at h1;rw[Int.toNat_natCast]at h1⊢;rw[if_pos ⟨⟨by omega,by omega⟩,hr⟩]at h1
    rw[if_neg (fun q=>((ready_put hcl hi y).mp q.2).2 rfl)]
    omega
   ·rw [if_neg hxy] at h1
    rw[Nat.add_zero]at h1;rw[h1]
    by_cases hx:0<=x/\x<n
    ·have hrd:=ready_put (E:=E) (L:=L) (x:=y) hcl hi x.toNat
     by_cases hq:ReadyC E g.O L x.toNat
     ·rw[if_pos ⟨hx,hq⟩,if_pos ⟨hx,hrd.mpr ⟨hq,by omega⟩⟩]
     ·rw[if_neg (fun q=>hq q.2),if_neg (fun q=>hq (hrd.mp q.2).1)]
    ·rw[if_neg (fun q=>hx q.1),if_neg (fun q=>hx q.1)]
end
def bkG(m:Nat)(g:Gng)(c i:Nat):Nat:=(c+g.fr c+(m - 1 - i))%m
structure GhOk(m:Nat)(g:Gng)(a:Nat->Nat)(s:Nat->Bool):Prop where
 le: ∀c,c<m->a c<=m
 lt: ∀c,c<m->(g.tk c).at_≠0->s c=false->a c<m
 seen: ∀c,c<m-> ∀i,i<a c-> ¬g.T (bkG m g c i)<g.B (bkG m g c i)
 top: ∀c,c<m->g.fr c≠0->(g.tk c).at_≠0->s c=false->(g.tk c).top=g.T (tgtG m g c)
def phiG(m:Nat)(g:Gng)(a:Nat->Nat)(s:Nat->Bool)(c:Nat):Nat:=
 if g.O.getD c 0≠ -1 then 0 else if(g.tk c).at_=4 then 1 else if s c then 4 * m+4 - (g.tk c).at_.toNat else 4 * (m - a c) - (g.tk c).at_.toNat
def uG(g:Gng)(c:Nat):Nat:=if g.O.getD c 0= -1/\(g.tk c).at_≠4 then 1 else 0
def muG(m:Nat)(g:Gng)(a:Nat->Nat)(s:Nat->Bool):Nat:=sumN (fun c=>uG g c * (m * (4 * m+4))+phiG m g a s c) m
section
variable {n m: Nat} {E: List (Int × Int)} {L: List Int} {g: Gng} {c: Nat} {a: Nat -> Nat} {s: Nat -> Bool}
theorem phiG_le(m:Nat)(g:Gng)(a:Nat->Nat)(s:Nat->Bool)(c:Nat):phiG m g a s c<=4 * m+4:=by
 unfold phiG
 split
 ·omega
 ·split
  ·omega
  ·split<;>omega
theorem phi_idle{m:Nat}{g:Gng}{a:Nat->Nat}{s:Nat->Bool}{c:Nat}(hi:g.O.getD c 0= -1)(h4:(g.tk c).at_≠4):phiG m g a s c=if s c then 4 * m+4 - (g.tk c).at_.toNat else 4 * (m - a c) - (g.tk c).at_.toNat:=by
 unfold phiG;rw[if_neg (fun q=>q hi),if_neg h4]
theorem GhOk.start(h: ∀c,c<m->(g.tk c).at_=0):GhOk m g (fun _=>0) (fun _=>false):=
 ⟨fun _ _=>Nat.zero_le _,fun c hc q=>absurd (h c hc) q,fun c hc i q=>absurd q (Nat.not_lt_zero _),fun c hc _ q=>absurd (h c hc) q⟩
theorem sumN_const(k:Nat): ∀m:Nat,sumN (fun _=>k) m=m * k
  |0=>by show 0=0 * k;omega
  | m + 1 => by
    show sumN (fun _=>k) m+k=(m+1) * k
    rw[sumN_const k m,Nat.succ_mul]
theorem muG_start(h: ∀c,c<m->(g.tk c).at_=0):muG m g (fun _=>0) (fun _=>false)<=m * (m * (4 * m+4)+4 * m):=by
 rw[<-sumN_const];refine sumN_le fun c hc=> ?_
 have h1:uG g c<=1:=by unfold uG;split<;>omega
 have h2:phiG m g (fun _=>0) (fun _=>false) c<=4 * m:=by
  unfold phiG;rw[h c hc]
  split
  ·omega
  ·rw [if_neg (by decide),if_neg (by simp)]
   omega
 have h3:uG g c * (m * (4 * m+4))<=1 * (m * (4 * m+4)):=Nat.mul_le_mul_right _ h1;omega
theorem bk_all(m1:1<=m)(g:Gng)(c:Nat){j:Nat}(hj:j<m): ∃i,i<m/\bkG m g c i=j:=by
 obtain⟨b,hb⟩: ∃b,b=(c+g.fr c)%m:=⟨_,rfl⟩;have hbm:b<m:=by rw[hb];exact Nat.mod_lt _ (by omega)
 have e: ∀i,bkG m g c i=(b+(m - 1 - i))%m:=fun i=>by
  unfold bkG;rw[hb,Nat.mod_add_mod]
 by_cases h:j<b
 ·exact⟨b - 1 - j,by omega,by rw[e,show b+(m - 1 - (b - 1 - j))=j+m by omega,Nat.add_mod_right,Nat.mod_eq_of_lt hj]⟩
 ·exact⟨m - 1 - (j - b),by omega,by rw[e,show b+(m - 1 - (m - 1 - (j - b)))=j by omega,Nat.mod_eq_of_lt hj]⟩
theorem GhOk.room(gh:GhOk m g a s)(m1:1<=m)(hc:c<m){j:Nat}(hj:j<m)(hv:g.T j<g.B j):a c<m:=by
 obtain⟨i,hi,e⟩:=bk_all m1 g c hj;have h1:=gh.le c hc;have h2: ¬i<a c:=fun q=>gh.seen c hc i q (by rw[e];exact hv)
 omega
theorem bk_next(m1:1<=m){f i:Nat}(hf:f<m)(hi:i+1<m)(c:Nat):(c+(f+1)%m+(m - 1 - (i+1)))%m=(c+f+(m - 1 - i))%m:=by
 by_cases h:f+1<m
 ·rw [Nat.mod_eq_of_lt h]
  congr 1
  omega
 ·have e: f + 1 = m:=by omega
  rw[e,Nat.mod_self,show c+f+(m - 1 - i)=(c+0+(m - 1 - (i+1)))+m by omega,Nat.add_mod_right]
theorem bk_first(m1:1<=m){f:Nat}(hf:f<m)(c:Nat):(c+(f+1)%m+(m - 1 - 0))%m=(c+f)%m:=by
 by_cases h:f+1<m
 ·rw[Nat.mod_eq_of_lt h,show c+(f+1)+(m - 1 - 0)=c+f+m by omega,Nat.add_mod_right]
 ·have e: f + 1 = m:=by omega
  rw[e,Nat.mod_self];congr 1;omega
inductive EndG (m:Nat) (g:Gng) (c:Nat):Prop
 |on (e:(resG m g c).2.2.end_=0) (t:(resG m g c).1=g.T (tgtG m g c)) (at1:(g.tk c).at_+1<=(resG m g c).2.2.at_) (at2:(resG m g c).2.2.at_<=3) (at0:0<=(g.tk c).at_) (top:g.fr c≠0->(resG m g c).2.2.top=if(g.tk c).at_=0 then g.T (tgtG m g c)else(g.tk c).top)
 |four (e:(resG m g c).2.2.end_=0) (f:g.fr c=0) (a4:(resG m g c).2.2.at_=4) (a2:(g.tk c).at_=2)
 |none (e:(resG m g c).2.2.end_=2) (t:(resG m g c).1=g.T (tgtG m g c)) (v:(resG m g c).2.1<=g.T (tgtG m g c)) (at1:1<=(g.tk c).at_) (at3:(g.tk c).at_<=3)
 |lost (e:(resG m g c).2.2.end_=3) (f:g.fr c≠0) (t:(resG m g c).1=g.T (tgtG m g c)) (a3:(g.tk c).at_=3) (top:(g.tk c).top≠g.T (tgtG m g c))
 |got (e:(resG m g c).2.2.end_=1) (a4:(g.tk c).at_≠4)
 |last (e:(resG m g c).2.2.end_=1) (t:(resG m g c).1=g.T (tgtG m g c)) (a4:(g.tk c).at_=4)
theorem GOk.ends(h:GOk n m E L g)(hc:c<m):EndG m g c/\((resG m g c).1=g.T (tgtG m g c)->(resG m g c).1<(resG m g c).2.1->g.T (tgtG m g c)<g.B (tgtG m g c)):=by
 have hdq:=h.dq _ (h.tgt c)
 by_cases hf:g.fr c=0
 ·obtain ⟨e1,e2⟩:=h.own hc hf
  have hst:(g.tk c).steal=false:=by
   have:=hdq.own.1;rw[e1,e2]at this;exact this
  have hres:resG m g c=ownerD (g.R (tgtG m g c)) (g.T (tgtG m g c)) (g.B (tgtG m g c)) (g.tk c):=by
   unfold resG moveD;rw[if_neg (by rw[hst];decide)]
  have ho:owG g (tgtG m g c)=g.tk c:=by rw[e1,e2]
  rw[ho]at hdq;obtain⟨q1,q2⟩:=owner_ends hdq;rw[<-hres]at q1 q2;refine⟨?_,fun _=>q1⟩
  rcases q2 with⟨b1,b2,b3,b4,b5⟩|⟨b1,b2,b3⟩|⟨b1,b2,b3,b4⟩|⟨b1,b2,b3⟩
  ·exact .on b1 b2 b3 b4 b5 fun q=>absurd hf q
  ·exact .four b1 hf b2 b3
  ·exact .none b1 b2 b3 (by omega) (by omega)
  ·by_cases h4: (g.tk c).at_ = 4
   ·exact .last b1 b2 h4
   ·exact .got b1 h4
 ·have hth:=h.th c hc hf
  have hres:resG m g c=thiefD (g.R (tgtG m g c)) (g.T (tgtG m g c)) (g.B (tgtG m g c)) (g.tk c):=by
   unfold resG moveD;rw[if_pos hth.1]
  have hB:=(hdq.steal hth).1;rw[<-hres]at hB;have hE:=thief_ends hth;rw[<-hres]at hE;have t3:=hth.2.2.1;refine⟨?_,fun e q=>by rw[e,hB]at q;exact q⟩
  rcases hE with⟨b1,b2,b3,b4,b5⟩|⟨b1,b2,b3,b4⟩|⟨b1,b2,b3,b4⟩|⟨b1,b2⟩
  ·exact .on b1 b2 (by omega) (by omega) t3.1 fun _=>b5
  ·exact .none b1 b2 (by rw[hB];exact b3) (by omega) (by omega)
  ·exact .lost b1 hf b2 b3 b4
  ·exact .got b1 (by omega)
theorem still_T(e:(resG m g c).1=g.T (tgtG m g c))(i:Nat):(stepG m g c).T i=g.T i:=by
 show updG g.T (tgtG m g c) (resG m g c).1 i=g.T i
 by_cases h:i=tgtG m g c
 ·rw[h,updG_at,e]
 ·rw[updG_ne _ _ h]
theorem still_vis(e:(resG m g c).1=g.T (tgtG m g c))(hv:(resG m g c).1=g.T (tgtG m g c)->(resG m g c).1<(resG m g c).2.1->g.T (tgtG m g c)<g.B (tgtG m g c))(i:Nat): ¬g.T i<g.B i-> ¬(stepG m g c).T i<(stepG m g c).B i:=fun q=>by
 rw[still_T e];show¬g.T i<updG g.B (tgtG m g c) (resG m g c).2.1 i
 by_cases h:i=tgtG m g c
 ·subst h
  rw[updG_at];exact fun q2=>q (hv e (by rw[e];exact q2))
 ·rw[updG_ne _ _ h];exact q
theorem step_O_ne{k:Nat}(h:k≠c):(stepG m g c).O.getD k 0=g.O.getD k 0:=by
 show(if(resG m g c).2.2.end_=1 then g.O.set c (resG m g c).2.2.got else g.O).getD k 0=_
 split
 ·rw[getD_set_ne (fun q=>h q.symm)]
 ·rfl
theorem step_tk_ne{k:Nat}(h:k≠c):(stepG m g c).tk k=g.tk k:=updG_ne _ _ h
theorem step_fr_ne{k:Nat}(h:k≠c):(stepG m g c).fr k=g.fr k:=updG_ne _ _ h
theorem step_tk(m:Nat)(g:Gng)(c:Nat):(stepG m g c).tk c=ntG m g c:=updG_at _ _ _
theorem step_fr(m:Nat)(g:Gng)(c:Nat):(stepG m g c).fr c=nfG m g c:=updG_at _ _ _
theorem mu_commit(m1:1<=m)(hc:c<m)(hi:g.O.getD c 0= -1)(h4:(g.tk c).at_≠4)(hn:(stepG m g c).O.getD c 0≠ -1\/((stepG m g c).tk c).at_=4):
  ∃a' s',GhOk m (stepG m g c) a' s'/\muG m (stepG m g c) a' s'+1<=muG m g a s:=by
 refine⟨fun _=>0,fun k=>decide (((stepG m g c).tk k).at_≠0),⟨fun _ _=>Nat.zero_le _,fun k _ q e=>absurd q (of_decide_eq_false e),fun k _ i q=>absurd q (Nat.not_lt_zero _),fun k _ _ q e=>absurd q (of_decide_eq_false e)⟩,?_⟩
 obtain⟨s',hs'⟩: ∃s':Nat->Bool,s'=fun k=>decide (((stepG m g c).tk k).at_≠0):=⟨_,rfl⟩
 rw[<-hs'];obtain⟨W,hW⟩: ∃W,W=m * (4 * m+4):=⟨_,rfl⟩;unfold muG;rw[<-hW,sumN_add,sumN_add];have hu:uG (stepG m g c) c=0:=by
  unfold uG;rcases hn with q|q
  ·exact if_neg fun r=>q r.1
  ·exact if_neg fun r=>r.2 q
 have hu1:uG g c=1:=if_pos ⟨hi,h4⟩;have hun: ∀k,k<m->k≠c->uG (stepG m g c) k * W=uG g k * W:=fun k _ hk=>by
  unfold uG;rw[step_O_ne hk,step_tk_ne hk]
 have h1:=sumN_upd (f:=fun k=>uG g k * W) (f':=fun k=>uG (stepG m g c) k * W) hc hun
 have h2:sumN (phiG m (stepG m g c) (fun _=>0) s') m<=sumN (fun k=>if k=c then 1 else 4 * m+4) m:=sumN_le fun k hk=>by
  by_cases hkc:k=c
  ·subst hkc
   rw[if_pos rfl];unfold phiG;rcases hn with q|q
   ·rw[if_pos q];omega
   ·split
    ·omega
    ·first|omega|(rw[if_pos q];omega)
  ·rw[if_neg hkc];exact phiG_le _ _ _ _ _
 have h3:=sumN_upd (f:=fun _=>4 * m+4) (f':=fun k=>if k=c then 1 else 4 * m+4) hc fun k _ hk=>if_neg hk
 rw[sumN_const,<-hW]at h3;simp only[if_true]at h3;simp only[hu,hu1,Nat.zero_mul,Nat.one_mul]at h1;omega
theorem mu_other(hc:c<m){a':Nat->Nat}{s':Nat->Bool}(ha: ∀k,k≠c->a' k=a k)(hs: ∀k,k≠c->s' k=s k)
  (hu:uG (stepG m g c) c<=uG g c) (hp:phiG m (stepG m g c) a' s' c+1<=phiG m g a s c):muG m (stepG m g c) a' s'+1<=muG m g a s:=by
 unfold muG;have h1:=sumN_upd (f:=fun k=>uG g k * (m * (4 * m+4))+phiG m g a s k) (f':=fun k=>uG (stepG m g c) k * (m * (4 * m+4))+phiG m (stepG m g c) a' s' k) hc fun k _ hk=>by
  unfold uG phiG;rw[step_O_ne hk,step_tk_ne hk,ha k hk,hs k hk]
 have h2:uG (stepG m g c) c * (m * (4 * m+4))<=uG g c * (m * (4 * m+4)):=Nat.mul_le_mul_right _ hu;omega
theorem GOk.less(h:GOk n m E L g)(gh:GhOk m g a s)(hc:c<m)(hi:g.O.getD c 0= -1)(hw:(g.tk c).at_≠0\/ ∃j,j<m/\g.T j<g.B j):
    ∃a' s',GhOk m (stepG m g c) a' s'/\muG m (stepG m g c) a' s'+1<=muG m g a s:=by
  have m1:=h.m1;obtain⟨hE,hV⟩:=h.ends hc;have hfr:=h.fr c hc;have hcl:c<g.O.length:=by rw[h.ol];exact hc
  have idle':(resG m g c).2.2.end_≠1->(stepG m g c).O.getD c 0= -1:=fun he=>by
    show(if(resG m g c).2.2.end_=1 then g.O.set c (resG m g c).2.2.got else g.O).getD c 0= -1
    rw[if_neg he];exact hi
  have busy':(resG m g c).2.2.end_=1->(stepG m g c).O.getD c 0≠ -1:=fun he=>by
    obtain⟨x,e,_,_⟩:=(h.step hc hi).1 he;show(if(resG m g c).2.2.end_=1 then g.O.set c (resG m g c).2.2.got else g.O).getD c 0≠ -1
    rw[if_pos he,getD_set_self hcl,e];omega
  cases hE with
  | on e t at1 at2 at0 top =>
    have ht':(stepG m g c).tk c=(resG m g c).2.2:=(step_tk m g c).trans (if_pos e);have hf':(stepG m g c).fr c=g.fr c:=(step_fr m g c).trans (if_pos e);have hlt:s c=false->a c<m:=fun hs=>by
      rcases hw with q|⟨j,hj,hv⟩
      · exact gh.lt c hc q hs
      · exact gh.room m1 hc hj hv
    refine⟨a,s,⟨gh.le,fun k hk q hs=> ?_,fun k hk i hi2=> ?_,fun k hk q1 q2 hs=> ?_⟩,mu_other hc (fun _ _=>rfl) (fun _ _=>rfl) ?_ ?_⟩
    · by_cases hkc:k=c
      · subst hkc;exact hlt hs
      · rw[step_tk_ne hkc]at q;exact gh.lt k hk q hs
    · have:bkG m (stepG m g c) k i=bkG m g k i:=by
        unfold bkG
        by_cases hkc:k=c
        · subst hkc;rw[hf']
        · rw[step_fr_ne hkc]
      rw[this];exact still_vis t hV _ (gh.seen k hk i hi2)
    · rw[still_T t]
      by_cases hkc:k=c
      · subst hkc;have et:tgtG m (stepG m g k) k=tgtG m g k:=by unfold tgtG;rw[hf']
        rw[hf']at q1;rw[et,ht',top q1]
        split
        · rfl
        · next h0=>exact gh.top k hk q1 h0 hs
      · have et:tgtG m (stepG m g c) k=tgtG m g k:=by unfold tgtG;rw[step_fr_ne hkc]
        rw[step_fr_ne hkc]at q1;rw[step_tk_ne hkc]at q2⊢;rw[et];exact gh.top k hk q1 q2 hs
    · unfold uG
      split<;>split<;>first|omega|(next q1 q2=>exact absurd ⟨hi,by omega⟩ q2)
    · rw[phi_idle (idle' (by rw[e];decide)) (by rw[ht'];omega),phi_idle hi (by omega),ht']
      by_cases hs:s c=true
      · rw[if_pos hs,if_pos hs];omega
      · have hs':s c=false:=by simpa using hs
        have:=hlt hs';rw[if_neg hs,if_neg hs];omega
  | four e f a4 a2 =>
    have ht':(stepG m g c).tk c=(resG m g c).2.2:=(step_tk m g c).trans (if_pos e);exact mu_commit m1 hc hi (by omega) (.inr (by rw[ht'];exact a4))
  |got e a4=>exact mu_commit m1 hc hi a4 (.inl (busy' e))
  | last e t a4 =>
    have hat:((stepG m g c).tk c).at_=0:=by
      rw[step_tk];unfold ntG;rw[if_neg (by rw[e];decide)]
      rfl
    have hf':(stepG m g c).fr c=0:=by rw[step_fr];unfold nfG;rw[if_neg (by rw[e];decide),if_pos e]
    refine⟨updG a c 0,updG s c false,⟨fun k hk=> ?_,fun k hk q hs=> ?_,fun k hk i hi2=> ?_,fun k hk q1 q2 hs=> ?_⟩,mu_other hc (fun k hk=>updG_ne _ _ hk) (fun k hk=>updG_ne _ _ hk) ?_ ?_⟩
    · by_cases hkc:k=c
      · rw[hkc,updG_at];omega
      · rw[updG_ne _ _ hkc];exact gh.le k hk
    · by_cases hkc:k=c
      · rw[hkc]at q;exact absurd hat q
      · rw[updG_ne _ _ hkc]at hs⊢;rw[step_tk_ne hkc]at q;exact gh.lt k hk q hs
    · by_cases hkc:k=c
      · rw[hkc,updG_at]at hi2;omega
      · rw[updG_ne _ _ hkc]at hi2;have:bkG m (stepG m g c) k i=bkG m g k i:=by unfold bkG;rw[step_fr_ne hkc]
        rw[this];exact still_vis t hV _ (gh.seen k hk i hi2)
    · by_cases hkc:k=c
      · rw[hkc]at q1;exact absurd hf' q1
      · have et:tgtG m (stepG m g c) k=tgtG m g k:=by unfold tgtG;rw[step_fr_ne hkc]
        rw[updG_ne _ _ hkc]at hs;rw[step_fr_ne hkc]at q1;rw[step_tk_ne hkc]at q2⊢;rw[et,still_T t];exact gh.top k hk q1 q2 hs
    · unfold uG;rw[if_neg (fun q=>busy' e q.1)]
      omega
    · unfold phiG;rw[if_pos (busy' e),if_neg (fun q=>q hi),if_pos a4]
      omega
  | none e t v at1 at3 =>
    have hat:((stepG m g c).tk c).at_=0:=by
      rw[step_tk];unfold ntG;rw[if_neg (by rw[e];decide)]
      rfl
    have hf':(stepG m g c).fr c=(g.fr c+1)%m:=by rw[step_fr];unfold nfG;rw[if_neg (by rw[e];decide),if_neg (by rw[e];decide)]
    have hlt:s c=false->a c<m:=fun hs=>gh.lt c hc (by omega) hs
    have hnv: ¬(stepG m g c).T (tgtG m g c)<(stepG m g c).B (tgtG m g c):=by
      rw[still_T t];show¬_<updG g.B (tgtG m g c) (resG m g c).2.1 (tgtG m g c)
      rw[updG_at];omega
    refine⟨updG a c (if s c then 0 else a c+1),updG s c false,⟨fun k hk=> ?_,fun k hk q hs=> ?_,fun k hk i hi2=> ?_,fun k hk q1 q2 hs=> ?_⟩,mu_other hc (fun k hk=>updG_ne _ _ hk) (fun k hk=>updG_ne _ _ hk) ?_ ?_⟩
    · by_cases hkc:k=c
      · rw[hkc,updG_at]
        split
        · omega
        · next q=>exact hlt (by simpa using q)
      · rw[updG_ne _ _ hkc];exact gh.le k hk
    · by_cases hkc:k=c
      · rw[hkc]at q;exact absurd hat q
      · rw[updG_ne _ _ hkc]at hs⊢;rw[step_tk_ne hkc]at q;exact gh.lt k hk q hs
    · by_cases hkc:k=c
      · subst hkc;rw[updG_at]at hi2
        split at hi2
        · omega
        · next q=>
          have hm:=hlt (by simpa using q)
          unfold bkG;rw[hf'];cases i with
          |zero=>rw[bk_first m1 hfr];exact hnv
          | succ i =>
            rw[bk_next m1 hfr (by omega)]
            exact still_vis t hV _ (gh.seen k hk i (by omega))
      · rw[updG_ne _ _ hkc]at hi2;have:bkG m (stepG m g c) k i=bkG m g k i:=by unfold bkG;rw[step_fr_ne hkc]
        rw[this];exact still_vis t hV _ (gh.seen k hk i hi2)
    · by_cases hkc:k=c
      · rw[hkc]at q2;exact absurd hat q2
      · have et:tgtG m (stepG m g c) k=tgtG m g k:=by unfold tgtG;rw[step_fr_ne hkc]
        rw[updG_ne _ _ hkc]at hs;rw[step_fr_ne hkc]at q1;rw[step_tk_ne hkc]at q2⊢;rw[et,still_T t];exact gh.top k hk q1 q2 hs
    · unfold uG;rw[if_pos (show g.O.getD c 0= -1/\(g.tk c).at_≠4 from⟨hi,by omega⟩)]
      split<;>omega
    · rw[phi_idle (idle' (by rw[e];decide)) (by rw[hat];decide),phi_idle hi (by omega),hat,updG_at,updG_at,if_neg (by decide)]
      by_cases hs:s c=true
      · rw[if_pos hs,if_pos hs];omega
      · have:=hlt (by simpa using hs)
        rw[if_neg hs,if_neg hs];omega
  | lost e f t a3 top =>
    have hs:s c=true:=by
      cases hs:s c with
      |true=>rfl
      |false=>exact absurd (gh.top c hc f (by omega) hs) top
    have hat:((stepG m g c).tk c).at_=0:=by
      rw[step_tk];unfold ntG;rw[if_neg (by rw[e];decide)]
      rfl
    refine⟨updG a c 0,updG s c false,⟨fun k hk=> ?_,fun k hk q hs=> ?_,fun k hk i hi2=> ?_,fun k hk q1 q2 hs=> ?_⟩,mu_other hc (fun k hk=>updG_ne _ _ hk) (fun k hk=>updG_ne _ _ hk) ?_ ?_⟩
    · by_cases hkc:k=c
      · rw[hkc,updG_at];omega
      · rw[updG_ne _ _ hkc];exact gh.le k hk
    · by_cases hkc:k=c
      · rw[hkc]at q;exact absurd hat q
      · rw[updG_ne _ _ hkc]at hs⊢;rw[step_tk_ne hkc]at q;exact gh.lt k hk q hs
    · by_cases hkc:k=c
      · rw[hkc,updG_at]at hi2;omega
      · rw[updG_ne _ _ hkc]at hi2;have:bkG m (stepG m g c) k i=bkG m g k i:=by unfold bkG;rw[step_fr_ne hkc]
        rw[this];exact still_vis t hV _ (gh.seen k hk i hi2)
    · by_cases hkc:k=c
      · rw[hkc]at q2;exact absurd hat q2
      · have et:tgtG m (stepG m g c) k=tgtG m g k:=by unfold tgtG;rw[step_fr_ne hkc]
        rw[updG_ne _ _ hkc]at hs;rw[step_fr_ne hkc]at q1;rw[step_tk_ne hkc]at q2⊢;rw[et,still_T t];exact gh.top k hk q1 q2 hs
    · unfold uG;rw[if_pos (show g.O.getD c 0= -1/\(g.tk c).at_≠4 from⟨hi,by omega⟩)]
      split<;>omega
    · rw[phi_idle (idle' (by rw[e];decide)) (by rw[hat];decide),phi_idle hi (by omega),hat,updG_at,updG_at,if_neg (by decide),if_pos hs]
      omega
end
end Go.Proofs.YtngdbbligebcbabGreatDoor
