import Derived.Test.YtngdbbligebcbabGreatDoorZM4
import Derived.Test.YtngdbbligebcbabGreatDoorZM12
import Derived.Test.YtngdbbligebcbabGreatDoorZDequeMath
import Derived.Test.YtngdbbligebcbabGreatDoorZM7
import Derived.Test.YtngdbbligebcbabGreatDoorZShelf
import Derived.Test.YtngdbbligebcbabGreatDoorZM6
import Derived.Test.YtngdbbligebcbabGreatDoorZM5
set_option linter.unusedVariables false
namespace Go.Proofs.YtngdbbligebcbabGreatDoor
structure FillOk(n:Nat)(E:List (Int×Int))(O R L:List Int):Prop where
 ok:CrewOk n E R L
 len:R.length=O.length
 keep: ∀j,O.getD j 0≠ -1->R.getD j 0=O.getD j 0
 full:readyU n E R L= []\/(-1)∉R
structure SeqOk(n:Nat)(E:List (Int×Int))(need:List Int)(cores:Nat)(Oc F L:Nat->List Int):Prop where
 o0:Oc 0=List.replicate cores (-1)
 l0:L 0=need
 on: ∀k,Oc (k+1)=onT (F k) (L k)
 lf: ∀k,L (k+1)=leftT (F k) (L k)
 fill: ∀k,FillOk n E (Oc k) (F k) (L k)
def rowsF(F:Nat->List Int)(k:Nat):List (List Int):=(List.range k).map F
def lenS(L:Nat->List Int)(need:List Int):Nat:=((List.range (need.sum.toNat+1)).find? fun k=>decide ((L k).sum<=0)).getD 0
theorem rowsF_len(F:Nat->List Int)(k:Nat):(rowsF F k).length=k:=by simp[rowsF]
theorem rowsF_succ(F:Nat->List Int)(k:Nat):rowsF F (k+1)=rowsF F k++ [F k]:=by unfold rowsF;rw[List.range_succ,List.map_append];rfl
theorem rowsF_take(F:Nat->List Int)(k:Nat):(rowsF F (k+1)).take k=rowsF F k:=by
 rw[rowsF_succ,List.take_append_of_le_length (by rw[rowsF_len];omega),List.take_of_length_le (by rw[rowsF_len];omega)]
theorem rowsF_row(F:Nat->List Int)(k:Nat):rowT (rowsF F (k+1)) k=F k:=by
 unfold rowT;rw[rowsF_succ,List.getD_eq_getElem?_getD,List.getElem?_append_right (by rw[rowsF_len];omega),rowsF_len,Nat.sub_self]
 rfl
section
variable {n: Nat} {E: List (Int × Int)}
theorem FillOk.mem{O R L:List Int}(h:FillOk n E O R L){x:Int}(hx:x≠ -1)(hm:x∈O):x∈R:=by
 obtain⟨j,hj,he⟩:=List.getElem_of_mem hm;have h3:O.getD j 0=x:=by rw[List.getD_eq_getElem?_getD,List.getElem?_eq_getElem hj];exact he
 have h4:=h.keep j (by rw[h3];exact hx)
 have h5:j<R.length:=by rw[h.len];exact hj
 rw[List.getD_eq_getElem?_getD,List.getElem?_eq_getElem h5]at h4
 have h6:R[j]=x:=by rw[<-h3];exact h4
 rw[<-h6];exact List.getElem_mem h5
theorem FillOk.someone{O R L:List Int}(h:FillOk n E O R L)(hF:Fits n E)(hA:Acyc E){m:Nat}(hm:m<n)(hl:0<leftC L (m:Int)): ∃x∈R,x≠ -1:=by
 apply Classical.byContradiction
 intro hno;have hall: ∀x∈R,x= -1:=fun x hx=>Classical.byContradiction fun q=>hno ⟨x,hx,q⟩
 have hlo:=h.ok.lo;have hin:(-1:Int)∈R:=by
  have h0:0<R.length:=by omega
  have h1:=List.getElem_mem h0
  rwa [hall _ h1]at h1
 have hr:readyU n E R L= []:=h.full.resolve_right fun q=>q hin
 obtain⟨v,⟨hv,hvl⟩,hva⟩:=source hF hA (fun x=>x<n/\0<leftC L (x:Int)) m ⟨hm,hl⟩
 have:v∈readyU n E R L:=by
  refine mem_readyU.mpr ⟨hv,hvl,fun hx=>by have:=hall _ hx;omega,fun e he e2 hp=> ?_⟩
  obtain⟨h1,h2,_,_⟩:=hF e he;obtain⟨a,ha⟩: ∃a:Nat,e.1=a:=⟨e.1.toNat,by omega⟩
  have h3:ed E a v:=by
   show((a:Int),(v:Int))∈E
   rw[<-ha,<-e2];exact he
  rw[ha]at hp;exact hva a h3 ⟨by omega,hp⟩
 rw[hr]at this;exact absurd this (by simp)
variable {Oc F L: Nat -> List Int}
structure SeqInv(n:Nat)(E:List (Int×Int))(need:List Int)(cores:Nat)(Oc F L:Nat->List Int)(k:Nat):Prop where
 ok:CrewOk n E (Oc k) (L k)
 len:(Oc k).length=cores
 left: ∀x:Nat,x<n->leftC (L k) (x:Int)=needT need (x:Int) - ranT (rowsF F k) (x:Int) k
 last: ∀c,c<cores-> ∀y,(Oc k).getD c 0=y->y≠ -1->0<k/\numT (rowsF F k) (k - 1) c=y
 began: ∀x:Nat,x<n->0<ranT (rowsF F k) (x:Int) k->0<leftC (L k) (x:Int)->(x:Int)∈(Oc k)
 good:Good E need cores (rowsF F k)
 greedy:GreedyT E need (rowsF F k)
theorem SeqInv.start{need:List Int}{cores:Nat}(S:SeqOk n E need cores Oc F L)(hn: ∀z∈need,1<=z/\z<=1000)(h1:1<=cores)(h8:cores<=8)(hl:need.length=n):SeqInv n E need cores Oc F L 0:=by
 refine⟨by rw[S.o0,S.l0];exact new_ok hn h1 h8 hl,by rw[S.o0];simp,fun x hx=> ?_,fun c hc y hy h=> ?_,fun x hx h=> ?_,⟨fun r hr=>by simp[rowsF]at hr,fun i hi=>by simp[rowsF]at hi⟩,fun i hi=>by simp[rowsF]at hi⟩
 ·rw [ranT_zero]
  rw[S.l0];unfold leftC needT;omega
 ·exfalso
  apply h
  rw[<-hy,S.o0];rw[List.getD_eq_getElem?_getD,List.getElem?_replicate,if_pos hc];rfl
 ·rw[ranT_zero]at h;omega
theorem SeqInv.next{need:List Int}{cores k:Nat}(S:SeqOk n E need cores Oc F L)(hF:Fits n E)(hn: ∀z∈need,1<=z/\z<=1000)(hl:need.length=n)(h:SeqInv n E need cores Oc F L k):SeqInv n E need cores Oc F L (k+1):=by
 obtain⟨ok,len,left,last,began,good,greedy⟩:=h;obtain⟨Ok,hO⟩: ∃z,z=(Oc k):=⟨_,rfl⟩;obtain⟨Lk,hL⟩: ∃z,z=(L k):=⟨_,rfl⟩;obtain⟨t,ht⟩: ∃z,z=rowsF F k:=⟨_,rfl⟩;obtain⟨t',ht'⟩: ∃z,z=rowsF F (k+1):=⟨_,rfl⟩;obtain⟨R,hR⟩: ∃z,z=F k:=⟨_,rfl⟩;have hR2:FillOk n E Ok R Lk:=by rw[hR,hL,hO];exact S.fill k
 have hs1:(Oc (k+1))=onT R Lk:=by rw[hR,hL];exact S.on k
 have hs2:(L (k+1))=leftT R Lk:=by rw[hR,hL];exact S.lf k
 have hk:t.length=k:=by rw[ht];exact rowsF_len F k
 have hk':t'.length=k+1:=by rw[ht'];exact rowsF_len F (k+1)
 have htk:t'.take k=t:=by rw[ht',ht];exact rowsF_take F k
 have hrow:rowT t' k=R:=by rw[ht',hR];exact rowsF_row F k
 have hran: ∀(x:Int) (i:Nat),i<=k->ranT t' x i=ranT t x i:=fun x i hi=>by rw[<-htk,ranT_take t' x k i hi]
 have hrows: ∀i,i<k->rowT t' i=rowT t i:=fun i hi=>by rw[<-htk,rowT_take t' k i hi]
 have hnum: ∀i c,i<k->numT t' i c=numT t i c:=fun i c hi=>by unfold numT;rw[hrows i hi]
 rw[<-hO,<-hL]at ok;rw[<-hO]at len last;rw[<-ht]at last began left good greedy;rw[<-hL]at left;simp only[<-hL,<-hO]at began;have okR:CrewOk n E R Lk:=hR2.ok;have hlen:R.length=cores:=by rw[hR2.len];exact len
 have hstep: ∀x:Int,ranT t' x (k+1)=ranT t x k+R.count x:=fun x=>by rw[ranT_step,hrow,hran x k (Nat.le_refl _)]
 have hcount: ∀x:Nat,(R.count (x:Int):Int)=if(x:Int)∈R then 1 else 0:=fun x=>by
  split
  ·next hm =>
   have h1:=okR.once (x:Int) (by omega)
   have h2:=List.count_pos_iff.mpr hm;omega
  ·next hm=>rw[List.count_eq_zero.mpr hm];rfl
 have hover: ∀x:Int,OverC E Lk x->FreeT E need t' x k:=fun x ho e he e2=>by
  obtain⟨h1,h2,_,_⟩:=hF e he;obtain⟨m,hm⟩: ∃m:Nat,e.1=m:=⟨e.1.toNat,by omega⟩
  have h3:=ho e he e2;rw[hm]at h3⊢;rw[left m (by omega)]at h3
  rw[hran _ k (Nat.le_refl _)];omega
 have hfree: ∀x:Int,FreeT E need t' x k->OverC E Lk x:=fun x ho e he e2 hp=>by
  obtain⟨h1,h2,_,_⟩:=hF e he;obtain⟨m,hm⟩: ∃m:Nat,e.1=m:=⟨e.1.toNat,by omega⟩
  have h3:=ho e he e2;rw[hm]at h3 hp;rw[left m (by omega)]at hp
  rw[hran _ k (Nat.le_refl _)]at h3;omega
 have hgood:Good E need cores t':=by
  refine⟨fun r hr=> ?_,fun i hi c hc=> ?_⟩
  ·rw [ht',rowsF_succ,List.mem_append] at hr
   rcases hr with hr|hr
   ·exact good.rows r (by rw[ht];exact hr)
   ·rw [List.mem_singleton] at hr
    rw[hr,<-hR];exact hlen
  ·rcases Nat.lt_or_ge i k with hik | hik
   ·have h1:=good.one i (by omega) c hc
    rw[<-htk,oneV_take k i c hik]at h1;exact h1
   ·obtain rfl: i = k:=by omega
    have hc':c<R.length:=by omega
    obtain⟨x,hx⟩: ∃x,x=numT t' i c:=⟨_,rfl⟩;have hxR:R.getD c (-1)=x:=by rw[hx];unfold numT;rw[hrow]
    unfold oneV;rw[<-hx]
    by_cases h1:x= -1
    ·rw[if_pos h1]
    have hidx:=getD_idx hc' hxR;have hmem:x∈R:=List.mem_of_getElem? hidx
    obtain⟨⟨h2,h3⟩,h4,h5⟩:=(okR.on x hmem).resolve_left h1;obtain⟨m,rfl⟩: ∃m:Nat,x=m:=⟨x.toNat,by omega⟩
    have hpos:=okR.pos h2 h3;have hlf:=left m (by omega)
    have hr:=hran (m:Int) i (Nat.le_refl _);rw[if_neg h1,if_neg (by omega),if_neg,if_neg (by omega),if_neg,if_neg]
    ·rintro ⟨_,h7⟩
     exact h7 (hover _ h5)
    ·rintro ⟨h6,h7⟩
     rw[hr]at h6;have h8:=began m (by omega) h6 (by omega)
     obtain⟨j,hj,he⟩:=List.getElem_of_mem h8;have h9:Ok.getD j 0=(m:Int):=by rw[List.getD_eq_getElem?_getD,List.getElem?_eq_getElem hj];exact he
     have h11:R.getD j 0=(m:Int):=by rw[hR2.keep j (by omega),h9]
     have h12:=idx_once (okR.once (m:Int) h1) hidx (getD_idx (by omega) h11)
     subst h12;obtain⟨h13,h14⟩:=last c (by omega) _ h9 h1
     exact h7 (by rw[hnum _ _ (by omega)];exact h14)
    ·intro h6
     rw[hrow]at h6;obtain⟨j,hj,he⟩:=List.getElem_of_mem h6;rw[List.length_take]at hj;have h7:R[j]? =some (m:Int):=by
      rw[List.getElem?_eq_getElem (by omega)]
      rw[List.getElem_take]at he;exact congrArg some he
     have:=idx_once (okR.once (m:Int) h1) hidx h7;omega
 refine⟨?_,?_,fun x hx=> ?_,fun c hc y hy h1=> ?_,fun x hx h1 h2=> ?_,by rw[<-ht'];exact hgood,?_⟩
 ·rw[hs1,hs2];exact okR.tick hF
 ·rw[hs1,onT_len];exact hlen
 ·rw [hs2,<- ht',leftT_at (by rw [ok.ln]; exact hx),hstep,left x hx]
  have:=hcount x;omega
 ·rw [hs1,onT_at (by omega)] at hy
  split at hy
  ·exact absurd hy.symm h1
  ·refine ⟨by omega,?_⟩
   rw[<-ht',show k+1 - 1=k by omega]
   unfold numT;rw[hrow,getD_any (by omega:c<R.length) (-1) 0]
   exact hy
 ·rw [<- ht',hstep] at h1
  rw[hs2,leftT_at (by rw[ok.ln];exact hx)]at h2
  rw[hs1]
  by_cases hxR:(x:Int)∈R
  ·rw [if_pos hxR] at h2
   exact(mem_onT (by omega)).mpr ⟨hxR,by omega⟩
  ·rw [if_neg hxR] at h2
   rw[List.count_eq_zero.mpr hxR]at h1;have h3:=began x hx (by omega) (by omega)
   exfalso
   exact hxR (hR2.mem (by omega) h3)
 ·rw [<- ht']
  intro i hi hidle x hx h0 hnx hfr;rcases Nat.lt_or_ge i k with hik|hik
  ·refine greedy i (by omega) ?_ x hx ?_ ?_ ?_
   ·rw[<-hrows i hik];exact hidle
   ·rw[<-hran _ i (by omega)];exact h0
   ·rw[<-hrows i hik];exact hnx
   ·intro e he e2
    have:=hfr e he e2;rw[hran _ i (by omega)]at this
    exact this
  ·obtain rfl: i = k:=by omega
   rw[hrow]at hidle hnx;rw[hran _ i (Nat.le_refl _)]at h0;have hr:readyU n E R Lk= []:=by
    rcases hR2.full with h1|h1
    ·exact h1
    ·exact absurd hidle h1
   have hlx:=left x (by omega)
   have hnd:1<=needT need (x:Int):=needT_pos (fun z hz=>(hn z hz).1) (by omega) (by omega)
   have:x∈readyU n E R Lk:=mem_readyU.mpr ⟨by omega,by omega,hnx,hfree _ hfr⟩
   rw[hr]at this;exact absurd this (by simp)
theorem SeqInv.all{need:List Int}{cores:Nat}(S:SeqOk n E need cores Oc F L)(hF:Fits n E)(hn: ∀z∈need,1<=z/\z<=1000)(h1:1<=cores)(h8:cores<=8)(hl:need.length=n): ∀k,SeqInv n E need cores Oc F L k
 |0=>SeqInv.start S hn h1 h8 hl
 |k+1=>(SeqInv.all S hF hn h1 h8 hl k).next S hF hn hl
theorem SeqInv.less{need:List Int}{cores k:Nat}(S:SeqOk n E need cores Oc F L)(hF:Fits n E)(hA:Acyc E)(h:SeqInv n E need cores Oc F L k)(hp:0<(L k).sum):
  (∃x∈F k,x≠ -1)/\(L (k+1)).sum<(L k).sum:=by
 obtain⟨m,hm,hl⟩:=sum_pos_some hp;obtain⟨x,hx,h1⟩:=(S.fill k).someone hF hA (by rw[h.ok.ln]at hm;exact hm) hl
 exact⟨⟨x,hx,h1⟩,by rw[S.lf];exact(S.fill k).ok.less hF hx h1⟩
theorem lenS_spec{need:List Int}{cores:Nat}(S:SeqOk n E need cores Oc F L)(hF:Fits n E)(hA:Acyc E)(hn: ∀z∈need,1<=z/\z<=1000)(h1:1<=cores)(h8:cores<=8)(hl:need.length=n):
    (L (lenS L need)).sum<=0/\(∀j,j<lenS L need->0<(L j).sum)/\(lenS L need:Int)<=need.sum:=by
  have inv:=SeqInv.all S hF hn h1 h8 hl;have h0:0<=need.sum:=sum_nonneg' fun z hz=>by have:=hn z hz;omega
  have key: ∀k:Nat,(∀j,j<k->0<(L j).sum)->(L k).sum<=need.sum - k:=by
    intro k
    induction k with
    |zero=>intro _;rw[S.l0];omega
    | succ k ih =>
      intro h;have h2:=ih fun j hj=>h j (by omega)
      have h3:=((inv k).less S hF hA (h k (by omega))).2
      omega
  have hex: ∃k,k<=need.sum.toNat/\(L k).sum<=0:=by
    by_cases h2: ∃k,k<=need.sum.toNat/\(L k).sum<=0
    · exact h2
    · have h3:=key need.sum.toNat fun j hj=>Classical.byContradiction fun q=>h2 ⟨j,by omega,by omega⟩
      exact absurd ⟨need.sum.toNat,Nat.le_refl _,by omega⟩ h2
  obtain⟨k,hk,hs⟩:=hex;obtain⟨j,hj,hs2,hmin⟩:=least_nat (p:=fun k=>(L k).sum<=0) k hs
  have he:lenS L need=j:=by
    unfold lenS;rw[find_least (k:=j) (by simpa using hs2) (by omega) (fun i hi=>by have:=hmin i hi;simpa using this)]
    rfl
  rw[he];exact⟨hs2,fun i hi=>by have:=hmin i hi;omega,by omega⟩
end
def gangS(n m:Nat)(E:List (Int×Int))(need:List Int)(P:Nat->List Int):Nat->Gng×List Int
 |0=>(newG n m E need,need)
 |k+1=>(tickG n m E (gangS n m E need P k).2 (calmG m (gangS n m E need P k).1 (P k)),leftT (calmG m (gangS n m E need P k).1 (P k)).O (gangS n m E need P k).2)
def rowG(n m:Nat)(E:List (Int×Int))(need:List Int)(P:Nat->List Int)(k:Nat):List Int:=(calmG m (gangS n m E need P k).1 (P k)).O
def stepsG(n m:Nat)(E:List (Int×Int))(need picks:List Int):Nat->Nat×(Gng×List Int)
  |0=>(0,(newG n m E need,need))
  | k + 1 =>
    ((stepsG n m E need picks k).1 + lenC m (stepsG n m E need picks k).2.1 (picks.drop (stepsG n m E need picks k).1),
      (tickG n m E (stepsG n m E need picks k).2.2 (calmG m (stepsG n m E need picks k).2.1 (picks.drop (stepsG n m E need picks k).1)),
        leftT (calmG m (stepsG n m E need picks k).2.1 (picks.drop (stepsG n m E need picks k).1)).O (stepsG n m E need picks k).2.2))
def picksG(n m:Nat)(E:List (Int×Int))(need picks:List Int)(k:Nat):List Int:=picks.drop (stepsG n m E need picks k).1
section
variable {n m: Nat} {E: List (Int × Int)} {need: List Int} {P: Nat -> List Int}
theorem stepsG_is(picks:List Int): ∀k,(stepsG n m E need picks k).2=gangS n m E need (picksG n m E need picks) k
  |0=>rfl
  | k + 1 => by
    have ih:=stepsG_is picks k;show(tickG n m E (stepsG n m E need picks k).2.2 (calmG m (stepsG n m E need picks k).2.1 (picksG n m E need picks k)),leftT (calmG m (stepsG n m E need picks k).2.1 (picksG n m E need picks k)).O (stepsG n m E need picks k).2.2)=_
    rw[ih];rfl
theorem stepsG_succ(picks:List Int)(k:Nat):(stepsG n m E need picks (k+1)).1=(stepsG n m E need picks k).1+lenC m (gangS n m E need (picksG n m E need picks) k).1 (picksG n m E need picks k):=by
 rw[<-stepsG_is];rfl
theorem gangS_ok(hF:Fits n E)(hn: ∀z∈need,1<=z/\z<=1000)(m1:1<=m)(m8:m<=8)(hl:need.length=n)(n64:n<=64)(P:Nat->List Int): ∀k,GOk n m E (gangS n m E need P k).2 (gangS n m E need P k).1/\ ∀c,c<m->((gangS n m E need P k).1.tk c).at_=0
  |0=>GOk.new hn m1 m8 hl n64
  | k + 1 => by
    obtain⟨h,h0⟩:=gangS_ok hF hn m1 m8 hl n64 P k;obtain⟨hw,_,_,I⟩:=calm_spec (picks:=P k) h h0;obtain⟨q0,_⟩:=quiet_spec I.ok hw;exact GOk.tick I.ok hF q0
theorem tickG_O{L:List Int}{g:Gng}:(tickG n m E L g).O=onT g.O L:=by
  have: ∀k,(tickK n E L g k).1.O=onT g.O L:=fun k=>by
    induction k with
    |zero=>rfl
    | succ k ih =>
      have hp: ∀(l:List Nat) (q:Gng),(pushesG q k l).O=q.O:=fun l=>by
        induction l with
        |nil=>exact fun _=>rfl
        |cons x r ihl=>exact fun q=>ihl _
      exact(hp _ _).trans ih
  exact this m
theorem newG_O:(newG n m E need).O=List.replicate m (-1):=by
 have: ∀(l:List Nat) (q:Gng),(dealG m q l).O=q.O:=fun l=>by
  induction l with
  |nil=>exact fun _=>rfl
  |cons x r ihl=>exact fun q=>ihl _
 exact this _ _
theorem gang_seq(hF:Fits n E)(hn: ∀z∈need,1<=z/\z<=1000)(m1:1<=m)(m8:m<=8)(hl:need.length=n)(n64:n<=64)(P:Nat->List Int):
  SeqOk n E need m (fun k=>(gangS n m E need P k).1.O) (rowG n m E need P) (fun k=>(gangS n m E need P k).2):=by
 refine⟨newG_O,rfl,fun k=>tickG_O,fun k=>rfl,fun k=> ?_⟩
 obtain⟨h,h0⟩:=gangS_ok hF hn m1 m8 hl n64 P k;obtain⟨hw,_,_,I⟩:=calm_spec (picks:=P k) h h0;obtain⟨q0,q1⟩:=quiet_spec I.ok hw;refine⟨I.ok.crew,?_,fun j hj=> ?_,q1⟩
 ·show (calmG m (gangS n m E need P k).1 (P k)).O.length = (gangS n m E need P k).1.O.length
  rw[h.ol];exact I.ok.ol
 ·by_cases hjm: j < m
  ·exact I.keep j hjm hj
  ·show (calmG m (gangS n m E need P k).1 (P k)).O.getD j 0 = (gangS n m E need P k).1.O.getD j 0
   rw[List.getD_eq_getElem?_getD,List.getD_eq_getElem?_getD,List.getElem?_eq_none (by rw[show(calmG m (gangS n m E need P k).1 (P k)).O.length=m from I.ok.ol];omega),List.getElem?_eq_none (by rw[h.ol];omega)]
def lenG(n m:Nat)(E:List (Int×Int))(need picks:List Int):Nat:=lenS (fun k=>(gangS n m E need (picksG n m E need picks) k).2) need
def traceG(n m:Nat)(E:List (Int×Int))(need picks:List Int):List (List Int):=rowsF (rowG n m E need (picksG n m E need picks)) (lenG n m E need picks)
end
def SizeOk(n:Int):Prop:=n=1\/n=2\/n=4\/n=8\/n=16\/n=32\/n=64
instance (n:Int):Decidable (SizeOk n):=by unfold SizeOk;infer_instance
theorem SizeOk.of_pow{k:Nat}(h:k<7):SizeOk ((2^k:Nat):Int):=by
 obtain rfl|rfl|rfl|rfl|rfl|rfl|rfl:k=0\/k=1\/k=2\/k=3\/k=4\/k=5\/k=6:=by omega
 all_goals (unfold SizeOk;decide)
theorem SizeOk.pow{n:Int}(h:SizeOk n): ∃k:Nat,k<7/\n=((2^k:Nat):Int):=by
 rcases h with rfl|rfl|rfl|rfl|rfl|rfl|rfl
 ·exact⟨0,by omega,rfl⟩
 ·exact⟨1,by omega,rfl⟩
 ·exact⟨2,by omega,rfl⟩
 ·exact⟨3,by omega,rfl⟩
 ·exact⟨4,by omega,rfl⟩
 ·exact⟨5,by omega,rfl⟩
 ·exact⟨6,by omega,rfl⟩
theorem SizeOk.bounds{n:Int}(h:SizeOk n):1<=n/\n<=64:=by unfold SizeOk at h;omega
def ChkQ(n T B:Int):Prop:=SizeOk n/\0<=T/\T<=1099511627775/\T - 1<=B/\B<=T+n
instance (n T B:Int):Decidable (ChkQ n T B):=by unfold ChkQ;infer_instance
def chkQE(n T B:Int):Int:=if ChkQ n T B then 0 else 120
def WildT(t:Tkr):Prop:=t.top< -1\/1099511627775<t.top\/t.bot< -1\/1099511627775<t.bot
def OverT(t:Tkr):Prop:=t.end_≠0\/t.at_<0\/(if t.steal=true then 3 else 4)<t.at_\/(t.at_≠0/\WildT t)
instance (t:Tkr):Decidable (WildT t):=by unfold WildT;infer_instance
instance (t:Tkr):Decidable (OverT t):=by unfold OverT;infer_instance
def stepQ(R:List Int)(T B:Int)(t:Tkr):Int×Int×Int×Tkr:=
 if¬ChkQ R.length T B then(120,0,0,newTk false)
 else if OverT t then(122,0,0,newTk false)
 else if¬ChkQ R.length (moveD R T B t).1 (moveD R T B t).2.1 then(120,0,0,newTk false)
 else(0,moveD R T B t)
def StopT(one b:Bool)(t:Tkr):Prop:=b=true/\(one=true\/t.end_≠0)
instance (one b:Bool) (t:Tkr):Decidable (StopT one b t):=by unfold StopT;infer_instance
def goD(R:List Int)(one:Bool):Nat->Bool->Int->Int->Tkr->Int×Int×Int×Tkr
  |0,_,T,B,t=>(0,T,B,t)
  | f + 1, b, T, B, t => if ¬ ChkQ R.length T B then (120, 0, 0, newTk false) else
    if StopT one b t then(0,T,B,t)else if OverT t then(122,0,0,newTk false)else
    goD R one f true (moveD R T B t).1 (moveD R T B t).2.1 (moveD R T B t).2.2
def muT(t:Tkr):Nat:=if t.end_≠0 then 0 else(5 - t.at_).toNat+1
def Enough(one b:Bool)(t:Tkr)(f:Nat):Prop:=1<=f/\((one=true/\(b=false->2<=f))\/(one=false/\muT t+1<=f))
theorem mu_move{R:List Int}{T B:Int}{t:Tkr}(h: ¬OverT t):muT (moveD R T B t).2.2+1<=muT t:=by
 obtain⟨st,a,top,bot,gt,en⟩:=t;unfold OverT at h;simp only[not_or]at h;obtain⟨h1,h2,h3,h4⟩:=h;have he:en=0:=Classical.byContradiction h1;subst he;have hm:muT ⟨st,a,top,bot,gt,0⟩=(5 - a).toNat+1:=rfl;rw[hm];unfold moveD;cases st
 ·simp only [Bool.false_eq_true,if_false] at h3 ⊢
  unfold ownerD;simp only
  by_cases a0:a=0
  ·rw[if_pos a0];show(5 - 1:Int).toNat+1+1<=_;omega
  rw[if_neg a0]
  by_cases a1:a=1
  ·rw [if_pos a1]
   split
   ·show 0+1<=_;omega
   ·split
    ·show(5 - 2:Int).toNat+1+1<=_;omega
    ·show(5 - 3:Int).toNat+1+1<=_;omega
  rw[if_neg a1]
  by_cases a2:a=2
  ·rw [if_pos a2]
   split
   ·show(5 - 4:Int).toNat+1+1<=_;omega
   ·show(5 - 3:Int).toNat+1+1<=_;omega
  rw[if_neg a2]
  by_cases a3:a=3
  ·rw[if_pos a3];show 0+1<=_;omega
  ·rw[if_neg a3];show 0+1<=_;omega
 ·simp only [if_true] at h3 ⊢
  unfold thiefD;simp only
  by_cases a0:a=0
  ·rw[if_pos a0];show(5 - 1:Int).toNat+1+1<=_;omega
  rw[if_neg a0]
  by_cases a1:a=1
  ·rw [if_pos a1]
   split
   ·show 0+1<=_;omega
   ·show(5 - 2:Int).toNat+1+1<=_;omega
  rw[if_neg a1]
  by_cases a2:a=2
  ·rw[if_pos a2];show(5 - 3:Int).toNat+1+1<=_;omega
  rw[if_neg a2]
  split
  ·show 0+1<=_;omega
  ·show 0+1<=_;omega
theorem Enough.next{R:List Int}{T B:Int}{one b:Bool}{t:Tkr}{f:Nat}(h:Enough one b t (f+1))(h1: ¬StopT one b t)(h2: ¬OverT t):Enough one true (moveD R T B t).2.2 f:=by
 obtain⟨h3,h4⟩:=h;rcases h4 with⟨rfl,h5⟩|⟨rfl,h5⟩
 ·have hb: b = false:=by
   cases b
   ·rfl
   ·exact absurd ⟨rfl,.inl rfl⟩ h1
  have:=h5 hb;exact⟨by omega,.inl ⟨rfl,fun q=>by cases q⟩⟩
 ·have:=mu_move (R:=R) (T:=T) (B:=B) h2
  exact⟨by omega,.inr ⟨rfl,by omega⟩⟩
theorem go_step(R:List Int)(T B:Int)(t:Tkr):goD R true 2 false T B t=stepQ R T B t:=by
 unfold goD stepQ
 by_cases h1:ChkQ R.length T B
 ·have e1: ¬ ¬ ChkQ R.length T B:=fun q => q h1
  have e0: ¬StopT true false t:=fun q=>by cases q.1
  rw[if_neg e1,if_neg e0,if_neg e1]
  by_cases h2:OverT t
  ·rw[if_pos h2,if_pos h2]
  ·rw [if_neg h2,if_neg h2]
   unfold goD
   by_cases h3:ChkQ R.length (moveD R T B t).1 (moveD R T B t).2.1
   ·have e3: ¬ ¬ ChkQ R.length (moveD R T B t).1 (moveD R T B t).2.1:=fun q => q h3
    have e4:StopT true true (moveD R T B t).2.2:=⟨rfl,.inl rfl⟩;rw[if_neg e3,if_neg e3,if_pos e4]
   ·rw[if_pos h3,if_pos h3]
 ·rw[if_pos h1,if_pos h1]
def pushE(n T B:Int):Int:=if¬ChkQ n T B then 120 else if B<T\/B=T+n then 121 else 0
theorem nums_filter(p:Int->Bool)(l:List Nat):(nums l).filter p=nums (l.filter fun y=>p (y:Int)):=by
 unfold nums;rw[List.filter_map];rfl
theorem mem_nums_nat{l:List Nat}{y:Nat}:(y:Int)∈nums l↔y∈l:=by
 unfold nums;rw[List.mem_map];exact⟨fun⟨z,hz,e⟩=>(Int.ofNat.inj e)▸hz,fun h=>⟨y,h,rfl⟩⟩
theorem succsL_nums(n:Nat)(E:List (Int×Int))(x:Int):succsL n E x=nums (succU n E x):=by
 unfold succsL succU nums;rw[List.filter_map];rfl
def rdyK(n:Nat)(E:List (Int×Int))(O L:List Int)(D:List Nat):List Nat:=(readyU n E (onT O L) (leftT O L)).filter fun y=>decide (y∉D)
section
variable {n m: Nat} {E: List (Int × Int)} {O L: List Int} {D: List Nat} {k: Nat} {g: Gng}
theorem mine_yes(h:O.getD k 0≠ -1/\leftC L (O.getD k 0)=1):(succsL n E (O.getD k 0)).filter (fun z=> !(!decide (z∈nums (rdyK n E O L D))))=nums (mineG n E O L D k):=by
 rw[succsL_nums,nums_filter];unfold mineG;rw[if_pos h];congr 1;refine List.filter_congr fun y _=> ?_
 rw[Bool.not_not];exact decide_eq_decide.mpr (by
  rw[mem_nums_nat];unfold rdyK;rw[List.mem_filter,decide_eq_true_iff])
theorem mine_no(h: ¬(O.getD k 0≠ -1/\leftC L (O.getD k 0)=1)):mineG n E O L D k= []:=if_neg h
theorem rdy_next:(nums (rdyK n E O L D)).filter (fun z=> !decide (z∈nums (mineG n E O L D k)))=nums (rdyK n E O L (D++mineG n E O L D k)):=by
 rw[nums_filter];congr 1;unfold rdyK;rw[List.filter_filter];refine List.filter_congr fun y _=> ?_
 rw[Bool.eq_iff_iff,Bool.and_eq_true,Bool.not_eq_true',decide_eq_false_iff_not,decide_eq_true_iff,decide_eq_true_iff,mem_nums_nat,List.mem_append];exact⟨fun⟨a,b⟩ q=>q.elim b a,fun q=>⟨fun a=>q (.inr a),fun a=>q (.inl a)⟩⟩
theorem rdy_zero:rdyK n E O L []=readyU n E (onT O L) (leftT O L):=by
 unfold rdyK;exact List.filter_eq_self.mpr fun y _=>by simp
theorem rdy_len(h:n<=64):(nums (rdyK n E O L D)).length<=64:=by
 unfold nums rdyK readyU;rw[List.length_map];refine Nat.le_trans (List.length_filter_le _ _) (Nat.le_trans (List.length_filter_le _ _) ?_)
 rw[List.length_range];exact h
theorem mine_len(h:n<=64):(nums (mineG n E O L D k)).length<=64:=by
 unfold nums;rw[List.length_map];unfold mineG
 split
 ·refine Nat.le_trans (List.length_filter_le _ _) ?_
  unfold succU;refine Nat.le_trans (List.length_filter_le _ _) ?_
  rw[List.length_range];exact h
 ·exact Nat.zero_le _
theorem succs_len(h:n<=64)(x:Int):(succsL n E x).length<=64:=by
 rw[succsL_nums];unfold nums succU;rw[List.length_map];refine Nat.le_trans (List.length_filter_le _ _) ?_
 rw[List.length_range];exact h
theorem pushesG_snoc(i:Nat): ∀(l:List Nat) (g:Gng) (x:Nat),pushesG g i (l++ [x])=pushG (pushesG g i l) i (x:Int)
 | [],g,x=>rfl
 |y::r,g,x=>pushesG_snoc i r _ x
theorem pushesG_take(g:Gng)(i:Nat)(l:List Nat){k x:Nat}(h:l[k]? =some x):pushesG g i (l.take (k+1))=pushG (pushesG g i (l.take k)) i (x:Int):=by
 rw[List.take_add_one,h];exact pushesG_snoc i _ g x
theorem tick_room(h:GOk n m E L g)(hF:Fits n E)(h0: ∀c,c<m->(g.tk c).at_=0){k:Nat}(hk:k<m){i x:Nat}(hx:(mineG n E g.O L (tickK n E L g k).2 k)[i]? =some x):
  ((pushesG (tickK n E L g k).1 k ((mineG n E g.O L (tickK n E L g k).2 k).take i)).R k).length=64/\
  pushE 64 ((pushesG (tickK n E L g k).1 k ((mineG n E g.O L (tickK n E L g k).2 k).take i)).T k) ((pushesG (tickK n E L g k).1 k ((mineG n E g.O L (tickK n E L g k).2 k).take i)).B k)=0:=by
 obtain⟨l,hl⟩: ∃l,l=mineG n E g.O L (tickK n E L g k).2 k:=⟨_,rfl⟩;rw[<-hl]at hx⊢;have hil:i<l.length:=(List.getElem?_eq_some_iff.1 hx).1
 have hxe:l[i]=x:=(List.getElem?_eq_some_iff.1 hx).2
 have hnd:l.Nodup:=by
  rw[hl];unfold mineG
  split
  ·exact(List.nodup_range.filter _).filter _
  ·exact List.nodup_nil
 have hin: ∀y∈l,y<n/\ReadyC E (onT g.O L) (leftT g.O L) y/\ ¬OverC E L (y:Int)/\y∉(tickK n E L g k).2:=fun y hy=>by
  rw[hl]at hy;obtain⟨a,b,d,e⟩:=mem_mine.mp hy;exact⟨b.1,d,fun q=>q _ b.2 rfl (by rw[a.2];decide),e⟩
 have hxl:x∈l:=hxe▸List.getElem_mem hil;have I:=TkInv.pushes (i:=k) hk h.n64 (tick_upto h hF h0 k (by omega)) (fun j hj=>(h.dq j hj).top) (hnd.sublist (List.take_sublist i l)) (fun y hy=>hin y (List.mem_of_mem_take hy))
 have hno:x∉(tickK n E L g k).2++l.take i:=fun q=>by
  rw[List.mem_append]at q;rcases q with q|q
  ·exact(hin x hxl).2.2.2 q
  ·obtain ⟨j,hj,he⟩:=List.getElem_of_mem q
   rw[List.length_take]at hj;rw[List.getElem_take]at he;have h2:=List.pairwise_iff_getElem.mp hnd j i (by omega) hil (by omega)
   exact h2 (by rw[he,hxe])
 have hr:=I.room h.n64 (hin x hxl).1 (hin x hxl).2.2.1 hno hk;have hT:0<=(pushesG (tickK n E L g k).1 k (l.take i)).T k:=by rw[I.same.1];exact(h.dq k hk).top
 have hlo:=I.lo k hk;refine⟨I.rl k hk,?_⟩
 unfold pushE ChkQ;rw[if_neg (fun q=>q ⟨by decide,by omega,by omega,by omega,by omega⟩),if_neg (by omega)]
theorem done_iff(hc:CrewOk n E O L)(hk:k<O.length):O.getD k 0∈nums (doneT O L)↔O.getD k 0≠ -1/\leftC L (O.getD k 0)=1:=by
 have hm:O.getD k 0∈O:=by
  rw[List.getD_eq_getElem?_getD,List.getElem?_eq_getElem hk]
  exact List.getElem_mem hk
 obtain⟨x,hx⟩: ∃x,x=O.getD k 0:=⟨_,rfl⟩;rw[<-hx]at hm⊢;constructor
 ·intro h
  unfold nums at h;obtain⟨y,hy,e⟩:=List.mem_map.mp h;have e2:x=(y:Int):=e.symm;subst e2;exact⟨by omega,(mem_doneT.mp hy).2.2⟩
 ·rintro ⟨h1,h2⟩
  have h3:=(hc.on x hm).resolve_left h1;obtain⟨y,rfl⟩: ∃y:Nat,x=y:=⟨x.toNat,by omega⟩
  rw[mem_nums_nat,mem_doneT];exact⟨by rw[hc.ln];omega,hm,h2⟩
theorem done_len:(nums (doneT O L)).length<=L.length:=by
 unfold nums doneT;rw[List.length_map];refine Nat.le_trans (List.length_filter_le _ _) ?_
 rw[List.length_range];exact Nat.le_refl _
end
end Go.Proofs.YtngdbbligebcbabGreatDoor
namespace Go.Proofs.YtngdbbligebcbabGreatDoor
open Go Go.RowKit
theorem heap_putRow{w:World}{g:Nat}{cur:Array Value}{e:TypeId}{fr:Nat×Nat}(h:w.heap[g]? =some (.cells cur e fr))(d:Array Int):(Sort.putRow (Value.int .i64) w g 0 d).heap[g]? =some (.cells (Sort.putCells (Value.int .i64) 0 d cur) e fr):=by
 unfold Sort.putRow Sort.mapBlock;simp[Array.getElem?_modify,h,Sort.onCells]
theorem heap_putRow_other(w:World){g k:Nat}(hk:k≠g)(d:Array Int):(Sort.putRow (Value.int .i64) w g 0 d).heap[k]? =w.heap[k]?:=by
 unfold Sort.putRow Sort.mapBlock;simp only[Array.getElem?_modify]
 rw[if_neg (fun e=>hk e.symm)]
theorem take_putCells{cur:Array Value}{zs:List Int}(h:zs.length<=cur.size):(Sort.putCells (Value.int .i64) 0 zs.toArray cur).toList.take zs.length=zs.map (Value.int .i64):=by
 apply List.ext_getElem?
 intro i;rw[List.getElem?_take,List.getElem?_map]
 by_cases hi:i<zs.length
 ·rw [if_pos hi]
  unfold Sort.putCells;rw[Array.getElem?_toList,Array.getElem?_mapIdx,Array.getElem?_eq_getElem (by omega),List.getElem?_eq_getElem hi]
  simp[hi]
 ·rw[if_neg hi,List.getElem?_eq_none (by omega)];rfl
theorem sortOwn_any(w:World)(B:Nat)(A:Option Addr)(n c:Nat)(zs:List Int)(hn:zs.length=n)(hl:n<=1000)(h:OwnI w B (.slice A n c) zs)(hB:B<=w.heap.size):
  Calls Tryz.prog 129 #[.slice A n c] w fun e w'=>e= .returned (.tuple #[])/\OwnI w' B (.slice A n c) (zs.mergeSort fun x y=>decide (x<=y))/\Below B w w':=by
 rcases Nat.eq_zero_or_pos n with h0|h0
 ·subst h0
  obtain rfl:zs= []:=List.eq_nil_of_length_eq_zero hn;refine(Tryz.slices_Sort_int_none A c w).mono ?_
  rintro e w' ⟨rfl,rfl⟩;exact⟨rfl,by simpa using h,Below.refl _ _⟩
 ·rcases h.2 with ⟨e,_⟩ | ⟨g,cap,cur,e,hg,hgg,hnc,hcm,hcs,ht⟩
  ·injection e with _ e2 _;omega
  ·injection e with e1 e2 e3
   subst e1 e3;subst hn;have hH:Sort.Holds (Value.int .i64) w g 0 zs.toArray:=fun j hj=>by
    have hj':j<zs.length:=by simpa using hj
    refine⟨?_,frozen_of_row w g _ _ _ hgg⟩
    have hc:=OwnI.ints h;obtain⟨b,off,eb,hb,hcell⟩:=hc (by omega)
    injection eb with eb;injection eb with eb1 eb2;subst eb1 eb2;rw[hcell j hj',List.getD_eq_getElem?_getD,List.getElem?_eq_getElem hj']
    simp[hj']
   have hlt:g<w.heap.size:=(Array.getElem?_eq_some_iff.1 hgg).1
   refine(Tryz.slices_Sort_int g 0 c zs w hH hlt (by omega)).mono ?_
   rintro e w' ⟨rfl,N,os,rfl⟩;have hlen:(zs.mergeSort fun x y=>decide (x<=y)).length=zs.length:=List.length_mergeSort zs
   have hgA:(Sort.ahead w N).heap[g]? =some (.cells cur 3 (0,0)):=hgg
   refine⟨rfl,?_,?_⟩
   ·refine ⟨by rw [List.length_map,Nat.mul_one],.inr ⟨g,c,Sort.putCells (Value.int .i64) 0 (zs.mergeSort fun x y => decide (x <= y)).toArray cur,by rw [hlen],hg,?_,by rw [hlen]; exact hnc,hcm,by simp [Sort.putCells]; simpa using hcs,?_⟩⟩
    ·rw [Sort.heap_grow_old _ _ (by rw [Sort.size_putRow]; exact hlt)]
     exact heap_putRow hgA _
    ·rw [Nat.mul_one]
     exact take_putCells (by rw[hlen];omega)
   ·refine ⟨rfl,rfl,rfl,by simp [Sort.size_grow,Sort.size_putRow],fun k hk => ?_⟩
    rw[Sort.heap_grow_old _ _ (by rw[Sort.size_putRow];show k<w.heap.size;omega)]
    exact heap_putRow_other (Sort.ahead w N) (by omega) _
end Go.Proofs.YtngdbbligebcbabGreatDoor
