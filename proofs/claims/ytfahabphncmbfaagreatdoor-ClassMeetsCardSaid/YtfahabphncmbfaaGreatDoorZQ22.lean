import Derived.Test.YtfahabphncmbfaaGreatDoorZQ21
import Derived.Laws.Rows
set_option linter.all false
set_option maxHeartbeats 2000000
namespace Go.Proofs.YtfahabphncmbfaaGreatDoor
open _root_.Array renaming getElem?_eq_getElem→ZS,getElem?_eq_some_iff→Zk,replicate→Yt,size_setIfInBounds→ZQ
open Classical renaming byContradiction→Zn
open List renaming count_eq_zero→Yi,count_pos_iff→Yz,getD_eq_getElem?_getD→Zi,getElem?_eq_getElem→Zh,getElem?_eq_none→Zt,getElem_of_mem→ZA,getElem_take→Y4,length_take→ZP,map_append→Yk,map_cons→ZM,map_nil→Yd,mem_cons_of_mem→Z1,mem_cons_self→Z3,mem_iff_getElem?→YB,mem_of_getElem?→ZC,range→Zo,replicate→Zj,sum_append→YK,sum_cons→ZY,take_append_drop→Yy
open Nat renaming le_refl→Zm,le_trans→ZK,lt_or_ge→Zv,lt_trans→YI
open Go.Oper renaming upon_value→ZN,wp→Z0
open Go.World renaming cell?_alloc_at→Zp
open Go renaming cell_of_row→Yaf,execOp→Yae,frozen_of_row→Yaj,heap_setCell_other→Yah,heap_setCell_same→Yai
def ZaN(n:Nat)(E:List (Int×Int))(O L:List Int):Nat->List Int×List Int
 |0=>(O,L)
 |k+1=>(onT (ZcJ n E (ZaN n E O L k).2 (ZaN n E O L k).1) (ZaN n E O L k).2,ZaC (ZcJ n E (ZaN n E O L k).2 (ZaN n E O L k).1) (ZaN n E O L k).2)
def rowK(n:Nat)(E:List (Int×Int))(O L:List Int)(k:Nat):List Int:=ZcJ n E (ZaN n E O L k).2 (ZaN n E O L k).1
def runR(n:Nat)(E:List (Int×Int))(O L:List Int)(k:Nat):List (List Int):=(Zo k).map (rowK n E O L)
def lenR(n:Nat)(E:List (Int×Int))(O L:List Int):Nat:=((Zo (L.sum.toNat+1)).find? fun k=>decide ((ZaN n E O L k).2.sum<=0)).getD 0
section
variable {n: Nat}{E: List (Int × Int)}{O L: List Int}
theorem Zbw(k:Nat):(runR n E O L k).length=k:=by simp[runR]
theorem Zel(k:Nat):runR n E O L (k+1)=runR n E O L k++ [rowK n E O L k]:=by unfold runR;rw[List.range_succ,Yk];rfl
theorem ZnJ(k:Nat):(runR n E O L (k+1)).take k=runR n E O L k:=by rw[Zel,List.take_append_of_le_length (by rw[Zbw];exact Zm _),List.take_of_length_le (by rw[Zbw];exact Zm _)]
theorem Zlb(k:Nat):rowT (runR n E O L (k+1)) k=rowK n E O L k:=by rw[Zel];refine Zdp ?_;rw[List.getElem?_append_right (by rw[Zbw];exact Zm _),Zbw,Nat.sub_self];rfl
theorem ZdF{l:List Int}{x:Int}(h:l.count x<=1){c j:Nat}(hc:l[c]?=some x)(hj:l[j]?=some x):c=j:=by
 have part:∀a b:Nat,a<b->l[a]?=some x->l[b]?=some x->False:=by
  intro a b hab ha hb;have h1:l=l.take b++l.drop b:=(Yy b l).symm;have h2:x∈l.take b:=by rw[YB];exact⟨a,by rw[List.getElem?_take,Zc hab];exact ha⟩
  have h3:x∈l.drop b:=by rw[YB];exact⟨0,by rw[List.getElem?_drop];exact hb⟩
  have h4:=Yz.mpr h2;have h5:=Yz.mpr h3;have h6:l.count x=(l.take b).count x+(l.drop b).count x:=by rw[<-List.count_append,Yy]
  omega
 rcases Nat.lt_trichotomy c j with h1|h1|h1
 ·exact(part c j h1 hc hj).elim
 ·exact h1
 ·exact(part j c h1 hj hc).elim
theorem Zem{l:List Int}{c:Nat}{x d:Int}(hc:c<l.length)(h:l.getD c d=x):l[c]?=some x:=by rw[Zi,Zh hc]at h;rw[Zh hc];exact congrArg some h
theorem Zlc{l:List Int}{c:Nat}(hc:c<l.length)(d d':Int):l.getD c d=l.getD c d':=by rw[Zi,Zi,Zh hc];rfl
theorem CrewOk.someone(h:CrewOk n E O L)(hF:Fits n E)(hA:Acyc E){m:Nat}(hm:m<n)(hl:0<Zaj L (m:Int)):∃x∈ZcJ n E L O,x≠ -1:=by
 apply Zn;intro hno;have hall:∀x∈ZcJ n E L O,x= -1:=fun x hx=>Zn fun q=>hno ⟨x,hx,q⟩;have hlen:=Zf9 n E L O;have hlo:=h.lo;have hin:(-1:Int)∈ZcJ n E L O:=by
  have h0:0<(ZcJ n E L O).length:=by omega
  have h1:=List.getElem_mem h0
  rwa [hall _ h1]at h1
 have hr:Zaw n E (ZcJ n E L O) L= []:=by
  rcases Zhf (n:=n) (E:=E) (L:=L) (O:=O)with h1|h1
  ·exact h1
  ·exact absurd hin h1
 obtain⟨v,⟨hv,hvl⟩,hva⟩:=Znv hF hA (fun x=>x<n/\0<Zaj L (x:Int)) m ⟨hm,hl⟩;have:v∈Zaw n E (ZcJ n E L O) L:=by
  refine mem_readyU.mpr ⟨hv,hvl,fun hx=>by have:=hall _ hx;omega,fun e he e2 hp=> ?_⟩;obtain⟨h1,h2,_,_⟩:=hF e he;obtain⟨a,ha⟩:∃a:Nat,e.1=a:=⟨e.1.toNat,by omega⟩;have h3:ed E a v:=by show((a:Int),(v:Int))∈E;rw[<-ha,<-e2];exact he
  rw[ha]at hp;exact hva a h3 ⟨by omega,hp⟩
 rw[hr]at this;exact absurd this (by simp)
theorem Zfn{f g:Nat->Int}:∀k,(∀x,x<k->g x<=f x)->((Zo k).map g).sum<=((Zo k).map f).sum
  |0,_=>Int.le_refl _
  | k + 1, h => by
    have ih:=Zfn k fun x hx=>h x (by omega);have h1:=h k (by omega);rw[List.range_succ,Yk,Yk,YK,YK];simp only[ZM,Yd,ZY,List.sum_nil];omega
theorem Zfo{f g:Nat->Int}:∀k,(∀x,x<k->g x<=f x)->(∃x,x<k/\g x<f x)->((Zo k).map g).sum<((Zo k).map f).sum
  |0,_,h=>by obtain⟨x,hx,_⟩:=h;omega
  | k + 1, h, hx => by
    have h1:=h k (by omega);have ih:=Zfn k fun x hx=>h x (by omega);obtain⟨x,hxk,hlt⟩:=hx;rw[List.range_succ,Yk,Yk,YK,YK];simp only[ZM,Yd,ZY,List.sum_nil];rcases Zv x k with h2|h2
    · have:=Zfo k (fun x hx=>h x (by omega)) ⟨x,h2,hlt⟩;omega
    · obtain rfl:x=k:=by omega
      omega
theorem Zl5(L:List Int):L=(Zo L.length).map fun(x:Nat)=>Zaj L (x:Int):=by
 refine List.ext_getElem? fun i=> ?_;rw[List.getElem?_map];rcases Zv i L.length with h|h
 ·rw [List.getElem?_range h,Zh h]
  show _=some (Zaj L (i:Int));rw[Za6,Zi,Zh h];rfl
 ·rw[Zt h,Zt (by simpa using h)];rfl
theorem CrewOk.less(h:CrewOk n E O L)(hF:Fits n E){x:Int}(hx:x∈O)(h1:x≠ -1):(ZaC O L).sum<L.sum:=by
 have e:L.sum=((Zo L.length).map fun(x:Nat)=>Zaj L (x:Int)).sum:=by rw[<-Zl5 L]
 rw[e];show((Zo L.length).map fun(x:Nat)=>Zaj L (x:Int) - if(x:Int)∈O then 1 else 0).sum<_;refine Zfo _ (fun y _=> ?_) ?_
 ·show Zaj L (y: Int) - (if (y: Int) ∈ O then 1 else 0) <= Zaj L (y: Int)
  split<;>omega
 ·rcases h.on x hx with h2 | ⟨⟨h2,h3⟩,_⟩
  ·exact absurd h2 h1
  ·obtain ⟨m,rfl⟩:∃ m: Nat,x = m:=⟨x.toNat,by omega⟩
   refine⟨m,by have:=h.ln;omega,?_⟩;show Zaj L (m:Int) - (if(m:Int)∈O then 1 else 0)<Zaj L (m:Int);rw[Zc hx];omega
theorem Zdm:∀{l:List Int},0<l.sum->∃m,m<l.length/\0<Zaj l (m:Int)
  | [],h=>by simp at h
  | a :: l, h => by
    rw[ZY]at h;by_cases ha:0<a
    · exact⟨0,by simp,by rw[Za6];exact ha⟩
    · obtain⟨m,h1,h2⟩:=Zdm (l:=l) (by omega);refine⟨m+1,by simpa using h1,?_⟩;rw[Za6]at h2⊢;simpa using h2
theorem Zbz:∀{l:List Int},(∀z∈l,0<=z)->0<=l.sum
  | [],_=>by simp
  | a :: l, h => by
    have:=Zbz (l:=l) fun z hz=>h z (Z1 _ hz);have:=h a Z3;rw[ZY];omega
theorem Zdn:∀{l:List Int},(∀z∈l,0<=z)->l.sum<=0->∀z∈l,z=0
  | [],_,_,z,hz=>by simp at hz
  | a :: l, h, hs, z, hz => by
    have h1:=Zbz (l:=l) fun z hz=>h z (Z1 _ hz);have h2:=h a Z3;rw[ZY]at hs;rcases List.mem_cons.mp hz with rfl|hz
    · omega
    · exact Zdn (fun z hz=>h z (Z1 _ hz)) (by omega) z hz
structure RunInv(n:Nat)(E:List (Int×Int))(need:List Int)(cores k:Nat):Prop where
 ok:CrewOk n E (ZaN n E (Zj cores (-1)) need k).1 (ZaN n E (Zj cores (-1)) need k).2
 len:(ZaN n E (Zj cores (-1)) need k).1.length=cores
 left:∀x:Nat,x<n->Zaj (ZaN n E (Zj cores (-1)) need k).2 (x:Int)=ZaJ need (x:Int) - ranT (runR n E (Zj cores (-1)) need k) (x:Int) k
 last:∀c,c<cores->∀y,(ZaN n E (Zj cores (-1)) need k).1.getD c 0=y->y≠ -1->0<k/\numT (runR n E (Zj cores (-1)) need k) (k - 1) c=y
 began:∀x:Nat,x<n->0<ranT (runR n E (Zj cores (-1)) need k) (x:Int) k->0<Zaj (ZaN n E (Zj cores (-1)) need k).2 (x:Int)->(x:Int)∈(ZaN n E (Zj cores (-1)) need k).1
 good:Good E need cores (runR n E (Zj cores (-1)) need k)
 greedy:GreedyT E need (runR n E (Zj cores (-1)) need k)
theorem Zld{need:List Int}{cores:Nat}(hn:∀z∈need,1<=z/\z<=1000)(h1:1<=cores)(h8:cores<=8)(hl:need.length=n):CrewOk n E (Zj cores (-1)) need:=by
 refine⟨by simpa using h1,by simpa using h8,hl,fun z hz=>by have:=hn z hz;omega,fun x hx h0=> ?_,fun x hx=> .inl (List.eq_of_mem_replicate hx),fun x hx=> ?_⟩
 ·have:=hn _ (Zck (L:=need) (x:=x) (by omega))
  omega
 ·rw [Yi.mpr fun h => hx (List.eq_of_mem_replicate h)]
  omega
theorem RunInv.start{need:List Int}{cores:Nat}(hn:∀z∈need,1<=z/\z<=1000)(h1:1<=cores)(h8:cores<=8)(hl:need.length=n):RunInv n E need cores 0:=by
 refine⟨Zld hn h1 h8 hl,by simp[ZaN],fun x hx=> ?_,fun c hc y hy h=> ?_,fun x hx h=> ?_,⟨fun r hr=>by simp[runR]at hr,fun i hi=>by simp[runR]at hi⟩,fun i hi=>by simp[runR]at hi⟩
 ·rw [Zbt]
  show Zaj need (x:Int)=ZaJ need (x:Int) - ((0:Nat):Int);unfold Zaj ZaJ;omega
 ·exfalso
  apply h;rw[<-hy];show(Zj cores (-1:Int)).getD c 0= -1;rw[Zi,List.getElem?_replicate,Zc hc];rfl
 ·rw[Zbt]at h;omega
theorem RunInv.next{need:List Int}{cores k:Nat}(hF:Fits n E)(hn:∀z∈need,1<=z/\z<=1000)(hl:need.length=n)(h:RunInv n E need cores k):RunInv n E need cores (k+1):=by
 obtain⟨ok,len,left,last,began,good,greedy⟩:=h;obtain⟨Ok,hO⟩:∃z,z=(ZaN n E (Zj cores (-1)) need k).1:=⟨_,rfl⟩;obtain⟨Lk,hL⟩:∃z,z=(ZaN n E (Zj cores (-1)) need k).2:=⟨_,rfl⟩;obtain⟨t,ht⟩:∃z,z=runR n E (Zj cores (-1)) need k:=⟨_,rfl⟩;obtain⟨t',ht'⟩:∃z,z=runR n E (Zj cores (-1)) need (k+1):=⟨_,rfl⟩;obtain⟨R,hR⟩:∃z,z=rowK n E (Zj cores (-1)) need k:=⟨_,rfl⟩;have hR2:R=ZcJ n E Lk Ok:=by rw[hR,hL,hO];rfl
 have hs1:(ZaN n E (Zj cores (-1)) need (k+1)).1=onT R Lk:=by rw[hR2,hL,hO];rfl
 have hs2:(ZaN n E (Zj cores (-1)) need (k+1)).2=ZaC R Lk:=by rw[hR2,hL,hO];rfl
 have hk:t.length=k:=by rw[ht];exact Zbw k
 have hk':t'.length=k+1:=by rw[ht'];exact Zbw (k+1)
 have htk:t'.take k=t:=by rw[ht',ht];exact ZnJ k
 have hrow:rowT t' k=R:=by rw[ht',hR];exact Zlb k
 have hran:∀(x:Int) (i:Nat),i<=k->ranT t' x i=ranT t x i:=fun x i hi=>by rw[<-htk,Zcm t' x k i hi]
 have hrows:∀i,i<k->rowT t' i=rowT t i:=fun i hi=>by rw[<-htk,Zcn t' k i hi]
 have hnum:∀i c,i<k->numT t' i c=numT t i c:=fun i c hi=>by unfold numT;rw[hrows i hi]
 rw[<-hO,<-hL]at ok;rw[<-hO]at len last;rw[<-ht]at last began left good greedy;rw[<-hL]at left;simp only[<-hL,<-hO]at began;have okR:CrewOk n E R Lk:=by rw[hR2];exact ok.fill
 have hlen:R.length=cores:=by rw[hR2,Zf9];exact len
 have hstep:∀x:Int,ranT t' x (k+1)=ranT t x k+R.count x:=fun x=>by rw[Za0,hrow,hran x k (Zm _)]
 have hcount:∀x:Nat,(R.count (x:Int):Int)=if(x:Int)∈R then 1 else 0:=fun x=>by
  split
  ·next hm =>have h1:=okR.once (x:Int) (by omega);have h2:=Yz.mpr hm;omega
  ·next hm=>rw[Yi.mpr hm];rfl
 have hover:∀x:Int,OverC E Lk x->Zdr E need t' x k:=fun x ho e he e2=>by obtain⟨h1,h2,_,_⟩:=hF e he;obtain⟨m,hm⟩:∃m:Nat,e.1=m:=⟨e.1.toNat,by omega⟩;have h3:=ho e he e2;rw[hm]at h3⊢;rw[left m (by omega)]at h3;rw[hran _ k (Zm _)];omega
 have hfree:∀x:Int,Zdr E need t' x k->OverC E Lk x:=fun x ho e he e2 hp=>by obtain⟨h1,h2,_,_⟩:=hF e he;obtain⟨m,hm⟩:∃m:Nat,e.1=m:=⟨e.1.toNat,by omega⟩;have h3:=ho e he e2;rw[hm]at h3 hp;rw[left m (by omega)]at hp;rw[hran _ k (Zm _)]at h3;omega
 have hgood:Good E need cores t':=by
  refine⟨fun r hr=> ?_,fun i hi c hc=> ?_⟩
  ·rw [ht',Zel,List.mem_append] at hr
   rcases hr with hr|hr
   ·exact good.rows r (by rw[ht];exact hr)
   ·rw [List.mem_singleton] at hr
    rw[hr,<-hR];exact hlen
  ·rcases Zv i k with hik | hik
   ·have h1:=good.one i (by omega) c hc
    rw[<-htk,ZcM k i c hik]at h1;exact h1
   ·obtain rfl: i = k:=by omega
    have hc':c<R.length:=by omega
    obtain⟨x,hx⟩:∃x,x=numT t' i c:=⟨_,rfl⟩;have hxR:R.getD c (-1)=x:=by rw[hx];unfold numT;rw[hrow]
    unfold oneV;rw[<-hx];by_cases h1:x= -1
    ·rw[Zc h1]
    have hidx:=Zem hc' hxR;have hmem:x∈R:=ZC hidx;obtain⟨⟨h2,h3⟩,h4,h5⟩:=(okR.on x hmem).resolve_left h1;obtain⟨m,rfl⟩:∃m:Nat,x=m:=⟨x.toNat,by omega⟩;have hpos:=okR.pos h2 h3;have hlf:=left m (by omega);have hr:=hran (m:Int) i (Zm _);rw[Zb h1,Zb (by omega),Zb,Zb (by omega),Zb,Zb]
    ·rintro ⟨_,h7⟩
     exact h7 (hover _ h5)
    ·rintro ⟨h6,h7⟩
     rw[hr]at h6;have h8:=began m (by omega) h6 (by omega);obtain⟨j,hj,he⟩:=ZA h8;have h9:Ok.getD j 0=(m:Int):=by rw[Zi,Zh hj];exact he
     have h10:=ZeS (n:=n) (E:=E) (L:=Lk) (O:=Ok) (j:=j) (by omega) Ok.length;have h11:R.getD j 0=(m:Int):=by rw[hR2];unfold ZcJ;rw[h10,h9]
     have h12:=ZdF (okR.once (m:Int) h1) hidx (Zem (by omega) h11);subst h12;obtain⟨h13,h14⟩:=last c (by omega) _ h9 h1;exact h7 (by rw[hnum _ _ (by omega)];exact h14)
    ·intro h6
     rw[hrow]at h6;obtain⟨j,hj,he⟩:=ZA h6;rw[ZP]at hj;have h7:R[j]?=some (m:Int):=by rw[Zh (by omega)];rw[Y4]at he;exact congrArg some he
     have:=ZdF (okR.once (m:Int) h1) hidx h7;omega
 refine⟨?_,?_,fun x hx=> ?_,fun c hc y hy h1=> ?_,fun x hx h1 h2=> ?_,by rw[<-ht'];exact hgood,?_⟩
 ·rw[hs1,hs2];exact okR.tick hF
 ·rw[hs1,Zga];exact hlen
 ·rw [hs2,<- ht',ZbJ (by rw [ok.ln]; exact hx),hstep,left x hx]
  have:=hcount x;omega
 ·rw [hs1,ZnQ (by omega)] at hy
  split at hy
  ·exact absurd hy.symm h1
  ·refine ⟨by omega,?_⟩
   rw[<-ht',show k+1 - 1=k by omega];unfold numT;rw[hrow,Zlc (by omega:c<R.length) (-1) 0];exact hy
 ·rw [<- ht',hstep] at h1
  rw[hs2,ZbJ (by rw[ok.ln];exact hx)]at h2;rw[hs1];by_cases hxR:(x:Int)∈R
  ·rw [Zc hxR] at h2
   exact(Zgb (by omega)).mpr ⟨hxR,by omega⟩
  ·rw [Zb hxR] at h2
   rw[Yi.mpr hxR]at h1;have h3:=began x hx (by omega) (by omega);exfalso;apply hxR;rw[hR2];exact ZpN (by omega) h3
 ·rw [<- ht']
  intro i hi hidle x hx h0 hnx hfr;rcases Zv i k with hik|hik
  ·refine greedy i (by omega) ?_ x hx ?_ ?_ ?_
   ·rw[<-hrows i hik];exact hidle
   ·rw[<-hran _ i (by omega)];exact h0
   ·rw[<-hrows i hik];exact hnx
   ·intro e he e2
    have:=hfr e he e2;rw[hran _ i (by omega)]at this;exact this
  ·obtain rfl: i = k:=by omega
   rw[hrow]at hidle hnx;rw[hran _ i (Zm _)]at h0;have hr:Zaw n E R Lk= []:=by
    rw[hR2];rcases Zhf (n:=n) (E:=E) (L:=Lk) (O:=Ok)with h1|h1
    ·exact h1
    ·exact absurd hidle (by rw[hR2];exact h1)
   have hlx:=left x (by omega);have hnd:1<=ZaJ need (x:Int):=Zds (fun z hz=>(hn z hz).1) (by omega) (by omega);have:x∈Zaw n E R Lk:=mem_readyU.mpr ⟨by omega,by omega,hnx,hfree _ hfr⟩;rw[hr]at this;exact absurd this (by simp)
theorem RunInv.all{need:List Int}{cores:Nat}(hF:Fits n E)(hn:∀z∈need,1<=z/\z<=1000)(h1:1<=cores)(h8:cores<=8)(hl:need.length=n):∀k,RunInv n E need cores k
 |0=>RunInv.start hn h1 h8 hl
 |k+1=>(RunInv.all hF hn h1 h8 hl k).next hF hn hl
theorem RunInv.less{need:List Int}{cores k:Nat}(hF:Fits n E)(hA:Acyc E)(h:RunInv n E need cores k)(hp:0<(ZaN n E (Zj cores (-1)) need k).2.sum):
  (∃x∈rowK n E (Zj cores (-1)) need k,x≠ -1)/\(ZaN n E (Zj cores (-1)) need (k+1)).2.sum<(ZaN n E (Zj cores (-1)) need k).2.sum:=by
 obtain⟨m,hm,hl⟩:=Zdm hp;obtain⟨x,hx,h1⟩:=h.ok.someone hF hA (by rw[h.ok.ln]at hm;exact hm) hl;exact⟨⟨x,hx,h1⟩,h.ok.fill.less hF hx h1⟩
theorem Zen{p:Nat->Prop}[DecidablePred p]:∀k,p k->∃j,j<=k/\p j/\∀i,i<j->¬p i
  |0,h=>⟨0,Zm _,h,fun i hi=>by omega⟩
  | k + 1, h => by
    by_cases h1:∃j,j<=k/\p j
    · obtain⟨j,h2,h3⟩:=h1;obtain⟨i,h4,h5,h6⟩:=Zen j h3;exact⟨i,by omega,h5,h6⟩
    · exact⟨k+1,Zm _,h,fun i hi q=>h1 ⟨i,by omega,q⟩⟩
theorem ZiO{need:List Int}{cores:Nat}(hF:Fits n E)(hA:Acyc E)(hn:∀z∈need,1<=z/\z<=1000)(h1:1<=cores)(h8:cores<=8)(hl:need.length=n):
    (ZaN n E (Zj cores (-1)) need (lenR n E (Zj cores (-1)) need)).2.sum<=0/\(∀j,j<lenR n E (Zj cores (-1)) need->0<(ZaN n E (Zj cores (-1)) need j).2.sum)/\(lenR n E (Zj cores (-1)) need:Int)<=need.sum:=by
  have inv:=RunInv.all hF hn h1 h8 hl;have h0:0<=need.sum:=Zbz fun z hz=>by have:=hn z hz;omega
  have key:∀k:Nat,(∀j,j<k->0<(ZaN n E (Zj cores (-1)) need j).2.sum)->(ZaN n E (Zj cores (-1)) need k).2.sum<=need.sum - k:=by
    intro k
    induction k with
    |zero=>intro _;show need.sum<=need.sum - ((0:Nat):Int);omega
    | succ k ih =>intro h;have h2:=ih fun j hj=>h j (by omega);have h3:=((inv k).less hF hA (h k (by omega))).2;omega
  have hex:∃k,k<=need.sum.toNat/\(ZaN n E (Zj cores (-1)) need k).2.sum<=0:=by
    by_cases h2:∃k,k<=need.sum.toNat/\(ZaN n E (Zj cores (-1)) need k).2.sum<=0
    · exact h2
    · have h3:=key need.sum.toNat fun j hj=>Zn fun q=>h2 ⟨j,by omega,by omega⟩;exact absurd ⟨need.sum.toNat,Zm _,by omega⟩ h2
  obtain⟨k,hk,hs⟩:=hex;obtain⟨j,hj,hs2,hmin⟩:=Zen (p:=fun k=>(ZaN n E (Zj cores (-1)) need k).2.sum<=0) k hs;have he:lenR n E (Zj cores (-1)) need=j:=by unfold lenR;rw[ZdG (k:=j) (by simpa using hs2) (by omega) (fun i hi=>by have:=hmin i hi;simpa using this)];rfl
  rw[he];exact⟨hs2,fun i hi=>by have:=hmin i hi;omega,by omega⟩
structure RunOk(n:Nat)(E:List (Int×Int))(need:List Int)(cores:Nat)(t:List (List Int)):Prop where
 good:Good E need cores t
 greedy:GreedyT E need t
 done:∀x:Nat,x<n->0<=endV need t (x:Int)
 within:∀x:Nat,x<n->endV need t (x:Int)<=t.length
 last:0<t.length->∃x:Nat,x<n/\endV need t (x:Int)=t.length
 len:(t.length:Int)<=need.sum
theorem Zso{need:List Int}{cores:Nat}(hF:Fits n E)(hA:Acyc E)(hn:∀z∈need,1<=z/\z<=1000)(h1:1<=cores)(h8:cores<=8)(hl:need.length=n):
  RunOk n E need cores (runR n E (Zj cores (-1)) need (lenR n E (Zj cores (-1)) need)):=by
 obtain⟨hs,hp,hle⟩:=ZiO hF hA hn h1 h8 hl;obtain⟨K,hK⟩:∃z,z=lenR n E (Zj cores (-1)) need:=⟨_,rfl⟩;rw[<-hK]at hs hp hle⊢;have inv:=RunInv.all hF hn h1 h8 hl K;have hlen:(runR n E (Zj cores (-1)) need K).length=K:=Zbw K;have hall:∀x:Nat,x<n->ZaJ need (x:Int)<=ranT (runR n E (Zj cores (-1)) need K) (x:Int) K:=fun x hx=>by have h2:=Zdn (fun z hz=>(inv.ok.left z hz).1) hs _ (Zck (x:=x) (by rw[inv.ok.ln];exact hx));have h3:=inv.left x hx;omega
 have hend:∀x:Nat,x<n->0<=endV need (runR n E (Zj cores (-1)) need K) (x:Int)/\endV need (runR n E (Zj cores (-1)) need K) (x:Int)<=K:=fun x hx=>ZhT (hall x hx);refine⟨inv.good,inv.greedy,fun x hx=>(hend x hx).1,fun x hx=>by rw[hlen];exact(hend x hx).2,fun h0=> ?_,by rw[hlen];exact hle⟩;rw[hlen]at h0⊢;obtain⟨K',rfl⟩:∃k,K=k+1:=⟨K - 1,by omega⟩;obtain⟨⟨y,hy,hy1⟩,_⟩:=(RunInv.all hF hn h1 h8 hl K').less hF hA (hp K' (by omega));have hrow:y∈rowT (runR n E (Zj cores (-1)) need (K'+1)) K':=by rw[Zlb];exact hy
 have hin:=(inv.good.mem (by omega) hrow).resolve_left hy1;obtain⟨m,rfl⟩:∃m:Nat,y=m:=⟨y.toNat,by omega⟩;obtain⟨c,hc,he⟩:=ZeT hrow;have h2:=(inv.good.at_ (by omega) (by rw[inv.good.len (by omega)]at hc;exact hc) (m:Int) he hy1).2.2.1;have hm:m<n:=by omega
 have h3:=Zj2 h2 (hend m hm).1;have h4:=(hend m hm).2;exact⟨m,hm,by omega⟩
theorem RunOk.busy{need:List Int}{cores:Nat}{t:List (List Int)}(h:RunOk n E need cores t)(hn:∀z∈need,1<=z/\z<=1000)(hl:need.length=n):(Zj3 t:Int)=need.sum:=
 (h.good.busy fun z hz=>(hn z hz).1).2.1.mpr fun x hx=>h.done x (by omega)
theorem RunOk.alone{need:List Int}{t:List (List Int)}(h:RunOk n E need 1 t)(hn:∀z∈need,1<=z/\z<=1000)(hl:need.length=n):(t.length:Int)=need.sum:=by have h1:=h.busy hn hl;have h2:=(h.good.busy fun z hz=>(hn z hz).1).2.2;have h3:=h.len;omega
theorem RunOk.bound{need:List Int}{cores:Nat}{t:List (List Int)}(h:RunOk n E need cores t)(hF:Fits n E)(hn:∀z∈need,1<=z/\z<=1000)(h1:1<=cores)(hl:need.length=n)(M:Int)(hM:Zg8 need E M)(h0:0<=need.sum+((cores:Int) - 1) * M):
  (t.length:Int)<=(need.sum+((cores:Int) - 1) * M)/cores:=by
 rcases Nat.eq_zero_or_pos t.length with h2|h2
 ·rw [h2]
  exact Int.ediv_nonneg h0 (by omega)
 ·obtain ⟨x,hx,he⟩:=h.last h2
  have h3:=Zsq h.good h.greedy (by rw[hl];exact hF) (fun z hz=>(hn z hz).1) (fun m hm=>h.done m (by omega)) h1 M hM x (by omega);rw[he]at h3;exact(Int.le_ediv_iff_mul_le (by omega)).mpr (by rw[Int.mul_comm];exact h3)
end
open Go.RowKit
structure IsC(w:World)(A:Option Addr)(n c:Nat)(F:Option Addr)(m d:Nat)(O L:List Int):Prop where
 hn:O.length=n
 hm:L.length=m
 ln:n<=400
 lm:m<=400
 on:Ints w w.heap.size A O
 left:Ints w w.heap.size F L
 hA:A=none->n=0/\c=0
 hF:F=none->m=0/\d=0
 cA:n<=c
theorem IsC.below{w w':World}{A:Option Addr}{n c:Nat}{F:Option Addr}{m d:Nat}{O L:List Int}(h:IsC w A n c F m d O L)(hb:Below w.heap.size w w'):IsC w' A n c F m d O L:=
 ⟨h.hn,h.hm,h.ln,h.lm,(h.on.below hb).more hb.size,(h.left.below hb).more hb.size,h.hA,h.hF,h.cA⟩
def GCq(O L:List Int)(v:Value)(w:World):Prop:=∃ A n c F m d,v=.agg #[.slice A n c,.slice F m d]/\IsC w A n c F m d O L
theorem GCq.below{O L:List Int}{v:Value}{w w':World}(h:GCq O L v w)(hb:Below w.heap.size w w'):GCq O L v w':=by obtain⟨A,n,c,F,m,d,h1,h2⟩:=h;exact⟨A,n,c,F,m,d,h1,h2.below hb⟩
theorem IsC.gc{w:World}{A:Option Addr}{n c:Nat}{F:Option Addr}{m d:Nat}{O L:List Int}(h:IsC w A n c F m d O L):GCq O L (.agg #[.slice A n c,.slice F m d]) w:=⟨A,n,c,F,m,d,rfl,h⟩
structure BxDC(w0:World)(A:Option Addr)(n c:Nat)(F:Option Addr)(m d:Nat)(W:List Int)(E:List (Int×Int))(A':Option Addr)(n' c':Nat)(F':Option Addr)(m' d':Nat)(O L:List Int)(w:World):Prop where
 bel:Below w0.heap.size w0 w
 lt:w0.heap.size+1<w.heap.size
 d0:w.cell? ⟨w0.heap.size,0,none⟩=some (.slice A n c)
 d1:w.cell? ⟨w0.heap.size,1,none⟩=some (.slice F m d)
 c0:w.cell? ⟨w0.heap.size+1,0,none⟩=some (.slice A' n' c')
 c1:w.cell? ⟨w0.heap.size+1,1,none⟩=some (.slice F' m' d')
 g0:IsG w0 A n c F m d W E
 k0:IsC w0 A' n' c' F' m' d' O L
section
variable {A: Option Addr}{n c: Nat}{F: Option Addr}{m d: Nat}{W: List Int}{E: List (Int × Int)}{A': Option Addr}{n' c': Nat}{F': Option Addr}{m' d': Nat}{O L: List Int}
theorem BxDC.g{w0 w:World}(h:BxDC w0 A n c F m d W E A' n' c' F' m' d' O L w):IsG w A n c F m d W E:=h.g0.below h.bel
theorem BxDC.k{w0 w:World}(h:BxDC w0 A n c F m d W E A' n' c' F' m' d' O L w):IsC w A' n' c' F' m' d' O L:=h.k0.below h.bel
theorem BxDC.later{w0 w w':World}(h:BxDC w0 A n c F m d W E A' n' c' F' m' d' O L w)(hb:Below (w0.heap.size+1+1) w w'):BxDC w0 A n c F m d W E A' n' c' F' m' d' O L w':=
 ⟨h.bel.trans (hb.mono (by omega)),Nat.lt_of_lt_of_le h.lt hb.size,(hb.cell (by show w0.heap.size<w0.heap.size+1+1;omega)).trans h.d0,(hb.cell (by show w0.heap.size<w0.heap.size+1+1;omega)).trans h.d1,(hb.cell (by show w0.heap.size+1<w0.heap.size+1+1;omega)).trans h.c0,(hb.cell (by show w0.heap.size+1<w0.heap.size+1+1;omega)).trans h.c1,h.g0,h.k0⟩
theorem BxDC.next{w0 w w':World}(h:BxDC w0 A n c F m d W E A' n' c' F' m' d' O L w)(hb:Below w.heap.size w w'):BxDC w0 A n c F m d W E A' n' c' F' m' d' O L w':=h.later (hb.mono h.lt)
theorem BxDC.start{w:World}(hg:IsG w A n c F m d W E)(hk:IsC w A' n' c' F' m' d' O L):BxDC w A n c F m d W E A' n' c' F' m' d' O L ((w.alloc (.cells #[.slice A n c,.slice F m d] 25)).alloc (.cells #[.slice A' n' c',.slice F' m' d'] 37)):=by
 obtain⟨w0,hw0⟩:∃w0,w0=w.alloc (.cells #[.slice A n c,.slice F m d] 25):=⟨_,rfl⟩;have hs:w0.heap.size=w.heap.size+1:=by rw[hw0];simp
 have hb0:Below w.heap.size w w0:=by rw[hw0];exact Zaa _
 rw[<-hw0];have hb:Below w.heap.size w (w0.alloc (.cells #[.slice A' n' c',.slice F' m' d'] 37)):=hb0.trans ((Zaa (w:=w0) _).mono (by omega));have e0:∀j,(w0.alloc (.cells #[.slice A' n' c',.slice F' m' d'] 37)).cell? ⟨w.heap.size,j,none⟩=w0.cell? ⟨w.heap.size,j,none⟩:=fun j=>World.cell?_alloc_lt _ _ _ (by show w.heap.size<w0.heap.size;omega);refine⟨hb,by simp[hs],?_,?_,?_,?_,hg,hk⟩
 ·rw[e0,hw0,Zp _ _ _ _ rfl];rfl
 ·rw[e0,hw0,Zp _ _ _ _ rfl];rfl
 ·rw[Zp _ _ _ _ hs.symm];rfl
 ·rw[Zp _ _ _ _ hs.symm];rfl
end
open Classical in
noncomputable def ZcW (W:List Int) (E:List (Int×Int)) (O L:List Int):Int:=if chkE W E=0 then(if CrewOk W.length E O L then 0 else 110)else chkE W E
theorem crewE_zero{W:List Int}{E:List (Int×Int)}{O L:List Int}:ZcW W E O L=0↔May W E/\CrewOk W.length E O L:=by
 unfold ZcW;by_cases h:chkE W E=0
 ·rw [Zc h]
  by_cases h2:CrewOk W.length E O L
  ·rw[Zc h2];exact⟨fun _=>⟨chkE_zero.mp h,h2⟩,fun _=>rfl⟩
  ·rw[Zb h2];exact⟨fun e=>Za e,fun e=>absurd e.2 h2⟩
 ·rw[Zb h];exact⟨fun e=>absurd e h,fun e=>absurd (chkE_zero.mpr e.1) h⟩
theorem ZnK{W:List Int}{E:List (Int×Int)}{O L:List Int}(h:chkE W E≠0):ZcW W E O L=chkE W E:=Zb h
theorem Zl6{W:List Int}{E:List (Int×Int)}{O L:List Int}(h:chkE W E=0)(h2:¬CrewOk W.length E O L):ZcW W E O L=110:=by unfold ZcW;rw[Zc h,Zb h2]
theorem Zl7{n:Nat}{E:List (Int×Int)}{O L:List Int}:CrewOk n E O L↔(1<=O.length/\O.length<=8/\L.length=n)/\(∀j:Nat,j<L.length->0<=Zaj L (j:Int)/\Zaj L (j:Int)<=1000)/\(∀j:Nat,j<L.length->Zaj L (j:Int)=0->OverC E L (j:Int))/\
    (∀(j:Nat) (x:Int),O[j]?=some x->x= -1\/((0<=x/\x<n)/\Zaj L x≠0/\OverC E L x/\x∉O.take j)):=by
  constructor
  · intro h;refine⟨⟨h.lo,h.hi,h.ln⟩,fun j hj=>h.left _ (Zck hj),fun j hj h0=>h.done j (by rw[<-h.ln];exact hj) h0,fun j x hx=> ?_⟩;rcases h.on x (ZC hx)with h1|⟨h1,h2,h3⟩
    · exact .inl h1
    · refine .inr ⟨h1,h2,h3,fun hm=> ?_⟩;obtain⟨i,hi,he⟩:=ZA hm;rw[ZP]at hi;rw[Y4]at he;have h4:O[i]?=some x:=by rw[Zh (by omega)];exact congrArg some he
      have:=ZdF (h.once x (by omega)) hx h4;omega
  · rintro⟨⟨h1,h2,h3⟩,h4,h5,h6⟩;refine⟨h1,h2,h3,fun z hz=> ?_,fun x hx h0=>h5 x (by omega) h0,fun x hx=> ?_,fun x hx=> ?_⟩
    · obtain⟨j,hj,he⟩:=ZA hz;have:=h4 j hj;rw[Za6,Zi,Zh hj]at this;simp only[Option.getD_some]at this;omega
    · obtain⟨j,hj,he⟩:=ZA hx;rcases h6 j x (by rw[Zh hj];exact congrArg some he)with h7|⟨h7,h8,h9,_⟩
      · exact .inl h7
      · exact .inr ⟨h7,h8,h9⟩
    · have key:∀k,k<=O.length->(O.take k).count x<=1:=by
        intro k
        induction k with
        |zero=>intro _;simp
        | succ k ih =>
          intro hk;rw[Zco (by omega)];by_cases hy:O.getD k (-1)=x
          · rw[Zc hy];rcases h6 k x (Zem (by omega) hy)with h7|⟨_,_,_,h7⟩
            · exact absurd h7 hx
            · rw[Yi.mpr h7];omega
          · rw[Zb hy];exact ih (by omega)
      have:=key O.length (Zm _)
      rwa [List.take_length]at this
open Go
theorem Zbl{w w':World}{base:Nat}{e t:TypeId}{s n g:Nat}{v:Value}{xs:List Value}{cs:Array Value}(h:w.ownsRow base e s v n xs)(hg:w.heap[g]?=some (.cells cs t (0,0)))(ht:e≠t)(hk:∀k,k≠g->w'.heap[k]?=w.heap[k]?):w'.ownsRow base e s v n xs:=by
 refine⟨h.1,?_⟩;rcases h.2 with hn|⟨g',cap,cur,rfl,hg',hgg,rest⟩
 ·exact .inl hn
 ·refine .inr ⟨g',cap,cur,rfl,hg',?_,rest⟩
  rw[hk g' (fun e1=>by subst e1;rw[hg]at hgg;injection hgg with hgg;injection hgg with _ h2 _;exact ht h2.symm)]
  exact hgg
def NewR(t:TypeId)(w:World)(base:Nat)(v:Value):Prop:=∃ g,v=.slice (some ⟨g,0,none⟩) 0 0/\w.heap[g]?=some (.cells #[] t (0,0))/\base<=g
theorem NewR.below{t:TypeId}{w w':World}{base:Nat}{v:Value}(h:NewR t w base v)(hb:Below w.heap.size w w'):NewR t w' base v:=by obtain⟨g,e,hg,hl⟩:=h;exact⟨g,e,by rw[hb.block _ (Zk.1 hg).1];exact hg,hl⟩
theorem Zeo{w:World}{g:Nat}{t:TypeId}{x y:Value}(h:w.heap[g]?=some (.cells #[x,y] t (0,0)))(a b:Value):((w.setCell ⟨g,0,none⟩ a).setCell ⟨g,1,none⟩ b).heap[g]?=some (.cells #[a,b] t (0,0)):=by have h1:=Yai w g 0 _ _ a h;have h2:=Yai _ g 1 _ _ b h1;simpa using h2
theorem ZcI{w:World}{B g:Nat}(hg:B<=g)(a b:Value):Below B w ((w.setCell ⟨g,0,none⟩ a).setCell ⟨g,1,none⟩ b):=((Below.refl B w).setCell hg a).setCell hg b
theorem ZnL(w:World)(g:Nat)(a b:Value):((w.setCell ⟨g,0,none⟩ a).setCell ⟨g,1,none⟩ b).heap.size=w.heap.size:=by simp[World.setCell]
theorem Zcd(w:World)(g:Nat)(a b:Value):∀k,k≠g->((w.setCell ⟨g,0,none⟩ a).setCell ⟨g,1,none⟩ b).heap[k]?=w.heap[k]?:=fun k hk=>by rw[Yah _ _ _ _ hk,Yah _ _ _ _ hk]
theorem ZnM{o:Oper}{a:Act}{x:World}{K:Act->World->Prop}{Q:Exit->Act->World->Prop}{s y:Operand}{g:Nat}{u v u0 v0:Value}(hop:o.op=.store 37 s y)(hdst:o.dst=none)
  (hs:a.eval s=.pointer (some ⟨g,0,none⟩))(hy:a.eval y=.agg #[u,v])(h1:∃A n c F m d,u=.slice A n c/\v=.slice F m d)(hg:x.heap[g]?=some (.cells #[u0,v0] 37 (0,0)))
  (hK:K a ((x.setCell ⟨g,0,none⟩ u).setCell ⟨g,1,none⟩ v)):o.wp Tryz.prog a x K Q:=by
 obtain⟨A,n,c,F,m,d,rfl,rfl⟩:=h1;have d0:=Yaf x g 0 _ _ _ hg;have z0:=Yaj x g 0 _ _ hg;have d1:=Yaf x g 1 _ _ _ hg;have z1:=Yaj x g 1 _ _ hg;have hg1:=Yai x g 0 _ _ (.slice A n c) hg;have d1':=Yaf _ g 1 _ _ _ hg1;have z1':=Yaj _ g 1 _ _ hg1;simp at d0 d1 d1';have hr:(Yae a.eval o).run Tryz.prog x=.ok .skip ((x.setCell ⟨g,0,none⟩ (.slice A n c)).setCell ⟨g,1,none⟩ (.slice F m d)):=by simp only[Yae,hop];rw[hs,hy];simp[go_sem,d0,z0,d1',z1']
 unfold Z0;rw[hr,Oper.upon_skip,hdst];exact hK
theorem ZjU{w:World}{b:Nat}{A:Option Addr}{n c:Nat}{F:Option Addr}{m d:Nat}{O L:List Int}(hu:OwnI w b (.slice A n c) O)(hv:OwnI w b (.slice F m d) L)(hn:O.length=n)(hm:L.length=m)(l1:n<=400)(l2:m<=400):IsC w A n c F m d O L:=
 ⟨hn,hm,l1,l2,hu.ints,hv.ints,fun e=>by subst e;exact hu.none_nil,fun e=>by subst e;exact hv.none_nil,by
  rcases hu.2 with⟨hv,hn⟩|⟨g,cap,cur,hv,hg,hgg,hle,_⟩
  ·injection hv with _ h1 h2
   omega
  ·injection hv with _ h1 h2
   omega⟩
structure OwnC(w:World)(b:Nat)(A:Option Addr)(n c:Nat)(F:Option Addr)(m d:Nat)(O L:List Int):Prop where
 on:OwnI w b (.slice A n c) O
 left:OwnI w b (.slice F m d) L
 hn:O.length=n
 hm:L.length=m
 ln:n<=400
 lm:m<=400
theorem OwnC.isC{w:World}{b:Nat}{A:Option Addr}{n c:Nat}{F:Option Addr}{m d:Nat}{O L:List Int}(h:OwnC w b A n c F m d O L):IsC w A n c F m d O L:=ZjU h.on h.left h.hn h.hm h.ln h.lm
theorem OwnC.next{w w':World}{b:Nat}{A:Option Addr}{n c:Nat}{F:Option Addr}{m d:Nat}{O L:List Int}(h:OwnC w b A n c F m d O L)(hb:Below w.heap.size w w'):OwnC w' b A n c F m d O L:=⟨Zac h.on hb,Zac h.left hb,h.hn,h.hm,h.ln,h.lm⟩
theorem OwnC.down{w:World}{b b':Nat}{A:Option Addr}{n c:Nat}{F:Option Addr}{m d:Nat}{O L:List Int}(h:OwnC w b A n c F m d O L)(hb:b'<=b):OwnC w b' A n c F m d O L:=⟨h.on.down hb,h.left.down hb,h.hn,h.hm,h.ln,h.lm⟩
theorem Zsp(w:World)(b:Nat):OwnC w b none 0 0 none 0 0 [] []:=⟨⟨rfl,.inl ⟨rfl,rfl⟩⟩,⟨rfl,.inl ⟨rfl,rfl⟩⟩,rfl,rfl,by decide,by decide⟩
section
variable {P: Program}{ops: Array Oper}{Q: Exit -> Act -> World -> Prop}
theorem ZeR(p:Nat)(ds S:List Nat)(base q1 q2:Nat){id:Nat}{a0:Act}{w0:World}(hm:P.follows .mixedOrders=true)(hG:ZfR ops p ds S=true)(hsz:∀d∈ds,d<a0.tmps.size\/1000<=d)
    (I:World->Prop)(Φ:Nat->Value->World->Prop)(Θ:(Nat->Value)->World->Prop)(Ψ:Value->Value->World->Prop)
    (hq:q1≠q2/\q1≠p/\q2≠p/\q1∉S/\q2∉S/\q1<ds.length/\q2<ds.length)(hqe:∀o,ops[q2]?=some o->∃e∈o.after,e.on=q1/\Region.binds .any e=true)
    (hΨ:∀u v w w',Ψ u v w->Below w.heap.size w w'->Ψ u v w')
    (hI:∀w w',I w->Below w.heap.size w w'->I w')(hΦ:∀k v w w',Φ k v w->Below w.heap.size w w'->Φ k v w')
    (h0:I {w0 with drawn:=w0.drawn+1})
    (hstep:∀(k:Nat) (o:Oper),k≠p->k∉S->ops[k]?=some o->∀(a:Act) (w:World),I w->AtDoor a0 ds a.eval->(∀e∈o.after,Region.binds .any e=true->Φ e.on (a.eval (.tmp (ds.getD e.on 0))) w)->(∀e∈o.after,Region.binds .any e=true->e.on=q2->Ψ (a.eval (.tmp (ds.getD q1 0))) (a.eval (.tmp (ds.getD q2 0))) w)->
      ∀K:Act->World->Prop,(∀v w',Φ k v w'->Below w.heap.size w w'->(k=q2->Ψ (a.eval (.tmp (ds.getD q1 0))) v w')->K (a.put o.dst v) w')->o.wp P a w K Q)
    (hside:∀(k:Nat) (o:Oper),k∈S->ops[k]?=some o->∀(ρ:Operand->Value) (w:World),base<=w.heap.size->AtDoor a0 ds ρ->(∀e∈o.after,Region.binds .any e=true->e.on≠p->∃w1,Φ e.on (ρ (.tmp (ds.getD e.on 0))) w1/\(e.on∈S->w1=w))->
      ∃v w',(Yae ρ o).run P w=.ok (.value v) w'/\Φ k v w'/\Below w.heap.size w w')
    (hstore:∀(o:Oper),ops[p]?=some o->∀(a:Act) (w:World),I w->AtDoor a0 ds a.eval->(∀k,k<ds.length->k≠p->k∉S->Φ k (a.eval (.tmp (ds.getD k 0))) w)->Ψ (a.eval (.tmp (ds.getD q1 0))) (a.eval (.tmp (ds.getD q2 0))) w->
      ∀K:Act->World->Prop,(∀w',Θ (fun t=>a.eval (.tmp t)) w'->base<=w'.heap.size->(∀k,k∈S->∀v,Φ k v w->Φ k v w')->K a w')->o.wp P a w K Q)
    (hΘ:∀(f g:Nat->Value) w,(∀k,k<ds.length->k≠p->k∉S->f (ds.getD k 0)=g (ds.getD k 0))->Θ f w->Θ g w)
    (hΘb:∀(f:Nat->Value) w w',Θ f w->Below w.heap.size w w'->Θ f w')(hbase:base<=w0.heap.size)
    (hend:∀(vals:Nat->Value) (w:World),Θ vals w->(∀k,k<ds.length->k≠p->∃w',Φ k (vals (ds.getD k 0)) w'/\(k∈S->w'=w))->Q .normal ⟨(ZaW a0 ds vals).toArray,a0.defers⟩ w):
    (Code.region id ops true).wp P Q a0 w0:=by
  have G:=ZfS hG;refine Zbi (fun l a w=>l.size=ds.length/\AtDoor a0 ds a.eval/\a.tmps.size=a0.tmps.size/\a.defers=a0.defers/\
    (∀(i:Nat) (o:Oper),l.getD i false=true->ops[i]?=some o->∀e∈o.after,Region.binds .any e=true->l.getD e.on false=true)/\
    base<=w.heap.size/\
    ((l.getD p false = false /\ I w /\ (l.getD q2 false = true -> Ψ (a.eval (.tmp (ds.getD q1 0))) (a.eval (.tmp (ds.getD q2 0))) w) /\∀ k, k < ds.length -> k ≠ p -> l.getD k false = true -> Φ k (a.eval (.tmp (ds.getD k 0))) w) \/
     (l.getD p false=true/\Θ (fun t=>a.eval (.tmp t)) w/\∀k,k<ds.length->k≠p->l.getD k false=true->∃w',Φ k (a.eval (.tmp (ds.getD k 0))) w'/\(k∈S->w'=w)))) hm ?_ ?_ ?_
  · have hno:∀k,¬(Yt ops.size false).getD k false=true:=fun k h=>by
      by_cases h2:k<ops.size<;>simp[h2]at h
    refine⟨by rw[Array.size_replicate];exact G.size,Zbb a0 ds,rfl,rfl,fun k o h=>absurd h (hno k),hbase,.inl ⟨?_,h0,fun h=>absurd h (hno q2),fun k hk hkp h=>absurd h (hno k)⟩⟩
    cases h:(Yt ops.size false).getD p false with
    |false=>rfl
    |true=>exact absurd h (hno p)
  · rintro l a w i ⟨hls,hAD,hasz,hadf,hcl,hbw,hV⟩ hi;obtain⟨hun,o,ho,hpre⟩:=mem_ready.1 hi;have hilt:i<ops.size:=(Zk.1 ho).1;have hin:i<ds.length:=by rw[<-G.size];exact hilt
    have hil:i<l.size:=by omega
    have hun2:l.getD i false=false:=by
      cases h:l.getD i false with
      |false=>rfl
      |true=>simp[hil]at h hun;rw[h]at hun;cases hun
    have hcl2:∀(k:Nat) (o':Oper),(l.setIfInBounds i true).getD k false=true->ops[k]?=some o'->∀e∈o'.after,Region.binds .any e=true->(l.setIfInBounds i true).getD e.on false=true:=fun k o' hk ho' e he hb=>by
      refine(Zam hil).mpr (.inr ?_);rcases Zag hk with h|h
      · subst h;rw[ho]at ho';obtain rfl:=Option.some.inj ho';exact hpre e he hb
      · exact hcl k o' h ho' e he hb
    have hls2:(l.setIfInBounds i true).size=ds.length:=by rw[ZQ];exact hls
    refine ZeG ho (G.guard i o ho) ?_;by_cases hip:i=p
    · subst hip;rcases hV with⟨hnl,hIw,hPs,hF⟩|⟨hnl,_⟩
      · have hall:∀k,k<ds.length->k≠i->k∉S->l.getD k false=true:=fun k hk hkp hkS=>Za8 hcl 12 i k (G.last k hk hkp hkS) (fun o' ho' e he hb=>by
          rw[ho]at ho';obtain rfl:=Option.some.inj ho';exact hpre e he hb)
        refine hstore o ho a w hIw hAD (fun k hk hkp hkS=>hF k hk hkp (hall k hk hkp hkS)) (hPs (hall q2 hq.2.2.2.2.2.2 hq.2.2.1 hq.2.2.2.2.1)) _ fun w' hT hbw' hkeep=> ?_;refine⟨hls2,hAD,hasz,hadf,hcl2,hbw',.inr ⟨(Zam hil).mpr (.inl rfl),hT,fun k hk hkp hkl=> ?_⟩⟩;have hf:=hF k hk hkp ((Zag hkl).resolve_left hkp);by_cases hkS:k∈S
        · exact⟨w',hkeep k hkS _ hf,fun _=>rfl⟩
        · exact⟨w,hf,fun h=>absurd h hkS⟩
      · rw[hun2]at hnl;cases hnl
    · obtain⟨hd,hdl⟩:=G.dst i o hip ho;have hdm:=Zc8 hin;have hdz:ds.getD i 0<a.tmps.size:=by
        rcases hsz _ hdm with h|h
        · rw[hasz];exact h
        · omega
      have hpl:∀b,l.getD p false=b->(l.setIfInBounds i true).getD p false=b:=fun b hb=>by
        cases h:(l.setIfInBounds i true).getD p false with
        | true =>
          rcases Zag h with h2|h2
          · exact absurd h2.symm hip
          · rw[<-hb,h2]
        | false =>
          cases b with
          |false=>rfl
          | true =>have:=(Zam (k:=p) hil).mpr (.inr hb);rw[h]at this;cases this
      have hsz2:∀v,(a.put (some (ds.getD i 0)) v).tmps.size=a0.tmps.size:=fun v=>by show(a.tmps.setIfInBounds _ _).size=_;rw[ZQ];exact hasz
      rcases hV with⟨hnl,hIw,hPs,hF⟩|⟨hnl,hT,hF⟩
      · have hdep:∀e∈o.after,Region.binds .any e=true->Φ e.on (a.eval (.tmp (ds.getD e.on 0))) w:=fun e he hb=>hF e.on (YI (G.back i o ho e he hb) hin) (fun h=>by
          have:=hpre e he hb;rw[h,hnl]at this;cases this) (hpre e he hb)
        have hnext:∀v w',Φ i v w'->Below w.heap.size w w'->(i=q2->Ψ (a.eval (.tmp (ds.getD q1 0))) v w')->(l.setIfInBounds i true).size=ds.length/\AtDoor a0 ds (a.put (some (ds.getD i 0)) v).eval/\(a.put (some (ds.getD i 0)) v).tmps.size=a0.tmps.size/\(a.put (some (ds.getD i 0)) v).defers=a0.defers/\
            (∀(k:Nat) (o':Oper),(l.setIfInBounds i true).getD k false=true->ops[k]?=some o'->∀e∈o'.after,Region.binds .any e=true->(l.setIfInBounds i true).getD e.on false=true)/\base<=w'.heap.size/\
            (((l.setIfInBounds i true).getD p false = false /\ I w' /\ ((l.setIfInBounds i true).getD q2 false = true -> Ψ ((a.put (some (ds.getD i 0)) v).eval (.tmp (ds.getD q1 0))) ((a.put (some (ds.getD i 0)) v).eval (.tmp (ds.getD q2 0))) w') /\∀ k, k < ds.length -> k ≠ p -> (l.setIfInBounds i true).getD k false = true -> Φ k ((a.put (some (ds.getD i 0)) v).eval (.tmp (ds.getD k 0))) w') \/
             ((l.setIfInBounds i true).getD p false=true/\Θ (fun t=>(a.put (some (ds.getD i 0)) v).eval (.tmp t)) w'/\∀k,k<ds.length->k≠p->(l.setIfInBounds i true).getD k false=true->∃w'',Φ k ((a.put (some (ds.getD i 0)) v).eval (.tmp (ds.getD k 0))) w''/\(k∈S->w''=w'))):=fun v w' hphi hb hps2=>by
          refine⟨hls2,hAD.put hdm v,hsz2 v,hadf,hcl2,ZK hbw hb.size,.inl ⟨hpl _ hnl,hI w w' hIw hb,fun hq2l=> ?_,fun k hk hkp hkl=> ?_⟩⟩
          · by_cases hi2:i=q2
            · subst hi2;rw[ZaB _ _ _ hdz,Zak _ _ _ _ (fun e=>hq.1 (Zbo G.nodup hq.2.2.2.2.2.1 hin e))];exact hps2 rfl
            · have h2l:=(Zag hq2l).resolve_left (fun e=>hi2 e.symm);have h1l:l.getD q1 false=true:=by
                obtain⟨oq,hoq⟩:∃oq,ops[q2]?=some oq:=⟨_,ZS (by rw[G.size];exact hq.2.2.2.2.2.2)⟩;obtain⟨e,he,e1,e2⟩:=hqe oq hoq;have:=hcl q2 oq h2l hoq e he e2
                rwa [e1]at this
              have hi1:i≠q1:=fun e=>by subst e;rw[hun2]at h1l;cases h1l
              rw[Zak _ _ _ _ (fun e=>hi1 (Zbo G.nodup hin hq.2.2.2.2.2.1 e.symm)),Zak _ _ _ _ (fun e=>hi2 (Zbo G.nodup hin hq.2.2.2.2.2.2 e.symm))];exact hΨ _ _ _ _ (hPs h2l) hb
          by_cases hki:k=i
          · subst hki;rw[ZaB _ _ _ hdz];exact hphi
          · rw[Zak _ _ _ _ (fun e=>hki (Zbo G.nodup hk hin e))];exact hΦ k _ _ _ (hF k hk hkp ((Zag hkl).resolve_left hki)) hb
        by_cases hiS:i∈S
        · obtain⟨v,w',hr,hphi,hbel⟩:=hside i o hiS ho a.eval w hbw hAD (fun e he hb _=>⟨w,hdep e he hb,fun _=>rfl⟩);unfold Z0;rw[hr,ZN,hd];exact hnext v w' hphi hbel (fun e=>absurd (e▸hiS) hq.2.2.2.2.1)
        · refine hstep i o hip hiS ho a w hIw hAD hdep (fun e he hb eq=>hPs (by have:=hpre e he hb;rwa [eq]at this)) _ fun v w' hphi hb hps2=> ?_;rw[hd];exact hnext v w' hphi hb hps2
      · have hall:∀k,k<ds.length->k≠p->k∉S->l.getD k false=true:=fun k hk hkp hkS=>by
          obtain⟨op,hop⟩:∃op,ops[p]?=some op:=⟨_,ZS (by rw[G.size];exact G.lt)⟩;exact Za8 hcl 12 p k (G.last k hk hkp hkS) (fun o' ho' e he hb=>hcl p o' hnl ho' e he hb)
        have hiS:i∈S:=Zn fun h=>by have:=hall i hin hip h;rw[hun2]at this;cases this
        obtain⟨v,w',hr,hphi,hbel⟩:=hside i o hiS ho a.eval w hbw hAD (fun e he hb hep=>by have he2:=hpre e he hb;have hlt:=YI (G.back i o ho e he hb) hin;exact hF e.on hlt hep he2)
        unfold Z0;rw[hr,ZN,hd];refine⟨hls2,hAD.put hdm v,hsz2 v,hadf,hcl2,ZK hbw hbel.size,.inr ⟨hpl _ hnl,?_,fun k hk hkp hkl=> ?_⟩⟩
        · refine hΘb _ w w' (hΘ _ _ w (fun k hk hkp hkS=> ?_) hT) hbel;exact(Zak _ _ _ _ (fun e=>hkS (by rw[Zbo G.nodup hk hin e];exact hiS))).symm
        · by_cases hki:k=i
          · subst hki;rw[ZaB _ _ _ hdz];exact⟨w',hphi,fun _=>rfl⟩
          · rw[Zak _ _ _ _ (fun e=>hki (Zbo G.nodup hk hin e))];obtain⟨w1,h1,h2⟩:=hF k hk hkp ((Zag hkl).resolve_left hki);by_cases hkS:k∈S
            · obtain rfl:=h2 hkS;exact⟨w',hΦ k _ _ _ h1 hbel,fun _=>rfl⟩
            · exact⟨w1,h1,fun h=>absurd h hkS⟩
  · rintro l a w ⟨hls,hAD,hasz,hadf,hcl,hbw,hV⟩ hr;have hall:=Zcf (by rw[hls,G.size]) G.back hr;have hp:=hall p (by rw[G.size];exact G.lt);rcases hV with⟨hnl,_⟩|⟨_,hT,hF⟩
    · rw[hp]at hnl;cases hnl
    · rw[ZdB hAD hasz hadf];exact hend (fun t=>a.eval (.tmp t)) w hT fun k hk hkp=>hF k hk hkp (hall k (by rw[G.size];exact hk))
end
section
variable {P: Program}{Q: Exit -> Act -> World -> Prop}
theorem ZaZ{o:Oper}{a:Act}{w:World}{k:Nat}{Φ:Nat->Value->World->Prop}{K:Act->World->Prop}(hK:∀v w',Φ k v w'->Below w.heap.size w w'->K (a.put o.dst v) w'){ρ:Operand->Value}(hρ:a.eval=ρ)(v:Value)(w':World)(hr:(Yae ρ o).run P w=.ok (.value v) w')(hv:Φ k v w')(hb:Below w.heap.size w w'):o.wp P a w K Q:=by subst hρ;unfold Z0;rw[hr,ZN];exact hK v w' hv hb
end
end Go.Proofs.YtfahabphncmbfaaGreatDoor
