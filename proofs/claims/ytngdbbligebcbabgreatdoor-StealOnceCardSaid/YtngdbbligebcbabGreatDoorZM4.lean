import Derived.Test.YtngdbbligebcbabGreatDoorZM2
import Derived.Test.YtngdbbligebcbabGreatDoorZM3
import Derived.Test.YtngdbbligebcbabGreatDoorChecked
import Derived.Test.YtngdbbligebcbabGreatDoorZM1
import Derived.WalkSmall
import Derived.WalkKit
import Derived.Handy
import Derived.KernelRfl
import Derived.Below
import Derived.BigQuiet
import Derived.Deep.QuietTactic
import Derived.Lib.Hide
set_option linter.unusedVariables false
namespace Go.Proofs.YtngdbbligebcbabGreatDoor
section
variable {n: Nat} {E: List (Int × Int)} {O L: List Int}
theorem idx_once{l:List Int}{x:Int}(h:l.count x<=1){c j:Nat}(hc:l[c]? =some x)(hj:l[j]? =some x):c=j:=by
 have part: ∀a b:Nat,a<b->l[a]? =some x->l[b]? =some x->False:=by
  intro a b hab ha hb;have h1:l=l.take b++l.drop b:=(List.take_append_drop b l).symm;have h2:x∈l.take b:=by
   rw[List.mem_iff_getElem?]
   exact⟨a,by rw[List.getElem?_take,if_pos hab];exact ha⟩
  have h3:x∈l.drop b:=by
   rw[List.mem_iff_getElem?]
   exact⟨0,by rw[List.getElem?_drop];exact hb⟩
  have h4:=List.count_pos_iff.mpr h2;have h5:=List.count_pos_iff.mpr h3;have h6:l.count x=(l.take b).count x+(l.drop b).count x:=by rw[<-List.count_append,List.take_append_drop]
  omega
 rcases Nat.lt_trichotomy c j with h1|h1|h1
 ·exact(part c j h1 hc hj).elim
 ·exact h1
 ·exact(part j c h1 hj hc).elim
theorem getD_idx{l:List Int}{c:Nat}{x d:Int}(hc:c<l.length)(h:l.getD c d=x):l[c]? =some x:=by
 rw[List.getD_eq_getElem?_getD,List.getElem?_eq_getElem hc]at h
 rw[List.getElem?_eq_getElem hc]
 exact congrArg some h
theorem getD_any{l:List Int}{c:Nat}(hc:c<l.length)(d d':Int):l.getD c d=l.getD c d':=by
 rw[List.getD_eq_getElem?_getD,List.getD_eq_getElem?_getD,List.getElem?_eq_getElem hc];rfl
theorem CrewOk.someone(h:CrewOk n E O L)(hF:Fits n E)(hA:Acyc E){m:Nat}(hm:m<n)(hl:0<leftC L (m:Int)): ∃x∈fillC n E L O,x≠ -1:=by
 apply Classical.byContradiction
 intro hno;have hall: ∀x∈fillC n E L O,x= -1:=fun x hx=>Classical.byContradiction fun q=>hno ⟨x,hx,q⟩
 have hlen:=fillC_len n E L O;have hlo:=h.lo;have hin:(-1:Int)∈fillC n E L O:=by
  have h0:0<(fillC n E L O).length:=by omega
  have h1:=List.getElem_mem h0
  rwa [hall _ h1]at h1
 have hr:readyU n E (fillC n E L O) L= []:=by
  rcases fillC_full (n:=n) (E:=E) (L:=L) (O:=O)with h1|h1
  ·exact h1
  ·exact absurd hin h1
 obtain⟨v,⟨hv,hvl⟩,hva⟩:=source hF hA (fun x=>x<n/\0<leftC L (x:Int)) m ⟨hm,hl⟩
 have:v∈readyU n E (fillC n E L O) L:=by
  refine mem_readyU.mpr ⟨hv,hvl,fun hx=>by have:=hall _ hx;omega,fun e he e2 hp=> ?_⟩
  obtain⟨h1,h2,_,_⟩:=hF e he;obtain⟨a,ha⟩: ∃a:Nat,e.1=a:=⟨e.1.toNat,by omega⟩
  have h3:ed E a v:=by
   show((a:Int),(v:Int))∈E
   rw[<-ha,<-e2];exact he
  rw[ha]at hp;exact hva a h3 ⟨by omega,hp⟩
 rw[hr]at this;exact absurd this (by simp)
theorem sum_range_le{f g:Nat->Int}: ∀k,(∀x,x<k->g x<=f x)->((List.range k).map g).sum<=((List.range k).map f).sum
  |0,_=>Int.le_refl _
  | k + 1, h => by
    have ih:=sum_range_le k fun x hx=>h x (by omega)
    have h1:=h k (by omega)
    rw[List.range_succ,List.map_append,List.map_append,List.sum_append,List.sum_append];simp only[List.map_cons,List.map_nil,List.sum_cons,List.sum_nil];omega
theorem sum_range_lt{f g:Nat->Int}: ∀k,(∀x,x<k->g x<=f x)->(∃x,x<k/\g x<f x)->((List.range k).map g).sum<((List.range k).map f).sum
  |0,_,h=>by obtain⟨x,hx,_⟩:=h;omega
  | k + 1, h, hx => by
    have h1:=h k (by omega)
    have ih:=sum_range_le k fun x hx=>h x (by omega)
    obtain⟨x,hxk,hlt⟩:=hx;rw[List.range_succ,List.map_append,List.map_append,List.sum_append,List.sum_append];simp only[List.map_cons,List.map_nil,List.sum_cons,List.sum_nil];rcases Nat.lt_or_ge x k with h2|h2
    · have:=sum_range_lt k (fun x hx=>h x (by omega)) ⟨x,h2,hlt⟩
      omega
    · obtain rfl:x=k:=by omega
      omega
theorem list_range(L:List Int):L=(List.range L.length).map fun(x:Nat)=>leftC L (x:Int):=by
 refine List.ext_getElem? fun i=> ?_
 rw[List.getElem?_map]
 rcases Nat.lt_or_ge i L.length with h|h
 ·rw [List.getElem?_range h,List.getElem?_eq_getElem h]
  show _=some (leftC L (i:Int))
  rw[leftC_nat,List.getD_eq_getElem?_getD,List.getElem?_eq_getElem h];rfl
 ·rw[List.getElem?_eq_none h,List.getElem?_eq_none (by simpa using h)];rfl
theorem CrewOk.less(h:CrewOk n E O L)(hF:Fits n E){x:Int}(hx:x∈O)(h1:x≠ -1):(leftT O L).sum<L.sum:=by
 have e:L.sum=((List.range L.length).map fun(x:Nat)=>leftC L (x:Int)).sum:=by rw[<-list_range L]
 rw[e];show((List.range L.length).map fun(x:Nat)=>leftC L (x:Int) - if(x:Int)∈O then 1 else 0).sum<_
 refine sum_range_lt _ (fun y _=> ?_) ?_
 ·show leftC L (y: Int) - (if (y: Int) ∈ O then 1 else 0) <= leftC L (y: Int)
  split<;>omega
 ·rcases h.on x hx with h2 | ⟨⟨h2,h3⟩,_⟩
  ·exact absurd h2 h1
  ·obtain ⟨m,rfl⟩: ∃ m: Nat,x = m:=⟨x.toNat,by omega⟩
   refine⟨m,by have:=h.ln;omega,?_⟩
   show leftC L (m:Int) - (if(m:Int)∈O then 1 else 0)<leftC L (m:Int)
   rw[if_pos hx];omega
theorem sum_pos_some: ∀{l:List Int},0<l.sum-> ∃m,m<l.length/\0<leftC l (m:Int)
  | [],h=>by simp at h
  | a :: l, h => by
    rw[List.sum_cons]at h
    by_cases ha:0<a
    · exact⟨0,by simp,by rw[leftC_nat];exact ha⟩
    · obtain⟨m,h1,h2⟩:=sum_pos_some (l:=l) (by omega)
      refine⟨m+1,by simpa using h1,?_⟩
      rw[leftC_nat]at h2⊢
      simpa using h2
theorem sum_nonneg': ∀{l:List Int},(∀z∈l,0<=z)->0<=l.sum
  | [],_=>by simp
  | a :: l, h => by
    have:=sum_nonneg' (l:=l) fun z hz=>h z (List.mem_cons_of_mem _ hz)
    have:=h a List.mem_cons_self;rw[List.sum_cons];omega
theorem new_ok{need:List Int}{cores:Nat}(hn: ∀z∈need,1<=z/\z<=1000)(h1:1<=cores)(h8:cores<=8)(hl:need.length=n):CrewOk n E (List.replicate cores (-1)) need:=by
 refine⟨by simpa using h1,by simpa using h8,hl,fun z hz=>by have:=hn z hz;omega,fun x hx h0=> ?_,fun x hx=> .inl (List.eq_of_mem_replicate hx),fun x hx=> ?_⟩
 ·have:=hn _ (leftC_mem (L:=need) (x:=x) (by omega))
  omega
 ·rw [List.count_eq_zero.mpr fun h => hx (List.eq_of_mem_replicate h)]
  omega
theorem least_nat{p:Nat->Prop} [DecidablePred p]: ∀k,p k-> ∃j,j<=k/\p j/\ ∀i,i<j-> ¬p i
  |0,h=>⟨0,Nat.le_refl _,h,fun i hi=>by omega⟩
  | k + 1, h => by
    by_cases h1: ∃j,j<=k/\p j
    · obtain⟨j,h2,h3⟩:=h1;obtain⟨i,h4,h5,h6⟩:=least_nat j h3;exact⟨i,by omega,h5,h6⟩
    · exact⟨k+1,Nat.le_refl _,h,fun i hi q=>h1 ⟨i,by omega,q⟩⟩
end
def visG(m:Nat)(g:Gng):Prop:=∃ j,j<m/\g.T j<g.B j
instance (m:Nat) (g:Gng):Decidable (visG m g):=by
 unfold visG;exact decidable_of_iff (∃j:Fin m,g.T j.1<g.B j.1) ⟨fun⟨j,h⟩=>⟨j.1,j.2,h⟩,fun⟨j,hj,h⟩=>⟨⟨j,hj⟩,h⟩⟩
def wantsG(m:Nat)(g:Gng):List Nat:=(List.range m).filter fun c=>decide (g.O.getD c 0= -1/\((g.tk c).at_≠0\/visG m g))
theorem mem_wants{m:Nat}{g:Gng}{c:Nat}:c∈wantsG m g↔c<m/\g.O.getD c 0= -1/\((g.tk c).at_≠0\/visG m g):=by
 unfold wantsG;rw[List.mem_filter,List.mem_range,decide_eq_true_iff]
def aboveG(l:List Nat)(last:Int):Nat:=(l.find? fun(c:Nat)=>decide (last<(c:Int))).getD (l.getD 0 0)
def pickG(l:List Nat)(picks:List Int)(k:Nat)(last:Int):Nat:=
 if k<picks.length then l.getD ((max (picks.getD k 0) 0).toNat%l.length) 0 else aboveG l last
def calmS(m:Nat)(g:Gng)(picks:List Int):Nat->Gng×Int
 |0=>(g,-1)
 |k+1=>(stepG m (calmS m g picks k).1 (pickG (wantsG m (calmS m g picks k).1) picks k (calmS m g picks k).2),(pickG (wantsG m (calmS m g picks k).1) picks k (calmS m g picks k).2:Int))
def lenC(m:Nat)(g:Gng)(picks:List Int):Nat:=((List.range (m * (m * (4 * m+4)+4 * m)+1)).find? fun k=>decide (wantsG m (calmS m g picks k).1= [])).getD 0
def calmG(m:Nat)(g:Gng)(picks:List Int):Gng:=(calmS m g picks (lenC m g picks)).1
section
variable {n m: Nat} {E: List (Int × Int)} {L: List Int} {g: Gng} {c: Nat} {picks: List Int}
theorem above_mem{l:List Nat}(h:l≠ [])(last:Int):aboveG l last∈l:=by
  unfold aboveG;cases hf:l.find? fun(c:Nat)=>decide (last<(c:Int))with
  |some x=>exact List.mem_of_find?_eq_some hf
  | none =>
    match l,h with
    |x::r,_=>exact List.mem_cons_self
theorem pick_mem{l:List Nat}(h:l≠ [])(picks:List Int)(k:Nat)(last:Int):pickG l picks k last∈l:=by
 unfold pickG
 split
 ·have hl: 0 < l.length:=List.length_pos_iff.mpr h
  have h1:=Nat.mod_lt (max (picks.getD k 0) 0).toNat hl;rw[List.getD_eq_getElem?_getD,List.getElem?_eq_getElem h1]
  exact List.getElem_mem h1
 ·exact above_mem h last
structure CalmInv(n m:Nat)(E:List (Int×Int))(L:List Int)(g:Gng)(picks:List Int)(k:Nat):Prop where
 ok:GOk n m E L (calmS m g picks k).1
 len0:g.O.length=m
 keep: ∀c,c<m->g.O.getD c 0≠ -1->(calmS m g picks k).1.O.getD c 0=g.O.getD c 0
 from_: ∀x∈(calmS m g picks k).1.O,x∈g.O\/ ∃y:Nat,x=y/\y<n/\ReadyC E g.O L y
 mu: ∃a s,GhOk m (calmS m g picks k).1 a s/\muG m (calmS m g picks k).1 a s+k<=m * (m * (4 * m+4)+4 * m)
theorem CalmInv.start(h:GOk n m E L g)(h0: ∀c,c<m->(g.tk c).at_=0):CalmInv n m E L g picks 0:=
 ⟨h,h.ol,fun _ _ _=>rfl,fun x hx=> .inl hx,_,_,GhOk.start h0,by have:=muG_start h0;show muG m g _ _+0<=_;omega⟩
theorem CalmInv.next{k:Nat}(h:CalmInv n m E L g picks k)(hw:wantsG m (calmS m g picks k).1≠ []):CalmInv n m E L g picks (k+1):=by
 obtain⟨ok,len0,keep,from_,a,s,gh,hmu⟩:=h;obtain⟨q,hq⟩: ∃q,q=(calmS m g picks k).1:=⟨_,rfl⟩;obtain⟨c,hc⟩: ∃c,c=pickG (wantsG m (calmS m g picks k).1) picks k (calmS m g picks k).2:=⟨_,rfl⟩;have hS:(calmS m g picks (k+1)).1=stepG m q c:=by rw[hq,hc];rfl
 have hm:=pick_mem hw picks k (calmS m g picks k).2;rw[<-hc,<-hq]at hm;rw[<-hq]at ok keep from_ gh hmu;obtain⟨h1,h2,h3⟩:=mem_wants.mp hm;have hcl:c<q.O.length:=by rw[ok.ol];exact h1
 obtain⟨hg,hok⟩:=ok.step h1 h2;obtain⟨a',s',gh',hmu'⟩:=ok.less gh h1 h2 h3;refine⟨by rw[hS];exact hok,len0,fun i hi hne=> ?_,fun x hx=> ?_,a',s',by rw[hS];exact gh',by rw[hS];omega⟩
 ·rw [hS]
  have hic:i≠c:=by
   rintro rfl;rw[<-keep i hi hne]at hne;exact hne h2
  rw[step_O_ne hic];exact keep i hi hne
 ·rw [hS] at hx
  have hx':x∈(if(resG m q c).2.2.end_=1 then q.O.set c (resG m q c).2.2.got else q.O):=hx
  split at hx'
  ·next he =>
   obtain⟨y,e1,e2,e3⟩:=hg he;rw[e1]at hx';rcases mem_set_ready hx' with h4|rfl
   ·exact from_ x h4
   ·refine .inr ⟨y,rfl,e2,e3.1,fun hy => e3.2.1 ?_,e3.2.2⟩
    obtain⟨j,hj,he2⟩:=List.getElem_of_mem hy;have h4:g.O.getD j 0=(y:Int):=by rw[List.getD_eq_getElem?_getD,List.getElem?_eq_getElem hj];exact he2
    by_cases hjm:j<m
    ·have h5:=keep j hjm (by omega)
     rw[h4]at h5;have h6:j<q.O.length:=by rw[ok.ol];exact hjm
     rw[List.getD_eq_getElem?_getD,List.getElem?_eq_getElem h6]at h5
     have h7:q.O[j]=(y:Int):=h5;rw[<-h7];exact List.getElem_mem h6
    ·omega
  ·exact from_ x hx'
theorem CalmInv.upto(h:GOk n m E L g)(h0: ∀c,c<m->(g.tk c).at_=0): ∀k,(∀j,j<k->wantsG m (calmS m g picks j).1≠ [])->CalmInv n m E L g picks k
 |0,_=>CalmInv.start h h0
 |k+1,hw=>(CalmInv.upto h h0 k fun j hj=>hw j (by omega)).next (hw k (by omega))
theorem calm_spec(h:GOk n m E L g)(h0: ∀c,c<m->(g.tk c).at_=0):
  wantsG m (calmG m g picks)= []/\(∀j,j<lenC m g picks->wantsG m (calmS m g picks j).1≠ [])/\lenC m g picks<=m * (m * (4 * m+4)+4 * m)/\CalmInv n m E L g picks (lenC m g picks):=by
 obtain⟨M,hM⟩: ∃M,M=m * (m * (4 * m+4)+4 * m):=⟨_,rfl⟩;have hex: ∃k,k<=M/\wantsG m (calmS m g picks k).1= []:=by
  by_cases h2: ∃k,k<=M/\wantsG m (calmS m g picks k).1= []
  ·exact h2
  ·exfalso
   have hw: ∀j,j<M+1->wantsG m (calmS m g picks j).1≠ []:=fun j hj q=>h2 ⟨j,by omega,q⟩
   obtain⟨_,_,_,_,a,s,_,hmu⟩:=CalmInv.upto h h0 (M+1) hw;rw[<-hM]at hmu;omega
 obtain⟨k,hk,hs⟩:=hex;obtain⟨j,hj,hs2,hmin⟩:=least_nat (p:=fun k=>wantsG m (calmS m g picks k).1= []) k hs
 have he:lenC m g picks=j:=by
  unfold lenC;rw[find_least (k:=j) (by simpa using hs2) (by rw[<-hM];omega) (fun i hi=>by have:=hmin i hi;simpa using this)]
  rfl
 refine⟨?_,?_,?_,?_⟩
 ·unfold calmG;rw[he];exact hs2
 ·rw[he];exact fun i hi=>hmin i hi
 ·rw[he,<-hM];omega
 ·rw[he];exact CalmInv.upto h h0 j fun i hi=>hmin i hi
theorem calm_most(m1:1<=m):m * (m * (4 * m+4)+4 * m)<=8 * m * m * (m+1):=by
 obtain⟨q,hq⟩: ∃q,q=m * m:=⟨_,rfl⟩;obtain⟨p,hp⟩: ∃p,p=q * (m+1):=⟨_,rfl⟩;have e1:m * (m * (4 * m+4)+4 * m)=4 * p+4 * q:=by
  rw[Nat.mul_add,<-Nat.mul_assoc,<-hq,show 4 * m+4=4 * (m+1) by omega,Nat.mul_left_comm q 4,<-hp,Nat.mul_left_comm m 4,<-hq]
 have e2:8 * m * m * (m+1)=8 * p:=by rw[Nat.mul_assoc 8 m m,<-hq,Nat.mul_assoc,<-hp]
 have e3:q * 1<=q * (m+1):=Nat.mul_le_mul_left _ (by omega)
 rw[e1,e2];omega
theorem quiet_spec(h:GOk n m E L g)(hw:wantsG m g= []):(∀c,c<m->(g.tk c).at_=0)/\(readyU n E g.O L= []\/(-1)∉g.O):=by
 have h1: ∀c,c<m->g.O.getD c 0= -1->(g.tk c).at_=0/\ ¬visG m g:=fun c hc hi=>by
  have h2:c∉wantsG m g:=by rw[hw];simp
  rw[mem_wants]at h2;constructor
  ·exact Classical.byContradiction fun q=>h2 ⟨hc,hi,.inl q⟩
  ·exact fun q=>h2 ⟨hc,hi,.inr q⟩
 have h3: ∀c,c<m->(g.tk c).at_=0:=fun c hc=>by
  by_cases hi:g.O.getD c 0= -1
  ·exact(h1 c hc hi).1
  ·rw[(h.busy c hc hi).2];rfl
 refine⟨h3,?_⟩
 by_cases hm:(-1:Int)∈g.O
 ·left
  obtain⟨c,hc,he⟩:=List.getElem_of_mem hm;have hcm:c<m:=by rw[<-h.ol];exact hc
  have hi:g.O.getD c 0= -1:=by rw[List.getD_eq_getElem?_getD,List.getElem?_eq_getElem hc];exact he
  have hv:=(h1 c hcm hi).2;have hz: ∀x:Int,sumN (fun j=>lftG g j x) m=0:=fun x=>by
   rw[<-sumN_zero m];refine sumN_congr fun j hj=> ?_
   have ha:(owG g j).at_=0:=by
    unfold owG
    split
    ·exact h3 j hj
    ·rfl
   have hb: ¬g.T j<g.B j:=fun q=>hv ⟨j,hj,q⟩
   unfold lftG lftD virD handD;rw[if_pos ha,if_neg (by rw[ha];decide),itemsD_empty (by omega)]
   rfl
  apply List.eq_nil_iff_forall_not_mem.mpr
  intro x hx;obtain⟨hxn,hr⟩:=mem_readyU.mp hx;have h4:=h.once (x:Int);rw[hz,if_pos ⟨⟨by omega,by omega⟩,by rw[Int.toNat_natCast];exact hr⟩]at h4
  omega
 ·exact .inr hm
end
end Go.Proofs.YtngdbbligebcbabGreatDoor
namespace Go.Proofs.YtngdbbligebcbabGreatDoor
open Go.RowKit
def OwnI(w:World)(base:Nat)(v:Value)(zs:List Int):Prop:=w.ownsRow base 3 1 v zs.length (zs.map (Value.int .i64))
theorem OwnI.new(w:World)(base:Nat)(hb:base<=w.heap.size):OwnI (w.alloc (.cells #[] 3)) base (.slice (some ⟨w.heap.size,0,none⟩) 0 0) []:=
 ⟨rfl,.inr ⟨w.heap.size,0,#[],rfl,hb,heap_alloc_new w _,Nat.le_refl _,by simp[maxLen],rfl,rfl⟩⟩
theorem OwnI.below{w w':World}{base:Nat}{v:Value}{zs:List Int}(h:OwnI w base v zs)(hb:Below w.heap.size w w'):OwnI w' base v zs:=by
 refine⟨h.1,?_⟩
 rcases h.2 with hn|⟨g,cap,cur,rfl,hg,hgg,rest⟩
 ·exact .inl hn
 ·exact .inr ⟨g,cap,cur,rfl,hg,by rw[hb.block g (Array.getElem?_eq_some_iff.1 hgg).1];exact hgg,rest⟩
theorem OwnI.alloc{w:World}{base:Nat}{v:Value}{zs:List Int}(h:OwnI w base v zs)(o:Obj):OwnI (w.alloc o) base v zs:=h.below (below_alloc o)
theorem OwnI.slice{w:World}{base:Nat}{v:Value}{zs:List Int}(h:OwnI w base v zs): ∃A c,v= .slice A zs.length c/\Ints w w.heap.size A zs:=Ints.of_own h
theorem int_cell_info:(Tryz.prog.info? 3).map (fun i=>(i.zero,i.size,i.bytes))=some (some (.int .i64 0),1,8):=by kernel_rfl
theorem wpList_push{ops:Array Oper}{rest:List Oper}{o:Oper}{a:Act}{Q:Exit->Act->World->Prop}(hgd:o.guard=none)(s x:Operand)
    (ho:o.op= .call {callee:= .builtin .append,args:= #[s,x],argTypes:= #[22,22]})
    (w1:World) (base:Nat) (v:Value) (zs:List Int) (n:Int) (len:Nat) (hlen:zs.length=len) (hl:len<=1000) (hO:OwnI w1 base v zs) (hB:base<=w1.heap.size)
    (hs:a.eval s=v) (hx:a.eval x= .slice (some ⟨w1.heap.size,0,none⟩) 1 1)
    (h: ∀A' c' w',OwnI w' base (.slice A' (len+1) c') (zs++ [n])->Below base w1 w'->wpList Tryz.prog ops Q rest (a.put o.dst (.slice A' (len+1) c')) w'):wpList Tryz.prog ops Q (o::rest) a (w1.alloc (.cells #[.int .i64 n] 3)):=by
  obtain⟨i0,hi0,hz0,hz1,hz2⟩: ∃i,Tryz.prog.info? 3=some i/\i.zero=some (.int .i64 0)/\i.size=1/\i.bytes=8:=by
    have h:=int_cell_info;cases hi:Tryz.prog.info? 3 with
    |none=>rw[hi]at h;cases h
    | some i =>
      rw[hi]at h;simp at h;exact⟨i,rfl,h.1,h.2.1,h.2.2⟩
  subst hlen;refine wpList_append_own _ hgd s x 22 ho base 3 i0 (.int .i64 0) 1 8 Tryz.underlying22 hi0 hz0 hz1 hz2 rfl (by omega) v zs.length (zs.map (Value.int .i64)) hs (hO.alloc _) ⟨w1.heap.size,0,none⟩ 1 1 [.int .i64 n] hx rfl ?_ ?_
    (by unfold maxLen;omega) (by omega) (by simp;omega) ?_
  · intro j u hu
    match j with
    | 0 =>
      obtain rfl:Value.int .i64 n=u:=by simpa using hu
      rw[addr_add,World.cell?_alloc_at _ _ _ _ rfl]
      rfl
    |j+1=>simp at hu
  · intro u hu;obtain rfl:u= .int .i64 n:=by simpa using hu
    rfl
  · intro v' w' hown' hg _;have hO':OwnI w' base v' (zs++ [n]):=by
      unfold OwnI;rw[List.length_append,List.length_singleton,List.map_append];exact hown'
    obtain⟨A',c',rfl,_⟩:=hO'.slice;rw[show(zs++ [n]).length=zs.length+1 by simp]at hO'⊢
    refine h A' c' w' hO' (((Below.refl base w1).alloc hB _).grown hg (by simp;omega) (fun k hk=> ?_))
    exact(hO.lt k hk).1
def Pairs(w:World)(B:Nat)(A:Option Addr)(es:List (Int×Int)):Prop:=
 0<es.length-> ∃b off,A=some ⟨b,off,none⟩/\b<B/\ ∀k e,es[k]? =some e->w.cell? ⟨b,off+k * 2,none⟩=some (.int .i64 e.1)/\w.cell? ⟨b,off+k * 2+1,none⟩=some (.int .i64 e.2)
theorem Pairs.at_{w:World}{B:Nat}{A:Option Addr}{es:List (Int×Int)}{k:Nat}(h:Pairs w B A es)(hk:k<es.length):
  ∃b off e,A=some ⟨b,off,none⟩/\b<B/\es[k]? =some e/\w.cell? ⟨b,off+k * 2,none⟩=some (.int .i64 e.1)/\w.cell? ⟨b,off+k * 2+1,none⟩=some (.int .i64 e.2):=by
 obtain⟨b,off,e,hb,hc⟩:=h (by omega)
 have he:es[k]? =some es[k]:=List.getElem?_eq_getElem hk
 exact⟨b,off,es[k],e,hb,he,(hc k _ he).1,(hc k _ he).2⟩
theorem Pairs.keep{w w':World}{B:Nat}{A:Option Addr}{es:List (Int×Int)}(h:Pairs w B A es)(hk: ∀p:Addr,p.block<B->w'.cell? p=w.cell? p):Pairs w' B A es:=fun hn=>by
 obtain⟨b,off,e,hb,hc⟩:=h hn;exact⟨b,off,e,hb,fun k x hx=>⟨(hk _ hb).trans (hc k x hx).1,(hk _ hb).trans (hc k x hx).2⟩⟩
theorem Pairs.more{w:World}{B B':Nat}{A:Option Addr}{es:List (Int×Int)}(h:Pairs w B A es)(hB:B<=B'):Pairs w B' A es:=fun hn=>by
 obtain⟨b,off,e,hb,hc⟩:=h hn;exact⟨b,off,e,by omega,hc⟩
theorem Pairs.below{w w':World}{B:Nat}{A:Option Addr}{es:List (Int×Int)}(h:Pairs w B A es)(hb:Below B w w'):Pairs w' B A es:=h.keep fun _ hp=>hb.cell hp
theorem Pairs.alloc{w:World}{B:Nat}{A:Option Addr}{es:List (Int×Int)}(h:Pairs w B A es)(hB:B<=w.heap.size)(o:Obj):Pairs (w.alloc o) B A es:=
 h.keep fun p hp=>World.cell?_alloc_lt w o p (by omega)
end Go.Proofs.YtngdbbligebcbabGreatDoor
