import Derived.Test.YtngdbbligebcbabGreatDoorZSchedGrahamMath
set_option linter.unusedVariables false
namespace Go.Proofs.YtngdbbligebcbabGreatDoor
structure Tkr where
 steal:Bool
 at_:Int
 top:Int
 bot:Int
 got:Int
 end_:Int
def newTk(s:Bool):Tkr:=⟨s,0,0,0,0,0⟩
def placeD(R:List Int)(k:Int):Int:=R.getD ((if k<0 then 0 else k).toNat%R.length) 0
def ownerD(R:List Int)(T B:Int)(t:Tkr):Int×Int×Tkr:=
 if t.at_=0 then(T,B - 1,{t with bot:=B - 1,at_:=1})
 else if t.at_=1 then
  if T<t.bot then(T,B,{t with top:=T,got:=placeD R t.bot,end_:=1})
  else if T=t.bot then(T,B,{t with top:=T,at_:=2})
  else(T,B,{t with top:=T,at_:=3})
 else if t.at_=2 then
  if T=t.top then(T+1,B,{t with got:=placeD R t.bot,at_:=4})
  else(T,B,{t with at_:=3})
 else(T,t.bot+1,{t with end_:=if t.at_=3 then 2 else 1})
def thiefD(R:List Int)(T B:Int)(t:Tkr):Int×Int×Tkr:=
 if t.at_=0 then(T,B,{t with top:=T,at_:=1})
 else if t.at_=1 then
  if B<=t.top then(T,B,{t with bot:=B,end_:=2})
  else(T,B,{t with bot:=B,at_:=2})
 else if t.at_=2 then(T,B,{t with got:=placeD R t.top,at_:=3})
 else if T=t.top then(T+1,B,{t with end_:=1})
 else(T,B,{t with got:=0,end_:=3})
def moveD(R:List Int)(T B:Int)(t:Tkr):Int×Int×Tkr:=if t.steal then thiefD R T B t else ownerD R T B t
def itemsD(R:List Int)(T V:Int):List Int:=(List.range (V - T).toNat).map fun(k:Nat)=>placeD R (T+k)
section
variable {R: List Int} {T V: Int}
theorem itemsD_len:(itemsD R T V).length=(V - T).toNat:=by simp[itemsD]
theorem itemsD_empty(h:V<=T):itemsD R T V= []:=by
 unfold itemsD;rw[show(V - T).toNat=0 by omega];rfl
theorem itemsD_first(h:T<V):itemsD R T V=placeD R T::itemsD R (T+1) V:=by
 unfold itemsD;rw[show(V - T).toNat=(V - (T+1)).toNat+1 by omega,List.range_succ_eq_map,List.map_cons,List.map_map]
 congr 1
 ·simp
 ·refine List.map_congr_left fun k _ => ?_
  show placeD R (T+((k+1:Nat):Int))=placeD R (T+1+(k:Int))
  congr 1
  omega
theorem itemsD_last(h:T<V):itemsD R T V=itemsD R T (V - 1)++ [placeD R (V - 1)]:=by
 unfold itemsD;rw[show(V - T).toNat=(V - 1 - T).toNat+1 by omega,List.range_succ,List.map_append,List.map_cons,List.map_nil]
 congr 3
 omega
theorem mod_ne{n a b:Nat}(h1:a<b)(h2:b - a<n):a%n≠b%n:=by
 intro h;have h3:=Nat.div_add_mod a n;have h4:=Nat.div_add_mod b n;rw[h]at h3;rcases Nat.lt_or_ge (a/n) (b/n)with h5|h5
 ·have h6: n * (a / n + 1) <= n * (b / n):=Nat.mul_le_mul_left n h5
  rw[Nat.mul_add,Nat.mul_one]at h6;omega
 ·have h6: n * (b / n) <= n * (a / n):=Nat.mul_le_mul_left n h5
  omega
theorem placeD_set{k B v:Int}(hk:0<=k)(hB:k<B)(hn:B - k<R.length):placeD (R.set (B.toNat%R.length) v) k=placeD R k:=by
 unfold placeD;rw[List.length_set,if_neg (by omega)]
 have h1:=mod_ne (n:=R.length) (a:=k.toNat) (b:=B.toNat) (by omega) (by omega)
 rw[List.getD_eq_getElem?_getD,List.getElem?_set_ne (Ne.symm h1),<-List.getD_eq_getElem?_getD]
theorem placeD_set_at{B v:Int}(hB:0<=B)(hn:0<R.length):placeD (R.set (B.toNat%R.length) v) B=v:=by
 unfold placeD;rw[List.length_set,if_neg (by omega),List.getD_eq_getElem?_getD,List.getElem?_set_self (Nat.mod_lt _ hn)];rfl
theorem itemsD_push{B v:Int}(h0:0<=T)(h1:T<=B)(h2:B - T<R.length):itemsD (R.set (B.toNat%R.length) v) T (B+1)=itemsD R T B++ [v]:=by
 rw[itemsD_last (by omega),show B+1 - 1=B by omega,placeD_set_at (by omega) (by omega)]
 congr 1
 unfold itemsD;refine List.map_congr_left fun k hk=> ?_
 rw[List.mem_range]at hk;exact placeD_set (by omega) (by omega) (by omega)
end
def setT(tk:Nat->Tkr)(k:Nat)(t:Tkr):Nat->Tkr:=fun j=>if j=k then t else tk j
def virD(B:Int)(o:Tkr):Int:=if o.at_=0 then B else B+1
def handD(o:Tkr):List Int:=if o.at_=4 then [o.got]else []
def OwnerOk(T B:Int)(o:Tkr):Prop:=o.steal=false/\o.end_=0/\(0<=o.top/\o.top<=T)/\
 (o.at_=0\/(o.bot=B/\(o.at_=1\/(o.at_=2/\o.top=B/\B<=T)\/(o.at_=3/\T=B+1)\/(o.at_=4/\T=B+1))))
def ThiefOk(R:List Int)(T V P:Int)(t:Tkr):Prop:=t.steal=true/\t.end_=0/\(0<=t.at_/\t.at_<=3)/\(1<=t.at_->0<=t.top/\t.top<=T)/\(-1<=t.bot/\t.bot<=P)/\
 (2<=t.at_->t.top=T->T<V)/\(t.at_=3->t.top=T->t.got=placeD R T)
theorem thief_mk{R:List Int}{T V P a top bot g:Int}(h0:0<=a)(h3:a<=3)(ht:1<=a->0<=top/\top<=T)(hb: -1<=bot/\bot<=P)(hv:2<=a->top=T->T<V)(hg:a=3->top=T->g=placeD R T):ThiefOk R T V P ⟨true,a,top,bot,g,0⟩:=
 ⟨rfl,rfl,⟨h0,h3⟩,ht,hb,hv,hg⟩
theorem thief_new(R:List Int)(T V P:Int)(h:0<=P):ThiefOk R T V P (newTk true):=thief_mk (by decide) (by decide) (fun h=>absurd h (by decide)) ⟨by decide,h⟩ (fun h=>absurd h (by decide)) (fun h=>absurd h (by decide))
section
variable {n: Nat} {R: List Int} {T B: Int} {tk: Nat -> Tkr} {got: List Int} {P: Nat}
theorem count_one(l:List Int)(x y:Int):(l++ [y]).count x=l.count x+if y=x then 1 else 0:=by
 rw[List.count_append,List.count_singleton];simp only[beq_iff_eq]
theorem ThiefOk.late{V V' P:Int}{t:Tkr}(h:ThiefOk R T V P t):ThiefOk R (T+1) V' P t:=by
 obtain⟨t1,t2,t3,t4,tb,t5,t6⟩:=h;exact⟨t1,t2,t3,fun q=>⟨(t4 q).1,by have:=(t4 q).2;omega⟩,tb,fun q e=>by have:=(t4 (by omega)).2;omega,fun q e=>by have:=(t4 (by omega)).2;omega⟩
theorem ThiefOk.less{V V' P:Int}{t:Tkr}(h:ThiefOk R T V P t)(hV:T<V->T<V'):ThiefOk R T V' P t:=by
 obtain⟨t1,t2,t3,t4,tb,t5,t6⟩:=h;exact⟨t1,t2,t3,t4,tb,fun q e=>hV (t5 q e),t6⟩
def nextT(t:Tkr):Tkr:=if t.end_=0 then t else newTk t.steal
theorem owner_mk{T B a top bot g:Int}(ht:0<=top/\top<=T)(h:a=0\/(bot=B/\(a=1\/(a=2/\top=B/\B<=T)\/(a=3/\T=B+1)\/(a=4/\T=B+1)))):OwnerOk T B ⟨false,a,top,bot,g,0⟩:=⟨rfl,rfl,ht,h⟩
end
end Go.Proofs.YtngdbbligebcbabGreatDoor
