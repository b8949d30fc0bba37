import Derived.Test.YtfahabphncmbfaaGreatDoorZQ19
set_option linter.all false
namespace Go.Proofs.YtfahabphncmbfaaGreatDoor
open Int renaming le_refl→ZX
open List renaming count→Ye,count_nil→Y5,getD_eq_getElem?_getD→Zi,length_set→ZU,map_cons→ZM
structure Tkr where
 steal:Bool
 at_:Int
 top:Int
 bot:Int
 got:Int
 end_:Int
def Zaq(s:Bool):Tkr:=⟨s,0,0,0,0,0⟩
def ZaF(R:List Int)(k:Int):Int:=R.getD ((if k<0 then 0 else k).toNat%R.length) 0
def Zay(R:List Int)(T B:Int)(t:Tkr):Int×Int×Tkr:=
 if t.at_=0 then(T,B - 1,{t with bot:=B - 1,at_:=1})
 else if t.at_=1 then
  if T<t.bot then(T,B,{t with top:=T,got:=ZaF R t.bot,end_:=1})
  else if T=t.bot then(T,B,{t with top:=T,at_:=2})
  else(T,B,{t with top:=T,at_:=3})
 else if t.at_=2 then
  if T=t.top then(T+1,B,{t with got:=ZaF R t.bot,at_:=4})
  else(T,B,{t with at_:=3})
 else(T,t.bot+1,{t with end_:=if t.at_=3 then 2 else 1})
def ZaS(R:List Int)(T B:Int)(t:Tkr):Int×Int×Tkr:=
 if t.at_=0 then(T,B,{t with top:=T,at_:=1})
 else if t.at_=1 then
  if B<=t.top then(T,B,{t with bot:=B,end_:=2})
  else(T,B,{t with bot:=B,at_:=2})
 else if t.at_=2 then(T,B,{t with got:=ZaF R t.top,at_:=3})
 else if T=t.top then(T+1,B,{t with end_:=1})
 else(T,B,{t with got:=0,end_:=3})
def Zav(R:List Int)(T B:Int)(t:Tkr):Int×Int×Tkr:=if t.steal then ZaS R T B t else Zay R T B t
def Zaz(R:List Int)(T V:Int):List Int:=(List.range (V - T).toNat).map fun(k:Nat)=>ZaF R (T+k)
section
variable {R: List Int}{T V: Int}
theorem ZcA(h:V<=T):Zaz R T V= []:=by unfold Zaz;rw[show(V - T).toNat=0 by omega];rfl
theorem Zfr(h:T<V):Zaz R T V=ZaF R T::Zaz R (T+1) V:=by
 unfold Zaz;rw[show(V - T).toNat=(V - (T+1)).toNat+1 by omega,List.range_succ_eq_map,ZM,List.map_map];congr 1
 ·simp
 ·refine List.map_congr_left fun k _ => ?_
  show ZaF R (T+((k+1:Nat):Int))=ZaF R (T+1+(k:Int));congr 1;omega
theorem ZgC(h:T<V):Zaz R T V=Zaz R T (V - 1)++ [ZaF R (V - 1)]:=by unfold Zaz;rw[show(V - T).toNat=(V - 1 - T).toNat+1 by omega,List.range_succ,List.map_append,ZM,List.map_nil];congr 3;omega
theorem ZsA{n a b:Nat}(h1:a<b)(h2:b - a<n):a%n≠b%n:=by
 intro h;have h3:=Nat.div_add_mod a n;have h4:=Nat.div_add_mod b n;rw[h]at h3;rcases Nat.lt_or_ge (a/n) (b/n)with h5|h5
 ·have h6: n * (a / n + 1) <= n * (b / n):=Nat.mul_le_mul_left n h5
  rw[Nat.mul_add,Nat.mul_one]at h6;omega
 ·have h6: n * (b / n) <= n * (a / n):=Nat.mul_le_mul_left n h5
  omega
theorem Zmr{k B v:Int}(hk:0<=k)(hB:k<B)(hn:B - k<R.length):ZaF (R.set (B.toNat%R.length) v) k=ZaF R k:=by unfold ZaF;rw[ZU,Zb (by omega)];have h1:=ZsA (n:=R.length) (a:=k.toNat) (b:=B.toNat) (by omega) (by omega);rw[Zi,List.getElem?_set_ne (Ne.symm h1),<-Zi]
theorem Zh2{B v:Int}(hB:0<=B)(hn:0<R.length):ZaF (R.set (B.toNat%R.length) v) B=v:=by unfold ZaF;rw[ZU,Zb (by omega),Zi,List.getElem?_set_self (Nat.mod_lt _ hn)];rfl
theorem ZgD{B v:Int}(h0:0<=T)(h1:T<=B)(h2:B - T<R.length):Zaz (R.set (B.toNat%R.length) v) T (B+1)=Zaz R T B++ [v]:=by rw[ZgC (by omega),show B+1 - 1=B by omega,Zh2 (by omega) (by omega)];congr 1;unfold Zaz;refine List.map_congr_left fun k hk=> ?_;rw[List.mem_range]at hk;exact Zmr (by omega) (by omega) (by omega)
end
def setT(tk:Nat->Tkr)(k:Nat)(t:Tkr):Nat->Tkr:=fun j=>if j=k then t else tk j
def virD(B:Int)(o:Tkr):Int:=if o.at_=0 then B else B+1
def Zkw(o:Tkr):List Int:=if o.at_=4 then [o.got]else []
def Zkx(T B:Int)(o:Tkr):Prop:=o.steal=false/\o.end_=0/\(0<=o.top/\o.top<=T)/\
 (o.at_=0\/(o.bot=B/\(o.at_=1\/(o.at_=2/\o.top=B/\B<=T)\/(o.at_=3/\T=B+1)\/(o.at_=4/\T=B+1))))
def ThiefOk(R:List Int)(T V P:Int)(t:Tkr):Prop:=t.steal=true/\t.end_=0/\(0<=t.at_/\t.at_<=3)/\(1<=t.at_->0<=t.top/\t.top<=T)/\(-1<=t.bot/\t.bot<=P)/\
 (2<=t.at_->t.top=T->T<V)/\(t.at_=3->t.top=T->t.got=ZaF R T)
theorem Zqq{R:List Int}{T V P a top bot g:Int}(h0:0<=a)(h3:a<=3)(ht:1<=a->0<=top/\top<=T)(hb: -1<=bot/\bot<=P)(hv:2<=a->top=T->T<V)(hg:a=3->top=T->g=ZaF R T):ThiefOk R T V P ⟨true,a,top,bot,g,0⟩:=
 ⟨rfl,rfl,⟨h0,h3⟩,ht,hb,hv,hg⟩
theorem ZeB(R:List Int)(T V P:Int)(h:0<=P):ThiefOk R T V P (Zaq true):=Zqq (by decide) (by decide) (fun h=>Za h) ⟨by decide,h⟩ (fun h=>Za h) (fun h=>Za h)
section
variable {n: Nat}{R: List Int}{T B: Int}{tk: Nat -> Tkr}{got: List Int}{P: Nat}
theorem ZgE(l:List Int)(x y:Int):(l++ [y]).count x=l.count x+if y=x then 1 else 0:=by rw[List.count_append,List.count_singleton];simp only[beq_iff_eq]
theorem ThiefOk.late{V V' P:Int}{t:Tkr}(h:ThiefOk R T V P t):ThiefOk R (T+1) V' P t:=by obtain⟨t1,t2,t3,t4,tb,t5,t6⟩:=h;exact⟨t1,t2,t3,fun q=>⟨(t4 q).1,by have:=(t4 q).2;omega⟩,tb,fun q e=>by have:=(t4 (by omega)).2;omega,fun q e=>by have:=(t4 (by omega)).2;omega⟩
theorem ThiefOk.less{V V' P:Int}{t:Tkr}(h:ThiefOk R T V P t)(hV:T<V->T<V'):ThiefOk R T V' P t:=by obtain⟨t1,t2,t3,t4,tb,t5,t6⟩:=h;exact⟨t1,t2,t3,t4,tb,fun q e=>hV (t5 q e),t6⟩
def Zd2(t:Tkr):Tkr:=if t.end_=0 then t else Zaq t.steal
theorem ZeC{T B a top bot g:Int}(ht:0<=top/\top<=T)(h:a=0\/(bot=B/\(a=1\/(a=2/\top=B/\B<=T)\/(a=3/\T=B+1)\/(a=4/\T=B+1)))):Zkx T B ⟨false,a,top,bot,g,0⟩:=⟨rfl,rfl,ht,h⟩
end
structure DqOk(R:List Int)(P:Int)(T B:Int)(o:Tkr):Prop where
 own:Zkx T B o
 top:0<=T
 lo:T<=virD B o
 few:virD B o<=P
def lftD(R:List Int)(T B:Int)(o:Tkr)(x:Int):Nat:=(Zkw o).count x+(Zaz R T (virD B o)).count x
def gotD(t:Tkr)(x:Int):Nat:=if t.end_=1/\t.got=x then 1 else 0
section
variable {R: List Int}{T B P: Int}{o t: Tkr}
theorem Zh3{t:Tkr}(h:t.end_≠1)(x:Int):gotD t x=0:=Zb fun q=>h q.1
theorem ZeD{t:Tkr}(h:t.end_=1)(x:Int):gotD t x=if t.got=x then 1 else 0:=by
 unfold gotD;by_cases hx:t.got=x
 ·rw[Zc ⟨h,hx⟩,Zc hx]
 ·rw[Zb (fun q=>hx q.2),Zb hx]
theorem ZgO(l:List Int)(x y:Int):(y::l).count x=l.count x+if y=x then 1 else 0:=by rw[List.count_cons];simp only[beq_iff_eq]
theorem DqOk.bounds(h:DqOk R P T B o):0<=T/\T<=P/\T - 1<=B/\B<=P:=by
 have hBV:B<=virD B o/\virD B o<=B+1:=by unfold virD;split<;>omega
 have:=h.top;have:=h.lo;have:=h.few;omega
theorem ZgF{V a top bot g:Int}(h0:0<=a)(h3:a<=3)(ht:1<=a->0<=top/\top<=T)(hb: -1<=bot/\bot<=P)(hv:2<=a->top=T->T<V)(hg:a=3->top=T->g=ZaF R T):ThiefOk R T V P ⟨true,a,top,bot,g,0⟩:=
 ⟨rfl,rfl,⟨h0,h3⟩,ht,hb,hv,hg⟩
theorem DqOk.steal(h:DqOk R P T B o)(ht:ThiefOk R T (virD B o) P t):
  (ZaS R T B t).2.1 = B /\ ((ZaS R T B t).1 = T \/ (ZaS R T B t).1 = T + 1) /\ DqOk R P (ZaS R T B t).1 B o /\ (∀ x,lftD R (ZaS R T B t).1 B o x + gotD (ZaS R T B t).2.2 x = lftD R T B o x) /\
   ThiefOk R (ZaS R T B t).1 (virD B o) P (Zd2 (ZaS R T B t).2.2)/\(∀t2,ThiefOk R T (virD B o) P t2->ThiefOk R (ZaS R T B t).1 (virD B o) P t2)/\(ZaS R T B t).2.2.steal=true:=by
 obtain⟨t1,t2,t3,t4,tb,t5,t6⟩:=ht;have hBV:B<=virD B o/\virD B o<=B+1:=by unfold virD;split<;>omega
 have hlo:=h.lo;have hfew:=h.few;have htop:=h.top;have stay:∀t':Tkr,t'.end_≠1->ThiefOk R T (virD B o) P (Zd2 t')->t'.steal=true->B=B/\(T=T\/T=T+1)/\DqOk R P T B o/\(∀x,lftD R T B o x+gotD t' x=lftD R T B o x)/\ThiefOk R T (virD B o) P (Zd2 t')/\(∀t2,ThiefOk R T (virD B o) P t2->ThiefOk R T (virD B o) P t2)/\t'.steal=true:=
  fun t' he hn hs=>⟨rfl,.inl rfl,h,fun x=>by rw[Zh3 he];rfl,hn,fun _ q=>q,hs⟩
 obtain⟨st,at_,top,bot,gt,en⟩:=t;simp only at t1 t2 t3 t4 tb t5 t6;subst t1 t2;unfold ZaS;by_cases a0:at_=0
 ·rw [Zc a0]
  exact stay ⟨true,1,T,bot,gt,0⟩ (by show¬(0:Int)=1;decide) (ZgF (by decide) (by decide) (fun _=>⟨h.top,ZX _⟩) tb (fun q=>Za q) (fun q=>Za q)) rfl
 rw[Zb a0];by_cases a1:at_=1
 ·rw [Zc a1]
  obtain⟨p1,p2⟩:=t4 (by omega);by_cases hb:B<=top
  ·rw [Zc hb]
   exact stay ⟨true,at_,top,B,gt,2⟩ (by show¬(2:Int)=1;decide) (ZeB _ _ _ _ (by omega)) rfl
  ·rw [Zb hb]
   exact stay ⟨true,2,top,B,gt,0⟩ (by show¬(0:Int)=1;decide) (ZgF (by decide) (by decide) (fun _=>⟨p1,p2⟩) ⟨by omega,by omega⟩ (fun _ e=>by omega) (fun q=>Za q)) rfl
 rw[Zb a1];by_cases a2:at_=2
 ·rw [Zc a2]
  exact stay ⟨true,3,top,bot,ZaF R top,0⟩ (by show¬(0:Int)=1;decide) (ZgF (by decide) (by decide) (fun _=>t4 (by omega)) tb (fun _ e=>t5 (by omega) e) (fun _ e=>by rw[e])) rfl
 rw[Zb a2];have a3:at_=3:=by omega
 by_cases hT:T=top
 ·rw [Zc hT]
  have hlt:=t5 (by omega) hT.symm;have hgt:=t6 a3 hT.symm;have hfi:=Zfr (R:=R) hlt;obtain⟨o1,o2,ot,o3⟩:=h.own;refine⟨rfl,.inr rfl,⟨⟨o1,o2,⟨ot.1,by show _<=T+1;omega⟩,?_⟩,by show(0:Int)<=T+1;omega,by show T+1<=_;omega,hfew⟩,fun x=> ?_,ZeB _ _ _ _ (by omega),fun t2 q=>q.late,rfl⟩
  ·rcases o3 with o3 | ⟨o4,o5 | ⟨o5,o6,o7⟩ | ⟨o5,o6⟩ | ⟨o5,o6⟩⟩
   ·exact .inl o3
   ·exact .inr ⟨o4,.inl o5⟩
   ·exact .inr ⟨o4,.inr (.inl ⟨o5,o6,by show _<=T+1;omega⟩)⟩
   ·exfalso
    unfold virD at hlt;rw[Zb (by omega)]at hlt;omega
   ·exfalso
    unfold virD at hlt;rw[Zb (by omega)]at hlt;omega
  ·unfold lftD
   rw[hfi,ZgO,ZeD rfl];show _+(if gt=x then 1 else 0)=_;rw[hgt];show _+Ye x (Zaz R (T+1) (virD B o))+_=_;omega
 ·rw [Zb hT]
  exact stay ⟨true,at_,top,bot,0,3⟩ (by show¬(3:Int)=1;decide) (ZeB _ _ _ _ (by omega)) rfl
theorem DqOk.pop(h:DqOk R P T B o):
  DqOk R P (Zay R T B o).1 (Zay R T B o).2.1 (Zd2 (Zay R T B o).2.2)/\(∀x,lftD R (Zay R T B o).1 (Zay R T B o).2.1 (Zd2 (Zay R T B o).2.2) x+gotD (Zay R T B o).2.2 x=lftD R T B o x)/\
   (∀t2,ThiefOk R T (virD B o) P t2->ThiefOk R (Zay R T B o).1 (virD (Zay R T B o).2.1 (Zd2 (Zay R T B o).2.2)) P t2)/\(Zay R T B o).2.2.steal=false/\virD (Zay R T B o).2.1 (Zd2 (Zay R T B o).2.2)<=virD B o:=by
 obtain⟨owner,htop,lo,few⟩:=h;obtain⟨st,a,top,bot,gt,en⟩:=o;obtain⟨o1,o2,⟨ot1,ot2⟩,o3⟩:=owner;simp only at o1 o2 ot1 ot2 o3;subst o1 o2;unfold Zay;by_cases a0:a=0
 ·subst a0
  have hv:virD (B - 1) ⟨false,1,top,B - 1,gt,0⟩=B:=by show(if(1:Int)=0 then B - 1 else B - 1+1)=B;rw[Zb (by decide)];omega
  have hv0:virD B ⟨false,0,top,bot,gt,0⟩=B:=Zc rfl;rw[hv0]at lo few⊢;rw[Zc rfl];show DqOk R P T (B - 1) ⟨false,1,top,B - 1,gt,0⟩/\(∀x,lftD R T (B - 1) ⟨false,1,top,B - 1,gt,0⟩ x+0=lftD R T B ⟨false,0,top,bot,gt,0⟩ x)/\(∀t2,ThiefOk R T B P t2->ThiefOk R T (virD (B - 1) ⟨false,1,top,B - 1,gt,0⟩) P t2)/\false=false/\virD (B - 1) ⟨false,1,top,B - 1,gt,0⟩<=B;refine⟨⟨ZeC ⟨ot1,ot2⟩ (.inr ⟨rfl,.inl rfl⟩),htop,by rw[hv];exact lo,by rw[hv];exact few⟩,fun x=> ?_,fun t2 q=>by rw[hv];exact q,rfl,by rw[hv];exact ZX _⟩;unfold lftD;rw[hv,hv0];rfl
 rw[Zb a0];obtain⟨rfl,o3⟩:=o3.resolve_left a0;have hv0:virD bot ⟨false,a,top,bot,gt,0⟩=bot+1:=Zb a0;rw[hv0]at lo few⊢;have stay:∀o':Tkr,o'.end_=0->o'.steal=false->o'.at_≠0->Zkw o'=Zkw ⟨false,a,top,bot,gt,0⟩->Zkx T bot o'->DqOk R P T bot (Zd2 o')/\(∀x,lftD R T bot (Zd2 o') x+gotD o' x=lftD R T bot ⟨false,a,top,bot,gt,0⟩ x)/\(∀t2,ThiefOk R T (bot+1) P t2->ThiefOk R T (virD bot (Zd2 o')) P t2)/\o'.steal=false/\virD bot (Zd2 o')<=bot+1:=
  fun o' e s hat hh hO=>by have hn:Zd2 o'=o':=Zc e;have hv:virD bot o'=bot+1:=Zb hat;rw[hn,hv];refine⟨⟨hO,htop,by rw[hv];exact lo,by rw[hv];exact few⟩,fun x=> ?_,fun _ q=>q,s,ZX _⟩;rw[Zh3 (by rw[e];decide)];unfold lftD;rw[hv,hv0,hh];rfl
 by_cases a1:a=1
 ·subst a1
  rw[Zc rfl];by_cases h1:T<bot
  ·rw [Zc h1]
   have hl:=ZgC (R:=R) (T:=T) (V:=bot+1) (by omega);rw[show bot+1 - 1=bot by omega]at hl;show DqOk R P T bot (Zaq false)/\(∀x,lftD R T bot (Zaq false) x+gotD ⟨false,1,T,bot,ZaF R bot,1⟩ x=lftD R T bot ⟨false,1,top,bot,gt,0⟩ x)/\(∀t2,ThiefOk R T (bot+1) P t2->ThiefOk R T bot P t2)/\false=false/\bot<=bot+1;refine⟨⟨⟨rfl,rfl,⟨by decide,htop⟩,.inl rfl⟩,htop,by show T<=bot;omega,by show bot<=P;omega⟩,fun x=> ?_,fun t2 q=>q.less fun _=>h1,rfl,by omega⟩;rw[ZeD rfl];show Ye x []+Ye x (Zaz R T bot)+_=Ye x []+Ye x (Zaz R T (virD bot ⟨false,1,top,bot,gt,0⟩));rw[hv0,hl,ZgE];show _+(if ZaF R bot=x then 1 else 0)=_;omega
  ·rw [Zb h1]
   by_cases h2:T=bot
   ·rw [Zc h2]
    exact stay ⟨false,2,T,bot,gt,0⟩ rfl rfl (by show¬(2:Int)=0;decide) rfl (ZeC ⟨htop,ZX _⟩ (.inr ⟨rfl,.inr (.inl ⟨rfl,h2,by omega⟩)⟩))
   ·rw [Zb h2]
    exact stay ⟨false,3,T,bot,gt,0⟩ rfl rfl (by show¬(3:Int)=0;decide) rfl (ZeC ⟨htop,ZX _⟩ (.inr ⟨rfl,.inr (.inr (.inl ⟨rfl,by omega⟩))⟩))
 rw[Zb a1];by_cases a2:a=2
 ·subst a2
  obtain⟨o4,o5⟩:top=bot/\bot<=T:=by
   rcases o3 with q|⟨_,q⟩|⟨q,_⟩|⟨q,_⟩
   ·exact Za q
   ·exact q
   ·exact Za q
   ·exact Za q
  subst o4;rw[Zc rfl];by_cases h1:T=top
  ·rw [Zc h1]
   subst h1;have hv:virD T ⟨false,4,T,T,ZaF R T,0⟩=T+1:=rfl;have hf:=Zfr (R:=R) (T:=T) (V:=T+1) (by omega);rw[ZcA (ZX _)]at hf;show DqOk R P (T+1) T ⟨false,4,T,T,ZaF R T,0⟩/\(∀x,lftD R (T+1) T ⟨false,4,T,T,ZaF R T,0⟩ x+0=lftD R T T ⟨false,2,T,T,gt,0⟩ x)/\(∀t2,ThiefOk R T (T+1) P t2->ThiefOk R (T+1) (virD T ⟨false,4,T,T,ZaF R T,0⟩) P t2)/\false=false/\virD T ⟨false,4,T,T,ZaF R T,0⟩<=T+1;refine⟨⟨ZeC ⟨htop,by omega⟩ (.inr ⟨rfl,.inr (.inr (.inr ⟨rfl,rfl⟩))⟩),by omega,by rw[hv];omega,by rw[hv];exact few⟩,fun x=> ?_,fun t2 q=>by rw[hv];exact q.late,rfl,by rw[hv];omega⟩;show Ye x [ZaF R T]+Ye x (Zaz R (T+1) (virD T ⟨false,4,T,T,ZaF R T,0⟩))+0=Ye x []+Ye x (Zaz R T (virD T ⟨false,2,T,T,gt,0⟩));rw[hv,hv0,hf,ZcA (ZX _),Y5];omega
  ·rw [Zb h1]
   exact stay ⟨false,3,top,top,gt,0⟩ rfl rfl (by show¬(3:Int)=0;decide) rfl (ZeC ⟨ot1,ot2⟩ (.inr ⟨rfl,.inr (.inr (.inl ⟨rfl,by omega⟩))⟩))
 rw[Zb a2];by_cases a3:a=3
 ·subst a3
  rw[Zc rfl];show DqOk R P T (bot+1) (Zaq false)/\(∀x,lftD R T (bot+1) (Zaq false) x+gotD ⟨false,3,top,bot,gt,2⟩ x=lftD R T bot ⟨false,3,top,bot,gt,0⟩ x)/\(∀t2,ThiefOk R T (bot+1) P t2->ThiefOk R T (bot+1) P t2)/\false=false/\bot+1<=bot+1;refine⟨⟨⟨rfl,rfl,⟨by decide,htop⟩,.inl rfl⟩,htop,lo,few⟩,fun x=> ?_,fun _ q=>q,rfl,ZX _⟩;rw[Zh3 (by show¬(2:Int)=1;decide)];show Ye x []+Ye x (Zaz R T (bot+1))+0=Ye x []+Ye x (Zaz R T (virD bot ⟨false,3,top,bot,gt,0⟩));rw[hv0];omega
 ·have a4: a = 4:=by
   rcases o3 with q|⟨q,_⟩|⟨q,_⟩|⟨q,_⟩
   ·exact absurd q a1
   ·exact absurd q a2
   ·exact absurd q a3
   ·exact q
  subst a4;rw[Zb (by show¬(4:Int)=3;decide)];show DqOk R P T (bot+1) (Zaq false)/\(∀x,lftD R T (bot+1) (Zaq false) x+gotD ⟨false,4,top,bot,gt,1⟩ x=lftD R T bot ⟨false,4,top,bot,gt,0⟩ x)/\(∀t2,ThiefOk R T (bot+1) P t2->ThiefOk R T (bot+1) P t2)/\false=false/\bot+1<=bot+1;refine⟨⟨⟨rfl,rfl,⟨by decide,htop⟩,.inl rfl⟩,htop,lo,few⟩,fun x=> ?_,fun _ q=>q,rfl,ZX _⟩;rw[ZeD rfl];show Ye x []+Ye x (Zaz R T (bot+1))+(if gt=x then 1 else 0)=Ye x [gt]+Ye x (Zaz R T (virD bot ⟨false,4,top,bot,gt,0⟩));rw[hv0,Y5,List.count_singleton];simp only[beq_iff_eq];omega
theorem Zms(ht:ThiefOk R T (virD B o) P t):
  ((ZaS R T B t).2.2.end_=0/\(ZaS R T B t).1=T/\(ZaS R T B t).2.2.at_=t.at_+1/\t.at_<=2/\(ZaS R T B t).2.2.top=if t.at_=0 then T else t.top)\/
  ((ZaS R T B t).2.2.end_=2/\(ZaS R T B t).1=T/\B<=T/\t.at_=1)\/((ZaS R T B t).2.2.end_=3/\(ZaS R T B t).1=T/\t.at_=3/\t.top≠T)\/((ZaS R T B t).2.2.end_=1/\t.at_=3):=by
 obtain⟨t1,t2,t3,t4,tb,t5,t6⟩:=ht;obtain⟨st,at_,top,bot,gt,en⟩:=t;simp only at t1 t2 t3 t4 tb t5 t6;subst t1 t2;unfold ZaS;by_cases a0:at_=0
 ·rw[Zc a0];exact .inl ⟨rfl,rfl,by show(1:Int)=at_+1;omega,by show at_<=2;omega,by rw[Zc a0]⟩
 rw[Zb a0];by_cases a1:at_=1
 ·rw [Zc a1]
  have hq:=t4 (by omega);by_cases hb:B<=top
  ·rw[Zc hb];exact .inr (.inl ⟨rfl,rfl,by omega,a1⟩)
  ·rw[Zb hb];exact .inl ⟨rfl,rfl,by show(2:Int)=at_+1;omega,by show at_<=2;omega,by rw[Zb a0]⟩
 rw[Zb a1];by_cases a2:at_=2
 ·rw[Zc a2];exact .inl ⟨rfl,rfl,by show(3:Int)=at_+1;omega,by show at_<=2;omega,by rw[Zb a0]⟩
 rw[Zb a2];have a3:at_=3:=by omega
 by_cases hT:T=top
 ·rw[Zc hT];exact .inr (.inr (.inr ⟨rfl,a3⟩))
 ·rw[Zb hT];exact .inr (.inr (.inl ⟨rfl,rfl,a3,fun e=>hT e.symm⟩))
theorem Zmt(h:DqOk R P T B o):
    ((Zay R T B o).1<(Zay R T B o).2.1->T<B)/\
    (((Zay R T B o).2.2.end_ = 0 /\ (Zay R T B o).1 = T /\ o.at_ + 1 <= (Zay R T B o).2.2.at_ /\ (Zay R T B o).2.2.at_ <= 3 /\ 0 <= o.at_) \/
     ((Zay R T B o).2.2.end_=0/\(Zay R T B o).2.2.at_=4/\o.at_=2)\/
     ((Zay R T B o).2.2.end_=2/\(Zay R T B o).1=T/\(Zay R T B o).2.1<=T/\o.at_=3)\/
     ((Zay R T B o).2.2.end_=1/\(Zay R T B o).1=T/\(o.at_=1\/o.at_=4))):=by
  obtain⟨owner,htop,lo,few⟩:=h;obtain⟨st,a,top,bot,gt,en⟩:=o;obtain⟨o1,o2,⟨ot1,ot2⟩,o3⟩:=owner;simp only at o1 o2 ot1 ot2 o3;subst o1 o2;unfold Zay;by_cases a0:a=0
  · rw[Zc a0];exact⟨fun q=>by have q:T<B - 1:=q;omega,.inl ⟨rfl,rfl,by show a+1<=1;omega,by show(1:Int)<=3;decide,by show 0<=a;omega⟩⟩
  rw[Zb a0];obtain⟨rfl,o3⟩:=o3.resolve_left a0;by_cases a1:a=1
  · rw[Zc a1];by_cases h1:T<bot
    · rw[Zc h1];exact⟨fun q=>q,.inr (.inr (.inr ⟨rfl,rfl,.inl a1⟩))⟩
    · rw[Zb h1];by_cases h2:T=bot
      · rw[Zc h2];exact⟨fun q=>q,.inl ⟨rfl,rfl,by show a+1<=2;omega,by show(2:Int)<=3;decide,by show 0<=a;omega⟩⟩
      · rw[Zb h2];exact⟨fun q=>q,.inl ⟨rfl,rfl,by show a+1<=3;omega,by show(3:Int)<=3;decide,by show 0<=a;omega⟩⟩
  rw[Zb a1];by_cases a2:a=2
  · rw[Zc a2];by_cases h1:T=top
    · rw[Zc h1];exact⟨fun q=>by have q:T+1<bot:=q;omega,.inr (.inl ⟨rfl,rfl,a2⟩)⟩
    · rw[Zb h1];exact⟨fun q=>q,.inl ⟨rfl,rfl,by show a+1<=3;omega,by show(3:Int)<=3;decide,by show 0<=a;omega⟩⟩
  rw[Zb a2];have hT:T=bot+1:=by omega
  refine⟨fun q=>by have q:T<bot+1:=q;omega,?_⟩;by_cases a3:a=3
  · rw[Zc a3];exact .inr (.inr (.inl ⟨rfl,rfl,by show bot+1<=T;omega,a3⟩))
  · rw[Zb a3];exact .inr (.inr (.inr ⟨rfl,rfl,.inr (by show a=4;omega)⟩))
end
end Go.Proofs.YtfahabphncmbfaaGreatDoor
