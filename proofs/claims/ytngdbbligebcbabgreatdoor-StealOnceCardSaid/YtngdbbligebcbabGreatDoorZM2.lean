import Derived.Test.YtngdbbligebcbabGreatDoorZDequeMath
import Derived.Test.YtngdbbligebcbabGreatDoorZSchedGrahamMath
set_option linter.unusedVariables false
namespace Go.Proofs.YtngdbbligebcbabGreatDoor
structure DqOk(R:List Int)(P:Int)(T B:Int)(o:Tkr):Prop where
 own:OwnerOk T B o
 top:0<=T
 lo:T<=virD B o
 few:virD B o<=P
def lftD(R:List Int)(T B:Int)(o:Tkr)(x:Int):Nat:=(handD o).count x+(itemsD R T (virD B o)).count x
def gotD(t:Tkr)(x:Int):Nat:=if t.end_=1/\t.got=x then 1 else 0
section
variable {R: List Int} {T B P: Int} {o t: Tkr}
theorem gotD_no{t:Tkr}(h:t.end_≠1)(x:Int):gotD t x=0:=if_neg fun q=>h q.1
theorem gotD_yes{t:Tkr}(h:t.end_=1)(x:Int):gotD t x=if t.got=x then 1 else 0:=by
 unfold gotD
 by_cases hx:t.got=x
 ·rw[if_pos ⟨h,hx⟩,if_pos hx]
 ·rw[if_neg (fun q=>hx q.2),if_neg hx]
theorem count_cons_one(l:List Int)(x y:Int):(y::l).count x=l.count x+if y=x then 1 else 0:=by
 rw[List.count_cons];simp only[beq_iff_eq]
theorem DqOk.bounds(h:DqOk R P T B o):0<=T/\T<=P/\T - 1<=B/\B<=P:=by
 have hBV:B<=virD B o/\virD B o<=B+1:=by unfold virD;split<;>omega
 have:=h.top;have:=h.lo;have:=h.few;omega
theorem thief_mkI{V a top bot g:Int}(h0:0<=a)(h3:a<=3)(ht:1<=a->0<=top/\top<=T)(hb: -1<=bot/\bot<=P)(hv:2<=a->top=T->T<V)(hg:a=3->top=T->g=placeD R T):ThiefOk R T V P ⟨true,a,top,bot,g,0⟩:=
 ⟨rfl,rfl,⟨h0,h3⟩,ht,hb,hv,hg⟩
theorem DqOk.steal(h:DqOk R P T B o)(ht:ThiefOk R T (virD B o) P t):
  (thiefD R T B t).2.1 = B /\ ((thiefD R T B t).1 = T \/ (thiefD R T B t).1 = T + 1) /\ DqOk R P (thiefD R T B t).1 B o /\ (∀ x,lftD R (thiefD R T B t).1 B o x + gotD (thiefD R T B t).2.2 x = lftD R T B o x) /\
   ThiefOk R (thiefD R T B t).1 (virD B o) P (nextT (thiefD R T B t).2.2)/\(∀t2,ThiefOk R T (virD B o) P t2->ThiefOk R (thiefD R T B t).1 (virD B o) P t2)/\(thiefD R T B t).2.2.steal=true:=by
 obtain⟨t1,t2,t3,t4,tb,t5,t6⟩:=ht;have hBV:B<=virD B o/\virD B o<=B+1:=by unfold virD;split<;>omega
 have hlo:=h.lo;have hfew:=h.few;have htop:=h.top;have stay: ∀t':Tkr,t'.end_≠1->ThiefOk R T (virD B o) P (nextT t')->t'.steal=true->B=B/\(T=T\/T=T+1)/\DqOk R P T B o/\(∀x,lftD R T B o x+gotD t' x=lftD R T B o x)/\ThiefOk R T (virD B o) P (nextT t')/\(∀t2,ThiefOk R T (virD B o) P t2->ThiefOk R T (virD B o) P t2)/\t'.steal=true:=
  fun t' he hn hs=>⟨rfl,.inl rfl,h,fun x=>by rw[gotD_no he];rfl,hn,fun _ q=>q,hs⟩
 obtain⟨st,at_,top,bot,gt,en⟩:=t;simp only at t1 t2 t3 t4 tb t5 t6;subst t1 t2;unfold thiefD
 by_cases a0:at_=0
 ·rw [if_pos a0]
  exact stay ⟨true,1,T,bot,gt,0⟩ (by show¬(0:Int)=1;decide) (thief_mkI (by decide) (by decide) (fun _=>⟨h.top,Int.le_refl _⟩) tb (fun q=>absurd q (by decide)) (fun q=>absurd q (by decide))) rfl
 rw[if_neg a0]
 by_cases a1:at_=1
 ·rw [if_pos a1]
  obtain⟨p1,p2⟩:=t4 (by omega)
  by_cases hb:B<=top
  ·rw [if_pos hb]
   exact stay ⟨true,at_,top,B,gt,2⟩ (by show¬(2:Int)=1;decide) (thief_new _ _ _ _ (by omega)) rfl
  ·rw [if_neg hb]
   exact stay ⟨true,2,top,B,gt,0⟩ (by show¬(0:Int)=1;decide) (thief_mkI (by decide) (by decide) (fun _=>⟨p1,p2⟩) ⟨by omega,by omega⟩ (fun _ e=>by omega) (fun q=>absurd q (by decide))) rfl
 rw[if_neg a1]
 by_cases a2:at_=2
 ·rw [if_pos a2]
  exact stay ⟨true,3,top,bot,placeD R top,0⟩ (by show¬(0:Int)=1;decide) (thief_mkI (by decide) (by decide) (fun _=>t4 (by omega)) tb (fun _ e=>t5 (by omega) e) (fun _ e=>by rw[e])) rfl
 rw[if_neg a2];have a3:at_=3:=by omega
 by_cases hT:T=top
 ·rw [if_pos hT]
  have hlt:=t5 (by omega) hT.symm
  have hgt:=t6 a3 hT.symm;have hfi:=itemsD_first (R:=R) hlt;obtain⟨o1,o2,ot,o3⟩:=h.own;refine⟨rfl,.inr rfl,⟨⟨o1,o2,⟨ot.1,by show _<=T+1;omega⟩,?_⟩,by show(0:Int)<=T+1;omega,by show T+1<=_;omega,hfew⟩,fun x=> ?_,thief_new _ _ _ _ (by omega),fun t2 q=>q.late,rfl⟩
  ·rcases o3 with o3 | ⟨o4,o5 | ⟨o5,o6,o7⟩ | ⟨o5,o6⟩ | ⟨o5,o6⟩⟩
   ·exact .inl o3
   ·exact .inr ⟨o4,.inl o5⟩
   ·exact .inr ⟨o4,.inr (.inl ⟨o5,o6,by show _<=T+1;omega⟩)⟩
   ·exfalso
    unfold virD at hlt;rw[if_neg (by omega)]at hlt
    omega
   ·exfalso
    unfold virD at hlt;rw[if_neg (by omega)]at hlt
    omega
  ·unfold lftD
   rw[hfi,count_cons_one,gotD_yes rfl];show _+(if gt=x then 1 else 0)=_
   rw[hgt];show _+List.count x (itemsD R (T+1) (virD B o))+_=_
   omega
 ·rw [if_neg hT]
  exact stay ⟨true,at_,top,bot,0,3⟩ (by show¬(3:Int)=1;decide) (thief_new _ _ _ _ (by omega)) rfl
theorem DqOk.pop(h:DqOk R P T B o):
  DqOk R P (ownerD R T B o).1 (ownerD R T B o).2.1 (nextT (ownerD R T B o).2.2)/\(∀x,lftD R (ownerD R T B o).1 (ownerD R T B o).2.1 (nextT (ownerD R T B o).2.2) x+gotD (ownerD R T B o).2.2 x=lftD R T B o x)/\
   (∀t2,ThiefOk R T (virD B o) P t2->ThiefOk R (ownerD R T B o).1 (virD (ownerD R T B o).2.1 (nextT (ownerD R T B o).2.2)) P t2)/\(ownerD R T B o).2.2.steal=false/\virD (ownerD R T B o).2.1 (nextT (ownerD R T B o).2.2)<=virD B o:=by
 obtain⟨owner,htop,lo,few⟩:=h;obtain⟨st,a,top,bot,gt,en⟩:=o;obtain⟨o1,o2,⟨ot1,ot2⟩,o3⟩:=owner;simp only at o1 o2 ot1 ot2 o3;subst o1 o2;unfold ownerD
 by_cases a0:a=0
 ·subst a0
  have hv:virD (B - 1) ⟨false,1,top,B - 1,gt,0⟩=B:=by show(if(1:Int)=0 then B - 1 else B - 1+1)=B;rw[if_neg (by decide)];omega
  have hv0:virD B ⟨false,0,top,bot,gt,0⟩=B:=if_pos rfl;rw[hv0]at lo few⊢;rw[if_pos rfl];show DqOk R P T (B - 1) ⟨false,1,top,B - 1,gt,0⟩/\(∀x,lftD R T (B - 1) ⟨false,1,top,B - 1,gt,0⟩ x+0=lftD R T B ⟨false,0,top,bot,gt,0⟩ x)/\(∀t2,ThiefOk R T B P t2->ThiefOk R T (virD (B - 1) ⟨false,1,top,B - 1,gt,0⟩) P t2)/\false=false/\virD (B - 1) ⟨false,1,top,B - 1,gt,0⟩<=B
  refine⟨⟨owner_mk ⟨ot1,ot2⟩ (.inr ⟨rfl,.inl rfl⟩),htop,by rw[hv];exact lo,by rw[hv];exact few⟩,fun x=> ?_,fun t2 q=>by rw[hv];exact q,rfl,by rw[hv];exact Int.le_refl _⟩
  unfold lftD;rw[hv,hv0];rfl
 rw[if_neg a0];obtain⟨rfl,o3⟩:=o3.resolve_left a0;have hv0:virD bot ⟨false,a,top,bot,gt,0⟩=bot+1:=if_neg a0;rw[hv0]at lo few⊢;have stay: ∀o':Tkr,o'.end_=0->o'.steal=false->o'.at_≠0->handD o'=handD ⟨false,a,top,bot,gt,0⟩->OwnerOk T bot o'->DqOk R P T bot (nextT o')/\(∀x,lftD R T bot (nextT o') x+gotD o' x=lftD R T bot ⟨false,a,top,bot,gt,0⟩ x)/\(∀t2,ThiefOk R T (bot+1) P t2->ThiefOk R T (virD bot (nextT o')) P t2)/\o'.steal=false/\virD bot (nextT o')<=bot+1:=
  fun o' e s hat hh hO=>by
   have hn:nextT o'=o':=if_pos e;have hv:virD bot o'=bot+1:=if_neg hat;rw[hn,hv];refine⟨⟨hO,htop,by rw[hv];exact lo,by rw[hv];exact few⟩,fun x=> ?_,fun _ q=>q,s,Int.le_refl _⟩
   rw[gotD_no (by rw[e];decide)]
   unfold lftD;rw[hv,hv0,hh];rfl
 by_cases a1:a=1
 ·subst a1
  rw[if_pos rfl]
  by_cases h1:T<bot
  ·rw [if_pos h1]
   have hl:=itemsD_last (R:=R) (T:=T) (V:=bot+1) (by omega)
   rw[show bot+1 - 1=bot by omega]at hl
   show DqOk R P T bot (newTk false)/\(∀x,lftD R T bot (newTk false) x+gotD ⟨false,1,T,bot,placeD R bot,1⟩ x=lftD R T bot ⟨false,1,top,bot,gt,0⟩ x)/\(∀t2,ThiefOk R T (bot+1) P t2->ThiefOk R T bot P t2)/\false=false/\bot<=bot+1
   refine⟨⟨⟨rfl,rfl,⟨by decide,htop⟩,.inl rfl⟩,htop,by show T<=bot;omega,by show bot<=P;omega⟩,fun x=> ?_,fun t2 q=>q.less fun _=>h1,rfl,by omega⟩
   rw[gotD_yes rfl];show List.count x []+List.count x (itemsD R T bot)+_=List.count x []+List.count x (itemsD R T (virD bot ⟨false,1,top,bot,gt,0⟩))
   rw[hv0,hl,count_one];show _+(if placeD R bot=x then 1 else 0)=_
   omega
  ·rw [if_neg h1]
   by_cases h2:T=bot
   ·rw [if_pos h2]
    exact stay ⟨false,2,T,bot,gt,0⟩ rfl rfl (by show¬(2:Int)=0;decide) rfl (owner_mk ⟨htop,Int.le_refl _⟩ (.inr ⟨rfl,.inr (.inl ⟨rfl,h2,by omega⟩)⟩))
   ·rw [if_neg h2]
    exact stay ⟨false,3,T,bot,gt,0⟩ rfl rfl (by show¬(3:Int)=0;decide) rfl (owner_mk ⟨htop,Int.le_refl _⟩ (.inr ⟨rfl,.inr (.inr (.inl ⟨rfl,by omega⟩))⟩))
 rw[if_neg a1]
 by_cases a2:a=2
 ·subst a2
  obtain⟨o4,o5⟩:top=bot/\bot<=T:=by
   rcases o3 with q|⟨_,q⟩|⟨q,_⟩|⟨q,_⟩
   ·exact absurd q (by decide)
   ·exact q
   ·exact absurd q (by decide)
   ·exact absurd q (by decide)
  subst o4;rw[if_pos rfl]
  by_cases h1:T=top
  ·rw [if_pos h1]
   subst h1;have hv:virD T ⟨false,4,T,T,placeD R T,0⟩=T+1:=rfl;have hf:=itemsD_first (R:=R) (T:=T) (V:=T+1) (by omega)
   rw[itemsD_empty (Int.le_refl _)]at hf;show DqOk R P (T+1) T ⟨false,4,T,T,placeD R T,0⟩/\(∀x,lftD R (T+1) T ⟨false,4,T,T,placeD R T,0⟩ x+0=lftD R T T ⟨false,2,T,T,gt,0⟩ x)/\(∀t2,ThiefOk R T (T+1) P t2->ThiefOk R (T+1) (virD T ⟨false,4,T,T,placeD R T,0⟩) P t2)/\false=false/\virD T ⟨false,4,T,T,placeD R T,0⟩<=T+1
   refine⟨⟨owner_mk ⟨htop,by omega⟩ (.inr ⟨rfl,.inr (.inr (.inr ⟨rfl,rfl⟩))⟩),by omega,by rw[hv];omega,by rw[hv];exact few⟩,fun x=> ?_,fun t2 q=>by rw[hv];exact q.late,rfl,by rw[hv];omega⟩
   show List.count x [placeD R T]+List.count x (itemsD R (T+1) (virD T ⟨false,4,T,T,placeD R T,0⟩))+0=List.count x []+List.count x (itemsD R T (virD T ⟨false,2,T,T,gt,0⟩))
   rw[hv,hv0,hf,itemsD_empty (Int.le_refl _),List.count_nil];omega
  ·rw [if_neg h1]
   exact stay ⟨false,3,top,top,gt,0⟩ rfl rfl (by show¬(3:Int)=0;decide) rfl (owner_mk ⟨ot1,ot2⟩ (.inr ⟨rfl,.inr (.inr (.inl ⟨rfl,by omega⟩))⟩))
 rw[if_neg a2]
 by_cases a3:a=3
 ·subst a3
  rw[if_pos rfl];show DqOk R P T (bot+1) (newTk false)/\(∀x,lftD R T (bot+1) (newTk false) x+gotD ⟨false,3,top,bot,gt,2⟩ x=lftD R T bot ⟨false,3,top,bot,gt,0⟩ x)/\(∀t2,ThiefOk R T (bot+1) P t2->ThiefOk R T (bot+1) P t2)/\false=false/\bot+1<=bot+1
  refine⟨⟨⟨rfl,rfl,⟨by decide,htop⟩,.inl rfl⟩,htop,lo,few⟩,fun x=> ?_,fun _ q=>q,rfl,Int.le_refl _⟩
  rw[gotD_no (by show¬(2:Int)=1;decide)]
  show List.count x []+List.count x (itemsD R T (bot+1))+0=List.count x []+List.count x (itemsD R T (virD bot ⟨false,3,top,bot,gt,0⟩))
  rw[hv0];omega
 ·have a4: a = 4:=by
   rcases o3 with q|⟨q,_⟩|⟨q,_⟩|⟨q,_⟩
   ·exact absurd q a1
   ·exact absurd q a2
   ·exact absurd q a3
   ·exact q
  subst a4;rw[if_neg (by show¬(4:Int)=3;decide)]
  show DqOk R P T (bot+1) (newTk false)/\(∀x,lftD R T (bot+1) (newTk false) x+gotD ⟨false,4,top,bot,gt,1⟩ x=lftD R T bot ⟨false,4,top,bot,gt,0⟩ x)/\(∀t2,ThiefOk R T (bot+1) P t2->ThiefOk R T (bot+1) P t2)/\false=false/\bot+1<=bot+1
  refine⟨⟨⟨rfl,rfl,⟨by decide,htop⟩,.inl rfl⟩,htop,lo,few⟩,fun x=> ?_,fun _ q=>q,rfl,Int.le_refl _⟩
  rw[gotD_yes rfl];show List.count x []+List.count x (itemsD R T (bot+1))+(if gt=x then 1 else 0)=List.count x [gt]+List.count x (itemsD R T (virD bot ⟨false,4,top,bot,gt,0⟩))
  rw[hv0,List.count_nil,List.count_singleton];simp only[beq_iff_eq];omega
theorem thief_ends(ht:ThiefOk R T (virD B o) P t):
  ((thiefD R T B t).2.2.end_=0/\(thiefD R T B t).1=T/\(thiefD R T B t).2.2.at_=t.at_+1/\t.at_<=2/\(thiefD R T B t).2.2.top=if t.at_=0 then T else t.top)\/
  ((thiefD R T B t).2.2.end_=2/\(thiefD R T B t).1=T/\B<=T/\t.at_=1)\/((thiefD R T B t).2.2.end_=3/\(thiefD R T B t).1=T/\t.at_=3/\t.top≠T)\/((thiefD R T B t).2.2.end_=1/\t.at_=3):=by
 obtain⟨t1,t2,t3,t4,tb,t5,t6⟩:=ht;obtain⟨st,at_,top,bot,gt,en⟩:=t;simp only at t1 t2 t3 t4 tb t5 t6;subst t1 t2;unfold thiefD
 by_cases a0:at_=0
 ·rw[if_pos a0];exact .inl ⟨rfl,rfl,by show(1:Int)=at_+1;omega,by show at_<=2;omega,by rw[if_pos a0]⟩
 rw[if_neg a0]
 by_cases a1:at_=1
 ·rw [if_pos a1]
  have hq:=t4 (by omega)
  by_cases hb:B<=top
  ·rw[if_pos hb];exact .inr (.inl ⟨rfl,rfl,by omega,a1⟩)
  ·rw[if_neg hb];exact .inl ⟨rfl,rfl,by show(2:Int)=at_+1;omega,by show at_<=2;omega,by rw[if_neg a0]⟩
 rw[if_neg a1]
 by_cases a2:at_=2
 ·rw[if_pos a2];exact .inl ⟨rfl,rfl,by show(3:Int)=at_+1;omega,by show at_<=2;omega,by rw[if_neg a0]⟩
 rw[if_neg a2];have a3:at_=3:=by omega
 by_cases hT:T=top
 ·rw[if_pos hT];exact .inr (.inr (.inr ⟨rfl,a3⟩))
 ·rw[if_neg hT];exact .inr (.inr (.inl ⟨rfl,rfl,a3,fun e=>hT e.symm⟩))
theorem owner_ends(h:DqOk R P T B o):
    ((ownerD R T B o).1<(ownerD R T B o).2.1->T<B)/\
    (((ownerD R T B o).2.2.end_ = 0 /\ (ownerD R T B o).1 = T /\ o.at_ + 1 <= (ownerD R T B o).2.2.at_ /\ (ownerD R T B o).2.2.at_ <= 3 /\ 0 <= o.at_) \/
     ((ownerD R T B o).2.2.end_=0/\(ownerD R T B o).2.2.at_=4/\o.at_=2)\/
     ((ownerD R T B o).2.2.end_=2/\(ownerD R T B o).1=T/\(ownerD R T B o).2.1<=T/\o.at_=3)\/
     ((ownerD R T B o).2.2.end_=1/\(ownerD R T B o).1=T/\(o.at_=1\/o.at_=4))):=by
  obtain⟨owner,htop,lo,few⟩:=h;obtain⟨st,a,top,bot,gt,en⟩:=o;obtain⟨o1,o2,⟨ot1,ot2⟩,o3⟩:=owner;simp only at o1 o2 ot1 ot2 o3;subst o1 o2;unfold ownerD
  by_cases a0:a=0
  · rw[if_pos a0];exact⟨fun q=>by have q:T<B - 1:=q;omega, .inl ⟨rfl,rfl,by show a+1<=1;omega,by show(1:Int)<=3;decide,by show 0<=a;omega⟩⟩
  rw[if_neg a0];obtain⟨rfl,o3⟩:=o3.resolve_left a0
  by_cases a1:a=1
  · rw[if_pos a1]
    by_cases h1:T<bot
    · rw[if_pos h1];exact⟨fun q=>q, .inr (.inr (.inr ⟨rfl,rfl, .inl a1⟩))⟩
    · rw[if_neg h1]
      by_cases h2:T=bot
      · rw[if_pos h2];exact⟨fun q=>q, .inl ⟨rfl,rfl,by show a+1<=2;omega,by show(2:Int)<=3;decide,by show 0<=a;omega⟩⟩
      · rw[if_neg h2];exact⟨fun q=>q, .inl ⟨rfl,rfl,by show a+1<=3;omega,by show(3:Int)<=3;decide,by show 0<=a;omega⟩⟩
  rw[if_neg a1]
  by_cases a2:a=2
  · rw[if_pos a2]
    by_cases h1:T=top
    · rw[if_pos h1];exact⟨fun q=>by have q:T+1<bot:=q;omega, .inr (.inl ⟨rfl,rfl,a2⟩)⟩
    · rw[if_neg h1];exact⟨fun q=>q, .inl ⟨rfl,rfl,by show a+1<=3;omega,by show(3:Int)<=3;decide,by show 0<=a;omega⟩⟩
  rw[if_neg a2];have hT:T=bot+1:=by omega
  refine⟨fun q=>by have q:T<bot+1:=q;omega,?_⟩
  by_cases a3:a=3
  · rw[if_pos a3];exact .inr (.inr (.inl ⟨rfl,rfl,by show bot+1<=T;omega,a3⟩))
  · rw[if_neg a3];exact .inr (.inr (.inr ⟨rfl,rfl, .inr (by show a=4;omega)⟩))
end
def leftC(L:List Int)(x:Int):Int:=L.getD x.toNat 0
theorem leftC_nat(L:List Int)(x:Nat):leftC L (x:Int)=L.getD x 0:=by unfold leftC;rw[Int.toNat_natCast]
theorem leftC_mem{L:List Int}{x:Nat}(h:x<L.length):leftC L (x:Int)∈L:=by
 rw[leftC_nat,List.getD_eq_getElem?_getD,List.getElem?_eq_getElem h]
 exact List.getElem_mem h
def OverC(E:List (Int×Int))(L:List Int)(x:Int):Prop:=∀ e∈E,e.2=x-> ¬0<leftC L e.1
instance (E:List (Int×Int)) (L:List Int) (x:Int):Decidable (OverC E L x):=by unfold OverC;infer_instance
structure CrewOk(n:Nat)(E:List (Int×Int))(O L:List Int):Prop where
 lo:1<=O.length
 hi:O.length<=8
 ln:L.length=n
 left: ∀z∈L,0<=z/\z<=1000
 done: ∀x:Nat,x<n->leftC L (x:Int)=0->OverC E L (x:Int)
 on: ∀x∈O,x= -1\/((0<=x/\x<n)/\leftC L x≠0/\OverC E L x)
 once: ∀x,x≠ -1->O.count x<=1
def ReadyC(E:List (Int×Int))(O L:List Int)(x:Nat):Prop:=0<leftC L (x:Int)/\(x:Int)∉O/\OverC E L (x:Int)
instance (E:List (Int×Int)) (O L:List Int) (x:Nat):Decidable (ReadyC E O L x):=by unfold ReadyC;infer_instance
def readyU(n:Nat)(E:List (Int×Int))(O L:List Int):List Nat:=(List.range n).filter fun x=>decide (ReadyC E O L x)
theorem mem_readyU{n:Nat}{E:List (Int×Int)}{O L:List Int}{x:Nat}:x∈readyU n E O L↔x<n/\ReadyC E O L x:=by
 unfold readyU;rw[List.mem_filter,List.mem_range,decide_eq_true_iff]
def fillOne(n:Nat)(E:List (Int×Int))(L O:List Int)(i:Nat):List Int:=
 if O.getD i 0= -1 then match readyU n E O L with
  | []=>O
  |x::_=>O.set i (x:Int)
 else O
def fillK(n:Nat)(E:List (Int×Int))(L O:List Int):Nat->List Int
 |0=>O
 |k+1=>fillOne n E L (fillK n E L O k) k
def fillC(n:Nat)(E:List (Int×Int))(L O:List Int):List Int:=fillK n E L O O.length
def leftT(O L:List Int):List Int:=(List.range L.length).map fun(x:Nat)=>leftC L (x:Int) - if(x:Int)∈O then 1 else 0
def onT(O L:List Int):List Int:=O.map fun x=>if x≠ -1/\leftC L x=1 then -1 else x
def doneT(O L:List Int):List Nat:=(List.range L.length).filter fun x=>decide ((x:Int)∈O/\leftC L (x:Int)=1)
section
variable {n: Nat} {E: List (Int × Int)} {O L: List Int}
theorem CrewOk.pos(h:CrewOk n E O L){x:Int}(h0:0<=x)(hx:x<n):0<=leftC L x/\leftC L x<=1000:=by
 obtain⟨m,rfl⟩: ∃m:Nat,x=m:=⟨x.toNat,by omega⟩
 exact h.left _ (leftC_mem (by rw[h.ln];omega))
theorem mem_set_ready{i x:Nat}{y:Int}(h:y∈O.set i (x:Int)):y∈O\/y=x:=List.mem_or_eq_of_mem_set h
theorem fillOne_cases(n:Nat)(E:List (Int×Int))(L O:List Int)(i:Nat):fillOne n E L O i=O\/ ∃x r,O.getD i 0= -1/\readyU n E O L=x::r/\fillOne n E L O i=O.set i (x:Int):=by
 unfold fillOne
 split
 ·next h =>
  split
  ·exact .inl rfl
  ·next x r hr=>exact .inr ⟨x,r,h,hr,rfl⟩
 ·exact .inl rfl
theorem fillOne_len(n:Nat)(E:List (Int×Int))(L O:List Int)(i:Nat):(fillOne n E L O i).length=O.length:=by
 rcases fillOne_cases n E L O i with h|⟨x,r,_,_,h⟩<;>rw[h]
 exact List.length_set
theorem fillK_len(n:Nat)(E:List (Int×Int))(L O:List Int): ∀k,(fillK n E L O k).length=O.length
 |0=>rfl
 |k+1=>by show(fillOne n E L (fillK n E L O k) k).length=_;rw[fillOne_len,fillK_len n E L O k]
theorem getD_set_self{l:List Int}{i:Nat}(h:i<l.length)(z d:Int):(l.set i z).getD i d=z:=by
 rw[List.getD_eq_getElem?_getD,List.getElem?_set_self h];rfl
theorem getD_set_ne{l:List Int}{i j:Nat}(h:i≠j)(z d:Int):(l.set i z).getD j d=l.getD j d:=by
 rw[List.getD_eq_getElem?_getD,List.getElem?_set_ne h,<-List.getD_eq_getElem?_getD]
theorem readyU_head{x:Nat}{r:List Nat}(h:readyU n E O L=x::r):x<n/\ReadyC E O L x:=mem_readyU.mp (by rw[h];exact List.mem_cons_self)
theorem CrewOk.fillOne(h:CrewOk n E O L){i:Nat}(hi:i<O.length):CrewOk n E (fillOne n E L O i) L:=by
 rcases fillOne_cases n E L O i with e|⟨x,r,h0,hr,e⟩<;>rw[e]
 ·exact h
 ·obtain ⟨hx,r1,r2,r3⟩:=readyU_head hr
  refine⟨by rw[List.length_set];exact h.lo,by rw[List.length_set];exact h.hi,h.ln,h.left,h.done,fun y hy=> ?_,fun y hy=> ?_⟩
  ·rcases mem_set_ready hy with hy | rfl
   ·exact h.on y hy
   ·exact .inr ⟨⟨by omega,by omega⟩,by omega,r3⟩
  ·rw [List.count_set hi]
   have h1:=h.once y hy
   by_cases hxy:(x:Int)=y
   ·have h2: O.count y = 0:=List.count_eq_zero.mpr (by rw [<- hxy]; exact r2)
    rw[h2]
    split<;>split<;>omega
   ·have h3: ((x: Int) == y) = false:=by simpa using hxy
    rw[h3];simp only[Bool.false_eq_true,if_false];omega
theorem CrewOk.fillK(h:CrewOk n E O L): ∀k,k<=O.length->CrewOk n E (fillK n E L O k) L
 |0,_=>h
 |k+1,hk=>(CrewOk.fillK h k (by omega)).fillOne (by rw[fillK_len];omega)
theorem CrewOk.fill(h:CrewOk n E O L):CrewOk n E (fillC n E L O) L:=h.fillK _ (Nat.le_refl _)
theorem fillC_len(n:Nat)(E:List (Int×Int))(L O:List Int):(fillC n E L O).length=O.length:=fillK_len n E L O _
theorem fillK_full: ∀k,k<=O.length->readyU n E (fillK n E L O k) L= []\/ ∀j,j<k->(fillK n E L O k).getD j 0≠ -1
  |0,_=> .inr fun j hj=>absurd hj (by omega)
  | k + 1, hk => by
    have hl:k<(fillK n E L O k).length:=by rw[fillK_len];omega
    show readyU n E (fillOne n E L (fillK n E L O k) k) L= []\/ ∀j,j<k+1->(fillOne n E L (fillK n E L O k) k).getD j 0≠ -1
    rcases fillK_full k (by omega)with h|h
    · left
      have:fillOne n E L (fillK n E L O k) k=fillK n E L O k:=by unfold fillOne;rw[h];split<;>rfl
      rw[this];exact h
    · rcases fillOne_cases n E L (fillK n E L O k) k with e|⟨x,r,h0,hr,e⟩
      · by_cases h1:(fillK n E L O k).getD k 0= -1
        · left
          rw[e];cases hr:readyU n E (fillK n E L O k) L with
          |nil=>rfl
          | cons x r =>
            exfalso
            have h2:fillOne n E L (fillK n E L O k) k=(fillK n E L O k).set k (x:Int):=by unfold fillOne;rw[if_pos h1,hr]
            rw[e]at h2;have h3:=getD_set_self hl (x:Int) 0;rw[<-h2,h1]at h3;omega
        · right
          intro j hj;rw[e];rcases Nat.lt_or_ge j k with h2|h2
          · exact h j h2
          · obtain rfl:j=k:=by omega
            exact h1
      · right
        intro j hj;rw[e];rcases Nat.lt_or_ge j k with h2|h2
        · rw[getD_set_ne (by omega)];exact h j h2
        · obtain rfl:j=k:=by omega
          rw[getD_set_self hl];omega
theorem not_idle{l:List Int}(h: ∀j,j<l.length->l.getD j 0≠ -1):(-1)∉l:=fun hm=>by
 obtain⟨j,hj,he⟩:=List.getElem_of_mem hm;refine h j hj ?_
 rw[List.getD_eq_getElem?_getD,List.getElem?_eq_getElem hj]
 exact he
theorem fillC_full:readyU n E (fillC n E L O) L= []\/(-1)∉fillC n E L O:=by
 rcases fillK_full (n:=n) (E:=E) (L:=L) (O:=O) O.length (Nat.le_refl _)with h|h
 ·exact .inl h
 ·exact .inr (not_idle fun j hj=>h j (by rw[fillC_len]at hj;exact hj))
theorem leftT_len(O L:List Int):(leftT O L).length=L.length:=by simp[leftT]
theorem leftT_at{x:Nat}(h:x<L.length):leftC (leftT O L) (x:Int)=leftC L (x:Int) - if(x:Int)∈O then 1 else 0:=by
 rw[leftC_nat,List.getD_eq_getElem?_getD,leftT,List.getElem?_map,List.getElem?_range h]
 rfl
theorem onT_len(O L:List Int):(onT O L).length=O.length:=by simp[onT]
theorem onT_at{i:Nat}(h:i<O.length):(onT O L).getD i 0=if O.getD i 0≠ -1/\leftC L (O.getD i 0)=1 then -1 else O.getD i 0:=by
 unfold onT;rw[List.getD_eq_getElem?_getD,List.getElem?_map,List.getD_eq_getElem?_getD,List.getElem?_eq_getElem h]
 rfl
theorem mem_onT{x:Int}(hx:x≠ -1):x∈onT O L↔x∈O/\leftC L x≠1:=by
 unfold onT;rw[List.mem_map];constructor
 ·rintro ⟨y,hy,he⟩
  by_cases h:y≠ -1/\leftC L y=1
  ·rw[if_pos h]at he;exact absurd he.symm hx
  ·rw [if_neg h] at he
   subst he;exact⟨hy,fun h1=>h ⟨hx,h1⟩⟩
 ·rintro ⟨h1,h2⟩
  exact⟨x,h1,if_neg fun h=>h2 h.2⟩
theorem mem_doneT{x:Nat}:x∈doneT O L↔x<L.length/\(x:Int)∈O/\leftC L (x:Int)=1:=by
 unfold doneT;rw[List.mem_filter,List.mem_range,decide_eq_true_iff]
theorem count_map_le{f:Int->Int}{x:Int}(h: ∀y,f y=x->y=x): ∀l:List Int,(l.map f).count x<=l.count x
  | []=>by simp
  | y :: l => by
    have ih:=count_map_le h l;rw[List.map_cons,List.count_cons,List.count_cons]
    by_cases hy:f y=x
    · have:=h y hy;subst this;simp only[hy,beq_self_eq_true,if_true];omega
    · have:(f y==x)=false:=by simpa using hy
      rw[this];simp only[Bool.false_eq_true,if_false]
      split<;>omega
theorem OverC.mono{L':List Int}{x:Int}(h:OverC E L x)(hF:Fits n E)(hl: ∀m:Nat,m<n->leftC L' (m:Int)<=leftC L (m:Int)):OverC E L' x:=fun e he e2 hp=>by
 obtain⟨h1,h2,_,_⟩:=hF e he;obtain⟨m,hm⟩: ∃m:Nat,e.1=m:=⟨e.1.toNat,by omega⟩
 have h3:=hl m (by omega)
 have h4:=h e he e2;rw[hm]at hp h4;omega
theorem leftT_le{x:Nat}(h:x<L.length):leftC (leftT O L) (x:Int)<=leftC L (x:Int):=by
 rw[leftT_at h];split<;>omega
theorem CrewOk.tick(h:CrewOk n E O L)(hF:Fits n E):CrewOk n E (onT O L) (leftT O L):=by
 have hln:=h.ln;have hle: ∀m:Nat,m<n->leftC (leftT O L) (m:Int)<=leftC L (m:Int):=fun m hm=>leftT_le (by omega)
 have hon: ∀x:Nat,(x:Int)∈O->x<n/\leftC L (x:Int)≠0/\OverC E L (x:Int):=fun x hx=>by
  rcases h.on _ hx with h1|⟨⟨_,h1⟩,h2,h3⟩
  ·omega
  ·exact⟨by omega,h2,h3⟩
 have hpos: ∀m:Nat,m<n->0<=leftC L (m:Int)/\leftC L (m:Int)<=1000:=fun m hm=>h.pos (by omega) (by omega)
 have hleft: ∀m:Nat,m<n->0<=leftC (leftT O L) (m:Int):=fun m hm=>by
  rw[leftT_at (by omega)]
  split
  ·next hmo =>
   have:=(hon m hmo).2.1;have:=hpos m hm;omega
  ·have:=hpos m hm;omega
 refine⟨by rw[onT_len];exact h.lo,by rw[onT_len];exact h.hi,by rw[leftT_len];exact h.ln,fun z hz=> ?_,fun x hx h0=> ?_,fun x hx=> ?_,fun x hx=> ?_⟩
 ·obtain ⟨m,hm,he⟩:=List.getElem_of_mem hz
  rw[leftT_len]at hm;have h1:=hleft m (by omega)
  have h2:=hle m (by omega)
  have h3:=hpos m (by omega)
  have h4:leftC (leftT O L) (m:Int)=z:=by
   rw[leftC_nat,List.getD_eq_getElem?_getD,List.getElem?_eq_getElem (by rw[leftT_len];exact hm)]
   exact he
  omega
 ·rw [leftT_at (by omega)] at h0
  by_cases hxo:(x:Int)∈O
  ·exact((hon x hxo).2.2).mono hF hle
  ·rw [if_neg hxo] at h0
   exact(h.done x hx (by omega)).mono hF hle
 ·by_cases hx1: x = -1
  ·exact .inl hx1
  ·right
   obtain⟨h1,h2⟩:=(mem_onT hx1).mp hx;rcases h.on x h1 with h3|⟨⟨h3,h4⟩,h5,h6⟩
   ·exact absurd h3 hx1
   ·obtain ⟨m,rfl⟩: ∃ m: Nat,x = m:=⟨x.toNat,by omega⟩
    refine⟨⟨h3,h4⟩,?_,h6.mono hF hle⟩
    rw[leftT_at (by omega),if_pos h1]
    omega
 ·refine Nat.le_trans (count_map_le (fun y hy => ?_) O) (h.once x hx)
  split at hy
  ·exact absurd hy.symm hx
  ·exact hy
end
end Go.Proofs.YtngdbbligebcbabGreatDoor
