import Derived.Test.YtngdbbligebcbabGreatDoorZM16
import Derived.Test.YtngdbbligebcbabGreatDoorChecked
import Derived.ScopeJumps
import Derived.WalkMore
import Derived.Test.YtngdbbligebcbabGreatDoorZM5
import Derived.Below
import Derived.Laws.AppendOwn
set_option linter.unusedVariables false
set_option linter.unusedSimpArgs false
set_option maxRecDepth 100000
set_option maxHeartbeats 8000000
namespace Go.Proofs.YtngdbbligebcbabGreatDoor
open Go Go.RowKit
section
variable {A: Option Addr} {n c: Nat} {R: List Int}
def rowsR(A:Option Addr)(n c:Nat)(T B:Int)(t:Tkr)(one:Bool)(e:Int)(b:Bool):List (TypeId×List Value):=
 [(81,[.slice A n c,.int .i64 T,.int .i64 B]),(65,cT t),(4,[.bool one]),(81,[.slice none 0 0,.int .i64 0,.int .i64 0]),(65,cT (newTk false)),(31,[.int .i64 e]),(4,[.bool b])]
def mayG(n:Nat)(T B:Int)(t:Tkr)(one b:Bool):Bool:=decide (ChkQ n T B/\ ¬StopT one b t/\ ¬OverT t)
def mayE(n:Nat)(T B:Int)(t:Tkr)(one b:Bool):Int:=if¬ChkQ n T B then 120 else if StopT one b t then 0 else if OverT t then 122 else 0
theorem dmay_any(T B:Int)(t:Tkr)(one b:Bool)(z:Int)(wf wr:World)(hn:n<=1000)(hT:DTab wf)(B0:Rws wf (rowsR A n c T B t one z b) wr):
  Calls Tryz.prog 151 #[.pointer (some ⟨wf.heap.size,0,none⟩),.pointer (some ⟨wf.heap.size+1+1+1+1+1,0,none⟩),.pointer (some ⟨wf.heap.size+1+1+1+1+1+1,0,none⟩),.pointer (some ⟨wf.heap.size+1+1,0,none⟩),.pointer (some ⟨wf.heap.size+1,0,none⟩)] wr
   fun e w'=>e= .returned (.bool (mayG n T B t one b))/\Rws wf (rowsR A n c T B t one (mayE n T B t one b) (b||mayG n T B t one b)) w':=by
 obtain⟨st,a,tp,bt,gt,en⟩:=t;have CK:=Lib.hid (dcheck_any A n c T B wr hn (hT.via B0.bel));have B0h:=Lib.hid B0;obtain⟨x,hx⟩: ∃x,x=chkQE n T B:=⟨_,rfl⟩;rw[<-hx]at CK;have HX:=Lib.hid hx;clear B0 hT hx;have c00:=B0h.out.cell 0 0 rfl rfl;have c01:=B0h.out.cell 0 1 rfl rfl;have c02:=B0h.out.cell 0 2 rfl rfl;have c10:=B0h.out.cell 1 0 rfl rfl;have c11:=B0h.out.cell 1 1 rfl rfl;have c12:=B0h.out.cell 1 2 rfl rfl;have c13:=B0h.out.cell 1 3 rfl rfl;have c14:=B0h.out.cell 1 4 rfl rfl;have c15:=B0h.out.cell 1 5 rfl rfl;have c20:=B0h.out.cell 2 0 rfl rfl;have c50:=B0h.out.cell 5 0 rfl rfl;have zc50:=B0h.out.frozen 5 0 rfl;have c60:=B0h.out.cell 6 0 rfl rfl;have zc60:=B0h.out.frozen 6 0 rfl;simp only[Nat.add_zero]at c00 c01 c02
 by_cases hc: ¬ChkQ n T B
 ·have hg: mayG n T B ⟨st,a,tp,bt,gt,en⟩ one b = false:=decide_eq_false fun q => hc q.1
  have he:mayE n T B ⟨st,a,tp,bt,gt,en⟩ one b=120:=by unfold mayE;rw[if_pos hc]
  obtain rfl:x=120:=by rw[HX.out];unfold chkQE;rw[if_neg hc]
  rw[hg,he,Bool.or_false];clear hg he HX hc;go_enter Tryz.func151,Tryz.ntmps151;go_wp2_with fail;refine CK.out.mono ?_
  rintro e w1 ⟨rfl,b1⟩;have B1:=Lib.hid (B0h.out.next b1);clear b1 CK B0h;clear c00 c01 c02 c10 c11 c12 c13 c14 c15 c20 c50 zc50 c60 zc60;have c00:=B1.out.cell 0 0 rfl rfl;have c01:=B1.out.cell 0 1 rfl rfl;have c02:=B1.out.cell 0 2 rfl rfl;have c10:=B1.out.cell 1 0 rfl rfl;have c11:=B1.out.cell 1 1 rfl rfl;have c12:=B1.out.cell 1 2 rfl rfl;have c13:=B1.out.cell 1 3 rfl rfl;have c14:=B1.out.cell 1 4 rfl rfl;have c15:=B1.out.cell 1 5 rfl rfl;have c20:=B1.out.cell 2 0 rfl rfl;have c50:=B1.out.cell 5 0 rfl rfl;have zc50:=B1.out.frozen 5 0 rfl;have c60:=B1.out.cell 6 0 rfl rfl;have zc60:=B1.out.frozen 6 0 rfl;simp only[Nat.add_zero]at c00 c01 c02;have B2:=Lib.hid (B1.out.set 5 0 rfl (.int .i64 120));go_wp2;go_ret;exact⟨rfl,B2.out⟩
 replace hc:=Classical.not_not.mp hc;obtain rfl:x=0:=by rw[HX.out];unfold chkQE;rw[if_pos hc]
 have e1: ¬ ¬ChkQ n T B:=fun q=>q hc
 by_cases hs:StopT one b ⟨st,a,tp,bt,gt,en⟩
 ·have hg: mayG n T B ⟨st,a,tp,bt,gt,en⟩ one b = false:=decide_eq_false fun q => q.2.1 hs
  have he:mayE n T B ⟨st,a,tp,bt,gt,en⟩ one b=0:=by unfold mayE;rw[if_neg e1,if_pos hs]
  rw[hg,he,Bool.or_false];obtain⟨hb,hs⟩:=hs;subst hb;clear hg he HX e1 hc;cases one
  ·have hen: (en != 0) = true:=bne_iff_ne.mpr (hs.resolve_left (by decide))
   clear hs;go_enter Tryz.func151,Tryz.ntmps151;go_wp2_with fail;refine CK.out.mono ?_
   rintro e w1 ⟨rfl,b1⟩;have B1:=Lib.hid (B0h.out.next b1);clear b1 CK B0h;clear c00 c01 c02 c10 c11 c12 c13 c14 c15 c20 c50 zc50 c60 zc60;have c00:=B1.out.cell 0 0 rfl rfl;have c01:=B1.out.cell 0 1 rfl rfl;have c02:=B1.out.cell 0 2 rfl rfl;have c10:=B1.out.cell 1 0 rfl rfl;have c11:=B1.out.cell 1 1 rfl rfl;have c12:=B1.out.cell 1 2 rfl rfl;have c13:=B1.out.cell 1 3 rfl rfl;have c14:=B1.out.cell 1 4 rfl rfl;have c15:=B1.out.cell 1 5 rfl rfl;have c20:=B1.out.cell 2 0 rfl rfl;have c50:=B1.out.cell 5 0 rfl rfl;have zc50:=B1.out.frozen 5 0 rfl;have c60:=B1.out.cell 6 0 rfl rfl;have zc60:=B1.out.frozen 6 0 rfl;simp only[Nat.add_zero]at c00 c01 c02;have B2:=Lib.hid (B1.out.set 5 0 rfl (.int .i64 0));go_wp2;go_ret;exact⟨rfl,B2.out⟩
  ·clear hs
   go_enter Tryz.func151,Tryz.ntmps151;go_wp2_with fail;refine CK.out.mono ?_
   rintro e w1 ⟨rfl,b1⟩;have B1:=Lib.hid (B0h.out.next b1);clear b1 CK B0h;clear c00 c01 c02 c10 c11 c12 c13 c14 c15 c20 c50 zc50 c60 zc60;have c00:=B1.out.cell 0 0 rfl rfl;have c01:=B1.out.cell 0 1 rfl rfl;have c02:=B1.out.cell 0 2 rfl rfl;have c10:=B1.out.cell 1 0 rfl rfl;have c11:=B1.out.cell 1 1 rfl rfl;have c12:=B1.out.cell 1 2 rfl rfl;have c13:=B1.out.cell 1 3 rfl rfl;have c14:=B1.out.cell 1 4 rfl rfl;have c15:=B1.out.cell 1 5 rfl rfl;have c20:=B1.out.cell 2 0 rfl rfl;have c50:=B1.out.cell 5 0 rfl rfl;have zc50:=B1.out.frozen 5 0 rfl;have c60:=B1.out.cell 6 0 rfl rfl;have zc60:=B1.out.frozen 6 0 rfl;simp only[Nat.add_zero]at c00 c01 c02;have B2:=Lib.hid (B1.out.set 5 0 rfl (.int .i64 0));go_wp2;go_ret;exact⟨rfl,B2.out⟩
 have DO:=Lib.hid (fun W=>dover_any ⟨st,a,tp,bt,gt,en⟩ W)
 unfold vT at DO;simp only at DO;obtain⟨v,hv⟩: ∃v,v=decide (OverT ⟨st,a,tp,bt,gt,en⟩):=⟨_,rfl⟩;rw[<-hv]at DO;have hg:mayG n T B ⟨st,a,tp,bt,gt,en⟩ one b= !v:=by
  rw[hv];unfold mayG
  by_cases ho:OverT ⟨st,a,tp,bt,gt,en⟩
  ·rw[decide_eq_true ho,decide_eq_false (fun q=>q.2.2 ho)];rfl
  ·rw[decide_eq_false ho,decide_eq_true ⟨hc,hs,ho⟩];rfl
 have he:mayE n T B ⟨st,a,tp,bt,gt,en⟩ one b=if v=true then 122 else 0:=by
  rw[hv];unfold mayE;rw[if_neg e1,if_neg hs]
  by_cases ho:OverT ⟨st,a,tp,bt,gt,en⟩
  ·rw[if_pos ho,if_pos (decide_eq_true ho)]
  ·rw[if_neg ho,if_neg (fun q=>ho (of_decide_eq_true q))]
 rw[hg,he];have HS:Hid (b=false\/(b=true/\one=false/\(en !=0)=false)):=Lib.hid (by
  cases b
  ·exact .inl rfl
  ·refine .inr ⟨rfl,?_,?_⟩
   ·cases one
    ·rfl
    ·exact absurd ⟨rfl,.inl rfl⟩ hs
   ·cases h: (en != 0) with
    |false=>rfl
    |true=>exact absurd ⟨rfl,.inr (bne_iff_ne.mp h)⟩ hs)
 clear hg he HX e1 hc hs hv;rcases HS.out with rfl|⟨rfl,rfl,hen⟩
 ·clear HS
  go_enter Tryz.func151,Tryz.ntmps151;go_wp2_with fail;refine CK.out.mono ?_
  rintro e w1 ⟨rfl,b1⟩;have B1:=Lib.hid (B0h.out.next b1);clear b1 CK B0h;clear c00 c01 c02 c10 c11 c12 c13 c14 c15 c20 c50 zc50 c60 zc60;have c00:=B1.out.cell 0 0 rfl rfl;have c01:=B1.out.cell 0 1 rfl rfl;have c02:=B1.out.cell 0 2 rfl rfl;have c10:=B1.out.cell 1 0 rfl rfl;have c11:=B1.out.cell 1 1 rfl rfl;have c12:=B1.out.cell 1 2 rfl rfl;have c13:=B1.out.cell 1 3 rfl rfl;have c14:=B1.out.cell 1 4 rfl rfl;have c15:=B1.out.cell 1 5 rfl rfl;have c20:=B1.out.cell 2 0 rfl rfl;have c50:=B1.out.cell 5 0 rfl rfl;have zc50:=B1.out.frozen 5 0 rfl;have c60:=B1.out.cell 6 0 rfl rfl;have zc60:=B1.out.frozen 6 0 rfl;simp only[Nat.add_zero]at c00 c01 c02;obtain⟨w2,hw2,B2⟩: ∃w2,w2=w1.setCell ⟨wf.heap.size+1+1+1+1+1,0,none⟩ (.int .i64 0)/\Hid (Rws wf (rowsR A n c T B ⟨st,a,tp,bt,gt,en⟩ one 0 false) w2):=⟨_,rfl,Lib.hid (B1.out.set 5 0 rfl (.int .i64 0))⟩;have HW2:=Lib.hid hw2;clear hw2;go_wp2_with fail;rw[<-HW2.out];refine(DO.out w2).mono ?_
  rintro e w3 ⟨rfl,b3⟩;have B3:=Lib.hid (B2.out.next b3);clear b3 B2 B1 DO HW2;clear c00 c01 c02 c10 c11 c12 c13 c14 c15 c20 c50 zc50 c60 zc60;have c00:=B3.out.cell 0 0 rfl rfl;have c01:=B3.out.cell 0 1 rfl rfl;have c02:=B3.out.cell 0 2 rfl rfl;have c10:=B3.out.cell 1 0 rfl rfl;have c11:=B3.out.cell 1 1 rfl rfl;have c12:=B3.out.cell 1 2 rfl rfl;have c13:=B3.out.cell 1 3 rfl rfl;have c14:=B3.out.cell 1 4 rfl rfl;have c15:=B3.out.cell 1 5 rfl rfl;have c20:=B3.out.cell 2 0 rfl rfl;have c50:=B3.out.cell 5 0 rfl rfl;have zc50:=B3.out.frozen 5 0 rfl;have c60:=B3.out.cell 6 0 rfl rfl;have zc60:=B3.out.frozen 6 0 rfl;simp only[Nat.add_zero]at c00 c01 c02;cases v
  ·have B4:=Lib.hid (B3.out.set 6 0 rfl (.bool true))
   go_wp2;go_ret
   exact⟨rfl,B4.out⟩
  ·have B4:=Lib.hid (B3.out.set 5 0 rfl (.int .i64 122))
   go_wp2;go_ret
   exact⟨rfl,B4.out⟩
 ·clear HS
  go_enter Tryz.func151,Tryz.ntmps151;go_wp2_with fail;refine CK.out.mono ?_
  rintro e w1 ⟨rfl,b1⟩;have B1:=Lib.hid (B0h.out.next b1);clear b1 CK B0h;clear c00 c01 c02 c10 c11 c12 c13 c14 c15 c20 c50 zc50 c60 zc60;have c00:=B1.out.cell 0 0 rfl rfl;have c01:=B1.out.cell 0 1 rfl rfl;have c02:=B1.out.cell 0 2 rfl rfl;have c10:=B1.out.cell 1 0 rfl rfl;have c11:=B1.out.cell 1 1 rfl rfl;have c12:=B1.out.cell 1 2 rfl rfl;have c13:=B1.out.cell 1 3 rfl rfl;have c14:=B1.out.cell 1 4 rfl rfl;have c15:=B1.out.cell 1 5 rfl rfl;have c20:=B1.out.cell 2 0 rfl rfl;have c50:=B1.out.cell 5 0 rfl rfl;have zc50:=B1.out.frozen 5 0 rfl;have c60:=B1.out.cell 6 0 rfl rfl;have zc60:=B1.out.frozen 6 0 rfl;simp only[Nat.add_zero]at c00 c01 c02;obtain⟨w2,hw2,B2⟩: ∃w2,w2=w1.setCell ⟨wf.heap.size+1+1+1+1+1,0,none⟩ (.int .i64 0)/\Hid (Rws wf (rowsR A n c T B ⟨st,a,tp,bt,gt,en⟩ false 0 true) w2):=⟨_,rfl,Lib.hid (B1.out.set 5 0 rfl (.int .i64 0))⟩;have HW2:=Lib.hid hw2;clear hw2;go_wp2_with fail;rw[<-HW2.out];refine(DO.out w2).mono ?_
  rintro e w3 ⟨rfl,b3⟩;have B3:=Lib.hid (B2.out.next b3);clear b3 B2 B1 DO HW2;clear c00 c01 c02 c10 c11 c12 c13 c14 c15 c20 c50 zc50 c60 zc60;have c00:=B3.out.cell 0 0 rfl rfl;have c01:=B3.out.cell 0 1 rfl rfl;have c02:=B3.out.cell 0 2 rfl rfl;have c10:=B3.out.cell 1 0 rfl rfl;have c11:=B3.out.cell 1 1 rfl rfl;have c12:=B3.out.cell 1 2 rfl rfl;have c13:=B3.out.cell 1 3 rfl rfl;have c14:=B3.out.cell 1 4 rfl rfl;have c15:=B3.out.cell 1 5 rfl rfl;have c20:=B3.out.cell 2 0 rfl rfl;have c50:=B3.out.cell 5 0 rfl rfl;have zc50:=B3.out.frozen 5 0 rfl;have c60:=B3.out.cell 6 0 rfl rfl;have zc60:=B3.out.frozen 6 0 rfl;simp only[Nat.add_zero]at c00 c01 c02;cases v
  ·have B4:=Lib.hid (B3.out.set 6 0 rfl (.bool true))
   go_wp2;go_ret
   exact⟨rfl,B4.out⟩
  ·have B4:=Lib.hid (B3.out.set 5 0 rfl (.int .i64 122))
   go_wp2;go_ret
   exact⟨rfl,B4.out⟩
end
end Go.Proofs.YtngdbbligebcbabGreatDoor
namespace Go.Proofs.YtngdbbligebcbabGreatDoor
open Go
def toLabels(K:Nat->Act->World->Prop)(Q:Exit->Act->World->Prop):Exit->Act->World->Prop
 | .goto l,a,w=>l<5/\K l a w
 | .normal,a,w=>Q .normal a w
 | .exit b,a,w=>Q (.exit b) a w
 | .ret,a,w=>Q .ret a w
 | .panic ch,a,w=>Q (.panic ch) a w
 | .outgrown,a,w=>Q .outgrown a w
def lowers(J:Nat->Nat->Act->World->Prop)(m:Nat):Nat->Act->World->Prop:=fun l a w=> ∃m',m'<m/\J m' l a w
theorem wp_scope_five{P:Program}{a:Act}{w:World}{Q:Exit->Act->World->Prop}{X r1 r2 r3 r4:Code}(J:Nat->Nat->Act->World->Prop)
    (f1:findLabel ((Code.label 0).seq X) 1=some r1) (f2:findLabel ((Code.label 0).seq X) 2=some r2) (f3:findLabel ((Code.label 0).seq X) 3=some r3) (f4:findLabel ((Code.label 0).seq X) 4=some r4)
    (start: ∃m,J m 0 a w)
    (p0: ∀m a w,J m 0 a w->X.wp P (toLabels (lowers J m) Q) a w) (p1: ∀m a w,J m 1 a w->r1.wp P (toLabels (lowers J m) Q) a w) (p2: ∀m a w,J m 2 a w->r2.wp P (toLabels (lowers J m) Q) a w)
    (p3: ∀m a w,J m 3 a w->r3.wp P (toLabels (lowers J m) Q) a w) (p4: ∀m a w,J m 4 a w->r4.wp P (toLabels (lowers J m) Q) a w):(Code.scope ((Code.label 0).seq X)).wp P Q a w:=by
  have first:((Code.label 0).seq X).wp P (toLabels (fun l a w=> ∃m,J m l a w) Q) a w:=by
    obtain⟨m,hm⟩:=start;refine wp_seq (wp_label ?_)
    refine Code.wp_mono (fun e a w h=> ?_) (p0 m a w hm)
    cases e with
    | goto l =>
      obtain⟨h1,m',_,h2⟩:=h;exact⟨h1,m',h2⟩
    |normal=>exact h
    |exit b=>exact h
    |ret=>exact h
    |panic ch=>exact h
    |outgrown=>exact h
  obtain⟨c,hc⟩: ∃c,c=(Code.label 0).seq X:=⟨_,rfl⟩;have f0:findLabel c 0=some (Code.skip.seq X):=by rw[hc];rfl
  have q0: ∀m a w,J m 0 a w->(Code.skip.seq X).wp P (toLabels (lowers J m) Q) a w:=fun m a w h=>wp_seq (wp_skip (p0 m a w h))
  obtain⟨r0,hr0⟩: ∃r0,r0=Code.skip.seq X:=⟨_,rfl⟩;rw[<-hc]at f1 f2 f3 f4 first⊢;rw[<-hr0]at f0 q0;obtain⟨r,hr,hp⟩: ∃r:Nat->Code,(∀l,l<5->findLabel c l=some (r l))/\ ∀m l a w,l<5->J m l a w->(r l).wp P (toLabels (lowers J m) Q) a w:=by
    refine⟨fun l=>match l with|0=>r0|1=>r1|2=>r2|3=>r3|_=>r4,fun l hl=> ?_,fun m l a w hl h=> ?_⟩
    · obtain rfl|rfl|rfl|rfl|rfl:l=0\/l=1\/l=2\/l=3\/l=4:=by omega
      · exact f0
      · exact f1
      · exact f2
      · exact f3
      · exact f4
    · obtain rfl|rfl|rfl|rfl|rfl:l=0\/l=1\/l=2\/l=3\/l=4:=by omega
      · exact q0 m a w h
      · exact p1 m a w h
      · exact p2 m a w h
      · exact p3 m a w h
      · exact p4 m a w h
  intro b k cs;have hgo: ∀l,l<5->gotoIn l (.inScope c::k)=some (.code (r l):: .inScope c::k):=fun l hl=>by
    unfold gotoIn;simp[hr l hl]
  have on: ∀(m l:Nat) (a:Act) (w:World),l<5->J m l a w-> ∃e a' w',Q e a' w'/\Arrives P (lone (b.at a (.code (r l):: .inScope c::k)) cs w) b k cs e a' w':=by
    intro m
    induction m using Nat.strongRecOn with
    | _ m ih =>
      intro l a w hl hJ;obtain⟨e,a1,w1,h1,h2⟩:=hp m l a w hl hJ b (.inScope c::k) cs
      match e,h1,h2 with
      | .goto l', ⟨hl', m', hm, hJ'⟩, h2 =>
        obtain⟨e2,a2,w2,h3,h4⟩:=ih m' hm l' a1 w1 hl' hJ';exact⟨e2,a2,w2,h3, .of_steps (h2 _ (hgo l' hl')) h4⟩
      | .normal,h1,h2=>exact⟨_,a1,w1,h1,Steps.trans h2 (.one step_inScope)⟩
      | .exit id,h1,h2=>exact⟨_,a1,w1,h1,fun k' hk=>h2 k' (by simp[exitTo,hk])⟩
      | .ret,h1,h2=>exact⟨_,a1,w1,h1,h2⟩
      | .panic ch,h1,h2=>exact⟨_,a1,w1,h1,h2⟩
      | .outgrown,h1,h2=>exact⟨_,a1,w1,h1,h2⟩
  obtain⟨e,a1,w1,h1,h2⟩:=first b (.inScope c::k) cs
  match e,h1,h2 with
  | .goto l', ⟨hl', m', hJ'⟩, h2 =>
    obtain⟨e2,a2,w2,h3,h4⟩:=on m' l' a1 w1 hl' hJ';exact⟨e2,a2,w2,h3, .of_steps (.head step_scope (h2 _ (hgo l' hl'))) h4⟩
  | .normal,h1,h2=>exact⟨_,a1,w1,h1, .head step_scope (Steps.trans h2 (.one step_inScope))⟩
  | .exit id,h1,h2=>exact⟨_,a1,w1,h1,fun k' hk=> .head step_scope (h2 k' (by simp[exitTo,hk]))⟩
  | .ret,h1,h2=>exact⟨_,a1,w1,h1, .of_steps (.one step_scope) h2⟩
  | .panic ch,h1,h2=>exact⟨_,a1,w1,h1, .of_steps (.one step_scope) h2⟩
  | .outgrown,h1,h2=>exact⟨_,a1,w1,h1, .of_steps (.one step_scope) h2⟩
end Go.Proofs.YtngdbbligebcbabGreatDoor
namespace Go.Proofs.YtngdbbligebcbabGreatDoor
open Go Go.RowKit
section
variable {P: Program} {ops: Array Oper} {Q: Exit -> Act -> World -> Prop}
structure AtDoor(a0:Act)(ds:List Nat)(ρ:Operand->Value):Prop where
 const: ∀v,ρ (.const v)=v
 tmp: ∀t,t∉ds->ρ (.tmp t)=a0.eval (.tmp t)
theorem atDoor_start(a0:Act)(ds:List Nat):AtDoor a0 ds a0.eval:=⟨fun _=>rfl,fun _ _=>rfl⟩
theorem eval_put_same(a:Act)(d:Nat)(v:Value)(h:d<a.tmps.size):(a.put (some d) v).eval (.tmp d)=v:=by
 show(a.tmps.setIfInBounds d v).getD d undef=v
 simp[h]
theorem eval_put_other(a:Act)(d t:Nat)(v:Value)(h:t≠d):(a.put (some d) v).eval (.tmp t)=a.eval (.tmp t):=by
 show(a.tmps.setIfInBounds d v).getD t undef=a.tmps.getD t undef
 simp[Array.getElem?_setIfInBounds_ne (Ne.symm h)]
theorem AtDoor.put{a0 a:Act}{ds:List Nat}(h:AtDoor a0 ds a.eval){d:Nat}(hd:d∈ds)(v:Value):AtDoor a0 ds (a.put (some d) v).eval:=
 ⟨fun _=>rfl,fun t ht=>(eval_put_other a d t v (fun e=>ht (e▸hd))).trans (h.tmp t ht)⟩
structure Gather(ops:Array Oper)(n:Nat)(ds:List Nat):Prop where
 size:ops.size=n+1
 len:ds.length=n
 guard: ∀(k:Nat) (o:Oper),ops[k]? =some o->o.guard=none
 back: ∀(i:Nat) (o:Oper),ops[i]? =some o-> ∀e∈o.after,e.on<i
 nodup:ds.Nodup
 dst: ∀(k:Nat) (o:Oper),k<n->ops[k]? =some o->o.dst=some (ds.getD k 0)
 last: ∀(o:Oper),ops[n]? =some o-> ∀k,k<n-> ∃e∈o.after,e.on=k/\Region.binds .any e=true
theorem getD_set_iff{l:Array Bool}{i k:Nat}(hi:i<l.size):(l.setIfInBounds i true).getD k false=true↔k=i\/l.getD k false=true:=by
 constructor
 ·exact listed_set
 ·rintro (rfl | h)
  ·simp[hi]
  ·by_cases hik: i = k
   ·subst hik;simp[hi]
   ·simpa[Array.getElem?_setIfInBounds_ne hik]using h
def fillL(ds:List Nat)(vals:Nat->Value):Nat->List Value->List Value
 |_,[]=> []
 |t,x::l=>(bif ds.contains t then vals t else x)::fillL ds vals (t+1) l
theorem fillL_at(ds:List Nat)(vals:Nat->Value): ∀(l:List Value) (t i:Nat),(fillL ds vals t l)[i]? =l[i]?.map fun x=>bif ds.contains (t+i)then vals (t+i)else x
  | [],t,i=>by simp[fillL]
  |x::l,t,0=>by simp[fillL]
  | x :: l, t, i + 1 => by
    have:=fillL_at ds vals l (t+1) i;rw[show t+1+i=t+(i+1) by omega]at this
    simpa[fillL]using this
def fillA(a0:Act)(ds:List Nat)(vals:Nat->Value):List Value:=fillL ds vals 0 a0.tmps.toList
theorem act_fill{a0 a:Act}{ds:List Nat}(h:AtDoor a0 ds a.eval)(hs:a.tmps.size=a0.tmps.size)(hd:a.defers=a0.defers):a=⟨(fillA a0 ds fun t=>a.eval (.tmp t)).toArray,a0.defers⟩:=by
  obtain⟨tmps,defers⟩:=a;obtain rfl:defers=a0.defers:=hd;congr 1;apply Array.toList_inj.mp;apply List.ext_getElem?
  intro t;unfold fillA;rw[fillL_at,Nat.zero_add];rcases Nat.lt_or_ge t tmps.size with ht|ht
  · have ht0:t<a0.tmps.toList.length:=by simpa[<-hs]using ht
    have e1:(Act.mk tmps a0.defers).eval (.tmp t)=tmps[t]:=by
      show tmps.getD t undef=_
      simp[ht]
    rw[List.getElem?_eq_getElem ht0,List.getElem?_eq_getElem (by simpa using ht)]
    simp only[Option.map_some,Array.getElem_toList,Option.some.injEq];cases hc:ds.contains t with
    |true=>exact e1.symm
    | false =>
      have:=h.tmp t (fun q=>by rw[List.contains_iff_mem.mpr q]at hc;cases hc)
      rw[e1]at this;rw[this];show a0.tmps.getD t undef=_
      have ht1:t<a0.tmps.size:=by simpa using ht0
      simp[ht1]
  · rw[List.getElem?_eq_none (by simpa using ht),List.getElem?_eq_none (by simpa[<-hs]using ht)]
    rfl
end
section
variable {P: Program} {ops: Array Oper} {Q: Exit -> Act -> World -> Prop}
def factsB(ops:Array Oper)(ds:List Nat)(wt:List Bool):Bool:=
  ops.size==ds.length&&backB ops&&decide ds.Nodup&&
  ((List.range ds.length).all fun k=>(match ops[k]? with|some o=>o.dst==some (ds.getD k 0)|none=>false))&&
  ((List.range ds.length).all fun k => (match ops[k]? with
    |some o=>(match o.guard with|some g=>decide (g.1<k)&&o.after.any (fun e=>e.on==g.1&&Region.binds .any e)|none=>wt.getD k true)
    |none=>false))
structure Facts(ops:Array Oper)(ds:List Nat)(wt:List Bool):Prop where
 size:ops.size=ds.length
 back: ∀(i:Nat) (o:Oper),ops[i]? =some o-> ∀e∈o.after,e.on<i
 nodup:ds.Nodup
 dst: ∀(k:Nat) (o:Oper),ops[k]? =some o->o.dst=some (ds.getD k 0)
 guard: ∀(k:Nat) (o:Oper) (g:Nat) (b:Bool),ops[k]? =some o->o.guard=some (g,b)->g<k/\ ∃e∈o.after,e.on=g/\Region.binds .any e=true
 free: ∀(k:Nat) (o:Oper),ops[k]? =some o->o.guard=none->wt.getD k true=true
theorem facts_of{ds:List Nat}{wt:List Bool}(h:factsB ops ds wt=true):Facts ops ds wt:=by
 unfold factsB at h;simp only[Bool.and_eq_true,beq_iff_eq,decide_eq_true_iff]at h;obtain⟨⟨⟨⟨h1,h2⟩,h3⟩,h4⟩,h5⟩:=h;have hk: ∀(k:Nat) (o:Oper),ops[k]? =some o->k<ds.length:=fun k o ho=>h1▸(Array.getElem?_eq_some_iff.1 ho).1
 refine⟨h1,back_of h2,h3,fun k o ho=> ?_,fun k o g b ho hg=> ?_,fun k o ho hg=> ?_⟩
 ·have:=List.all_eq_true.1 h4 k (List.mem_range.2 (hk k o ho))
  rw[ho]at this
  simpa using this
 ·have:=List.all_eq_true.1 h5 k (List.mem_range.2 (hk k o ho))
  rw[ho]at this;simp only[hg,Bool.and_eq_true,decide_eq_true_iff]at this;obtain⟨e,he,h8⟩:=Array.any_eq_true'.1 this.2
  rw[Bool.and_eq_true,beq_iff_eq]at h8;exact⟨this.1,e,he,h8.1,h8.2⟩
 ·have:=List.all_eq_true.1 h5 k (List.mem_range.2 (hk k o ho))
  rw[ho]at this
  simpa only[hg]using this
theorem fds_mem{ds:List Nat}{k:Nat}(hk:k<ds.length):ds.getD k 0∈ds:=by
 rw[List.getD_eq_getElem?_getD,List.getElem?_eq_getElem hk]
 exact List.getElem_mem hk
theorem fds_inj{ds:List Nat}(h:ds.Nodup){k j:Nat}(hk:k<ds.length)(hj:j<ds.length)(e:ds.getD k 0=ds.getD j 0):k=j:=by
 rw[List.getD_eq_getElem?_getD,List.getElem?_eq_getElem hk,List.getD_eq_getElem?_getD,List.getElem?_eq_getElem hj]at e
 exact(List.getElem_inj h).mp e
theorem wp_region_facts(ds:List Nat)(wt:List Bool){id:Nat}{a0:Act}{w0:World}(hm:P.follows .mixedOrders=true)(hG:factsB ops ds wt=true)(hsz: ∀d∈ds,d<a0.tmps.size)
    (I:World->Prop) (Φ:Nat->Value->World->Prop)
    (hI: ∀w w',I w->Below w.heap.size w w'->I w') (hΦ: ∀k v w w',Φ k v w->Below w.heap.size w w'->Φ k v w')
    (h0:I {w0 with drawn:=w0.drawn+1})
    (hW: ∀(k:Nat) (o:Oper) (g:Nat) (b:Bool),ops[k]? =some o->o.guard=some (g,b)-> ∀v w,Φ g v w->v= .bool (if wt.getD k true=true then b else !b))
    (hskip: ∀k,wt.getD k true=false-> ∀w,Φ k undef w)
    (hstep: ∀(k:Nat) (o:Oper),ops[k]? =some o->wt.getD k true=true-> ∀(a:Act) (w:World),I w->AtDoor a0 ds a.eval->(∀e∈o.after,Region.binds .any e=true->Φ e.on (a.eval (.tmp (ds.getD e.on 0))) w)->
      ∀K:Act->World->Prop,(∀v w',Φ k v w'->Below w.heap.size w w'->K (a.put o.dst v) w')->o.wp P a w K Q)
    (hend: ∀(vals:Nat->Value) (w:World),I w->(∀k,k<ds.length->Φ k (vals (ds.getD k 0)) w)->Q .normal ⟨(fillA a0 ds vals).toArray,a0.defers⟩ w):
    (Code.region id ops true).wp P Q a0 w0:=by
  have G:=facts_of hG;refine wp_region_inv (fun l a w=>l.size=ds.length/\I w/\AtDoor a0 ds a.eval/\a.tmps.size=a0.tmps.size/\a.defers=a0.defers/\(∀k,k<ds.length->l.getD k false=true->Φ k (a.eval (.tmp (ds.getD k 0))) w)) hm ?_ ?_ ?_
  · refine⟨by rw[Array.size_replicate];exact G.size,h0,atDoor_start a0 ds,rfl,rfl,fun k hk h=> ?_⟩
    exfalso
    by_cases h2:k<ops.size<;>simp[h2]at h
  · rintro l a w i ⟨hls,hIw,hAD,hasz,hadf,hF⟩ hi;obtain⟨hun,o,ho,hpre⟩:=mem_ready.1 hi;have hilt:i<ops.size:=(Array.getElem?_eq_some_iff.1 ho).1
    have hin:i<ds.length:=by rw[<-G.size];exact hilt
    have hil:i<l.size:=by omega
    have hdep: ∀e∈o.after,Region.binds .any e=true->Φ e.on (a.eval (.tmp (ds.getD e.on 0))) w:=fun e he hb=>hF e.on (Nat.lt_trans (G.back i o ho e he) hin) (hpre e he hb)
    have hnext: ∀v w',Φ i v w'->Below w.heap.size w w'->(l.setIfInBounds i true).size=ds.length/\I w'/\AtDoor a0 ds (a.put o.dst v).eval/\(a.put o.dst v).tmps.size=a0.tmps.size/\(a.put o.dst v).defers=a0.defers/\(∀k,k<ds.length->(l.setIfInBounds i true).getD k false=true->Φ k ((a.put o.dst v).eval (.tmp (ds.getD k 0))) w'):=fun v w' hphi hb=>by
      rw[G.dst i o ho];refine⟨by rw[Array.size_setIfInBounds];exact hls,hI w w' hIw hb,hAD.put (fds_mem hin) v,?_,hadf,fun k hk hkl=> ?_⟩
      · show(a.tmps.setIfInBounds _ _).size=_
        rw[Array.size_setIfInBounds];exact hasz
      · by_cases hki:k=i
        · subst hki;rw[eval_put_same _ _ _ (by rw[hasz];exact hsz _ (fds_mem hin))]
          exact hphi
        · rw[eval_put_other _ _ _ _ (fun e=>hki (fds_inj G.nodup hk hin e))]
          exact hΦ k _ _ _ (hF k hk ((listed_set hkl).resolve_left hki)) hb
    unfold wpOp;rw[ho];have hyield: ∀g b,o.guard=some (g,b)->yielded ops a.tmps g=some (if wt.getD i true=true then b else !b):=fun g b hg=>by
      obtain⟨hgi,e,he,h1,h2⟩:=G.guard i o g b ho hg;have hv:=hW i o g b ho hg _ _ (by have:=hdep e he h2;rwa [h1]at this)
      obtain⟨og,hog⟩: ∃og,ops[g]? =some og:=⟨_,Array.getElem?_eq_getElem (by omega)⟩
      unfold yielded;rw[hog,Option.bind_some,G.dst g og hog,Option.bind_some];have hlt:ds.getD g 0<a.tmps.size:=by rw[hasz];exact hsz _ (fds_mem (by omega))
      rw[Array.getElem?_eq_getElem hlt]
      have:a.tmps[ds.getD g 0]= .bool (if wt.getD i true=true then b else !b):=by
        rw[<-hv];show _=a.tmps.getD (ds.getD g 0) undef
        rw[Array.getD_eq_getD_getElem?,Array.getElem?_eq_getElem hlt]
        rfl
      rw[this]
    cases hw:wt.getD i true with
    | true =>
      have hwant:Region.wanted o (yielded ops a.tmps)=true:=by
        unfold Region.wanted;cases hg:o.guard with
        |none=>rfl
        | some gb =>
          obtain⟨g,b⟩:=gb;show(yielded ops a.tmps g==some b)=true
          rw[hyield g b hg,hw];simp
      simp only[hwant,if_true];exact .inl (hstep i o ho hw a w hIw hAD hdep _ hnext)
    | false =>
      have hwant:Region.wanted o (yielded ops a.tmps)=false:=by
        unfold Region.wanted;cases hg:o.guard with
        | none =>
          have:=G.free i o ho hg;rw[hw]at this;cases this
        | some gb =>
          obtain⟨g,b⟩:=gb;show(yielded ops a.tmps g==some b)=false
          rw[hyield g b hg,hw];cases b<;>rfl
      simp only[hwant];exact hnext undef w (hskip i hw w) (Below.refl _ _)
  · rintro l a w ⟨hls,hIw,hAD,hasz,hadf,hF⟩ hr;have hall:=all_listed (by rw[hls,G.size]) G.back hr
    rw[act_fill hAD hasz hadf];exact hend (fun t=>a.eval (.tmp t)) w hIw fun k hk=>hF k hk (hall k (by rw[G.size];exact hk))
def guardsB(ops:Array Oper)(wt:List Bool)(gv:List (Nat×Bool)):Bool:=
 (List.range ops.size).all fun k => (match ops[k]? with
  |some o=>(match o.guard with|some (g,b)=>gv.any (fun p=>p.1==g&&p.2==(if wt.getD k true=true then b else !b))|none=>true)
  |none=>true)
theorem wp_region_facts'(ds:List Nat)(wt:List Bool)(gv:List (Nat×Bool)){id:Nat}{a0:Act}{w0:World}(hm:P.follows .mixedOrders=true)(hG:factsB ops ds wt=true)(hgB:guardsB ops wt gv=true)(hsz: ∀d∈ds,d<a0.tmps.size)
  (I:World->Prop) (Φ:Nat->Value->World->Prop)
  (hI: ∀w w',I w->Below w.heap.size w w'->I w') (hΦ: ∀k v w w',Φ k v w->Below w.heap.size w w'->Φ k v w')
  (h0:I {w0 with drawn:=w0.drawn+1})
  (hgv: ∀p∈gv,∀v w,Φ p.1 v w->v= .bool p.2)
  (hskip: ∀k,wt.getD k true=false-> ∀w,Φ k undef w)
  (hstep: ∀ (k: Nat) (o: Oper),ops[k]? = some o -> wt.getD k true = true -> ∀ (a: Act) (w: World),I w -> AtDoor a0 ds a.eval -> (∀ e ∈ o.after,Region.binds .any e = true -> Φ e.on (a.eval (.tmp (ds.getD e.on 0))) w) ->
   ∀K:Act->World->Prop,(∀v w',Φ k v w'->Below w.heap.size w w'->K (a.put o.dst v) w')->o.wp P a w K Q)
  (hend: ∀(vals:Nat->Value) (w:World),I w->(∀k,k<ds.length->Φ k (vals (ds.getD k 0)) w)->Q .normal ⟨(fillA a0 ds vals).toArray,a0.defers⟩ w):
  (Code.region id ops true).wp P Q a0 w0:=
 wp_region_facts ds wt hm hG hsz I Φ hI hΦ h0 (fun k o g b ho hg v w hv=>by
  have hk:k<ops.size:=(Array.getElem?_eq_some_iff.1 ho).1
  have:=List.all_eq_true.1 hgB k (List.mem_range.2 hk);rw[ho]at this;simp only[hg]at this;obtain⟨p,hp,h2⟩:=List.any_eq_true.1 this;rw[Bool.and_eq_true,beq_iff_eq,beq_iff_eq]at h2;rw[<-h2.2];exact hgv p hp v w (by rw[h2.1];exact hv)) hskip hstep hend
theorem fx_val{o:Oper}{a:Act}{w:World}{k:Nat}{Φ:Nat->Value->World->Prop}{K:Act->World->Prop}(hK: ∀v w',Φ k v w'->Below w.heap.size w w'->K (a.put o.dst v) w'){ρ:Operand->Value}(hρ:a.eval=ρ)(v:Value)(hr:(execOp ρ o).run P w= .ok (.value v) w)(hv:Φ k v w):o.wp P a w K Q:=by
 subst hρ;unfold Oper.wp;rw[hr,Oper.upon_value];exact hK v w hv (Below.refl _ _)
theorem fx_call{o:Oper}{a:Act}{w:World}{k:Nat}{Φ:Nat->Value->World->Prop}{K:Act->World->Prop}(hK: ∀v w',Φ k v w'->Below w.heap.size w w'->K (a.put o.dst v) w'){ρ:Operand->Value}(hρ:a.eval=ρ)(f:FuncId)(xs:Array Operand)(tys:Array TypeId)(vs:Array Value)
  (ho:o.op= .call {callee:=.value (.func f),args:=xs,argTypes:=tys}) (hxs:xs.map ρ=vs) (eg: ∀args w,(callFunc f args).run P w= .ok (.enter f args) w)
  (h:Calls P f vs w fun e w'=> ∃v,e= .returned v/\Φ k v w'/\Below w.heap.size w w'):o.wp P a w K Q:=by
 subst hρ;have hr:(execOp a.eval o).run P w= .ok (.enter f vs) w:=by
  have:=eg vs w;simp[execOp,ho,resolve,hxs,invoke,Deferred.ofValue,Act.eval,this,go_sem]
 unfold Oper.wp;rw[hr,Oper.upon_enter];refine h.mono fun e w' ⟨v,he,hv,hb⟩=> ?_
 subst he;exact hK v w' hv hb
end
end Go.Proofs.YtngdbbligebcbabGreatDoor
