import Derived.Test.YtfahabphncmbfaaGreatDoorZQ29
import Derived.Test.YtfahabphncmbfaaGreatDoorChecked
set_option linter.all false
set_option maxRecDepth 100000
set_option maxHeartbeats 8000000
namespace Go.Proofs.YtfahabphncmbfaaGreatDoor
open Go Go.RowKit
open Go.Lib renaming hid→Zf
open Nat renaming add_zero→Zy
open Go.Proofs.Tryz
section
variable {A: Option Addr}{n c: Nat}{R: List Int}
end
theorem Zmo(n:Int)(w:World):Calls Tryz.prog 259 #[.int .i64 n] w fun e w'=>e=.returned (.bool (decide (n< -1\/1099511627775<n)))/\w=w':=by
 by_cases h1:n< -1
 ·have e1: decide (n < -1) = true:=Ze h1
  rw[Ze (show n< -1\/1099511627775<n from .inl h1)];clear h1;go_enter func259,ntmps259;go_wp2;go_ret;exact⟨rfl,rfl⟩
 have e1:decide (n< -1)=false:=Zd h1;by_cases h2:1099511627775<n
 ·have e2: decide (1099511627775 < n) = true:=Ze h2
  rw[Ze (show n< -1\/1099511627775<n from .inr h2)];clear h1 h2;go_enter func259,ntmps259;go_wp2;go_ret;exact⟨rfl,rfl⟩
 ·have e2: decide (1099511627775 < n) = false:=Zd h2
  rw[Zd (show¬(n< -1\/1099511627775<n)from fun q=>q.elim h1 h2)];clear h1 h2;go_enter func259,ntmps259;go_wp2;go_ret;exact⟨rfl,rfl⟩
theorem Zoo(t:Tkr)(w:World):Calls Tryz.prog 246 #[vT t] w fun e w'=>e=.returned (.bool (decide (Zbp t)))/\Below w.heap.size w w':=by
 obtain⟨st,a,tp,bt,gt,en⟩:=t;have HB:=Zf (Zaa (w:=w) (.cells #[.bool st,.int .i64 a,.int .i64 tp,.int .i64 bt,.int .i64 gt,.int .i64 en] 87));have CW:=Zf (fun n W=>Zmo n W);obtain⟨r,hr⟩:∃r,r=decide (Zbp ⟨st,a,tp,bt,gt,en⟩):=⟨_,rfl⟩;rw[<-hr];have HY:Hid (Zbp ⟨st,a,tp,bt,gt,en⟩->r=true):=Zf fun q=>by rw[hr];exact Ze q
 have HN:Hid (¬Zbp ⟨st,a,tp,bt,gt,en⟩->r=false):=Zf fun q=>by rw[hr];exact Zd q
 unfold vT;clear hr;obtain⟨L,hL⟩:∃L:Int,L=if st=true then 3 else 4:=⟨_,rfl⟩
 have HO:Hid (Zbp ⟨st,a,tp,bt,gt,en⟩↔en≠0\/a<0\/L<a\/(a≠0/\Zi9 ⟨st,a,tp,bt,gt,en⟩)):=Zf (by rw[hL];exact Iff.rfl);have HLL:=Zf hL;clear hL;by_cases q1:¬en=0
 ·obtain rfl: r = true:=HY.out (HO.out.mpr (.inl q1))
  have r1:(en !=0)=true:=bne_iff_ne.mpr q1;clear q1 HY HN HO;cases st
  all_goals
   go_enter func246,ntmps246;go_wp2;go_ret;exact⟨rfl,HB.out⟩
 have r1:(en !=0)=false:=by simp[Classical.not_not.mp q1]
 have HQ1:=Zf q1;clear q1;by_cases q2:a<0
 ·obtain rfl: r = true:=HY.out (HO.out.mpr (.inr (.inl q2)))
  have r2:decide (a<0)=true:=Ze q2;clear q2 HY HN HO;cases st
  all_goals
   go_enter func246,ntmps246;go_wp2;go_ret;exact⟨rfl,HB.out⟩
 have r2:decide (a<0)=false:=Zd q2;by_cases q3:L<a
 ·obtain rfl: r = true:=HY.out (HO.out.mpr (.inr (.inr (.inl q3))))
  clear HY HN HO;cases st
  ·obtain rfl: L = 4:=HLL.out
   have r3:decide (4<a)=true:=Ze q3;clear q2 q3;go_enter func246,ntmps246;go_wp2;go_ret;exact⟨rfl,HB.out⟩
  ·obtain rfl: L = 3:=HLL.out
   have r3:decide (3<a)=true:=Ze q3;clear q2 q3;go_enter func246,ntmps246;go_wp2;go_ret;exact⟨rfl,HB.out⟩
 have key:∀(z:Bool) (g:(a !=0)=z) (u v:Bool),(decide (tp< -1\/1099511627775<tp))=u->(decide (bt< -1\/1099511627775<bt))=v->r=(z&&(u||v)):=fun z g u v hu hv=>by
  cases z
  ·have ha: a = 0:=by simpa using g
   exact HN.out fun q=>by
    rcases HO.out.mp q with q|q|q|q
    ·exact HQ1.out q
    ·exact q2 q
    ·exact q3 q
    ·exact q.1 ha
  ·have ha: a ≠ 0:=bne_iff_ne.mp g
   by_cases hw:Zi9 ⟨st,a,tp,bt,gt,en⟩
   ·rw [HY.out (HO.out.mpr (.inr (.inr (.inr ⟨ha,hw⟩)))),<- hu,<- hv]
    rcases hw with q|q|q|q
    ·rw[Ze (show tp< -1\/1099511627775<tp from .inl q)];rfl
    ·rw[Ze (show tp< -1\/1099511627775<tp from .inr q)];rfl
    ·rw[Ze (show bt< -1\/1099511627775<bt from .inl q)];simp
    ·rw[Ze (show bt< -1\/1099511627775<bt from .inr q)];simp
   ·rw [HN.out fun q => by
     rcases HO.out.mp q with q|q|q|q
     ·exact HQ1.out q
     ·exact q2 q
     ·exact q3 q
     ·exact hw q.2,<-hu,<-hv]
    rw[Zd (fun q:tp< -1\/1099511627775<tp=>hw (q.elim .inl fun q=> .inr (.inl q))),Zd (fun q:bt< -1\/1099511627775<bt=>hw (q.elim (fun q=> .inr (.inr (.inl q))) fun q=> .inr (.inr (.inr q))))];rfl
 have r34:Hid (decide (L<a)=false):=Zf (Zd q3);obtain⟨z,hz⟩:∃z,(a !=0)=z:=⟨_,rfl⟩;obtain⟨u,hu⟩:∃u,decide (tp< -1\/1099511627775<tp)=u:=⟨_,rfl⟩;obtain⟨v,hv⟩:∃v,decide (bt< -1\/1099511627775<bt)=v:=⟨_,rfl⟩;have hrr:=key z hz u v hu hv;have CU:Hid (∀W:World,Calls Tryz.prog 259 #[.int .i64 tp] W fun e w'=>e=.returned (.bool u)/\W=w'):=Zf (fun W=>by rw[<-hu];exact CW.out tp W);have CV:Hid (∀W:World,Calls Tryz.prog 259 #[.int .i64 bt] W fun e w'=>e=.returned (.bool v)/\W=w'):=Zf (fun W=>by rw[<-hv];exact CW.out bt W);clear key hu hv q2 q3 HY HN HO CW;cases st
 ·obtain rfl: L = 4:=HLL.out
  have r3:decide (4<a)=false:=r34.out;clear r34 HLL;cases z<;>cases u<;>cases v<;>(
   subst hrr;go_enter func246,ntmps246
   go_wp2_with(first
    |(refine(CU.out _).mono ?_;rintro e w' ⟨rfl,rfl⟩)
    |(refine(CV.out _).mono ?_;rintro e w' ⟨rfl,rfl⟩))
   go_ret;exact⟨rfl,HB.out⟩)
 ·obtain rfl: L = 3:=HLL.out
  have r3:decide (3<a)=false:=r34.out;clear r34 HLL;cases z<;>cases u<;>cases v<;>(
   subst hrr;go_enter func246,ntmps246
   go_wp2_with(first
    |(refine(CU.out _).mono ?_;rintro e w' ⟨rfl,rfl⟩)
    |(refine(CV.out _).mono ?_;rintro e w' ⟨rfl,rfl⟩))
   go_ret;exact⟨rfl,HB.out⟩)
section
variable {A: Option Addr}{n c: Nat}{R: List Int}
def ZbL(A:Option Addr)(n c:Nat)(T B:Int)(t:Tkr)(one:Bool)(e:Int)(b:Bool):List (TypeId×List Value):=
 [(102,[.slice A n c,.int .i64 T,.int .i64 B]),(87,cT t),(4,[.bool one]),(102,[.slice none 0 0,.int .i64 0,.int .i64 0]),(87,cT (Zaq false)),(31,[.int .i64 e]),(4,[.bool b])]
def mayG(n:Nat)(T B:Int)(t:Tkr)(one b:Bool):Bool:=decide (ChkQ n T B/\¬ZgN one b t/\¬Zbp t)
def mayE(n:Nat)(T B:Int)(t:Tkr)(one b:Bool):Int:=if¬ChkQ n T B then 120 else if ZgN one b t then 0 else if Zbp t then 122 else 0
theorem Zln(T B:Int)(t:Tkr)(one b:Bool)(z:Int)(wf wr:World)(hn:n<=1000)(hT:DTab wf)(B0:Rws wf (ZbL A n c T B t one z b) wr):
  Calls Tryz.prog 245 #[.pointer (some ⟨wf.heap.size,0,none⟩),.pointer (some ⟨wf.heap.size+1+1+1+1+1,0,none⟩),.pointer (some ⟨wf.heap.size+1+1+1+1+1+1,0,none⟩),.pointer (some ⟨wf.heap.size+1+1,0,none⟩),.pointer (some ⟨wf.heap.size+1,0,none⟩)] wr
   fun e w'=>e=.returned (.bool (mayG n T B t one b))/\Rws wf (ZbL A n c T B t one (mayE n T B t one b) (b||mayG n T B t one b)) w':=by
 obtain⟨st,a,tp,bt,gt,en⟩:=t;have CK:=Zf (Zhm A n c T B wr hn (hT.via B0.bel));have B0h:=Zf B0;obtain⟨x,hx⟩:∃x,x=Zh0 n T B:=⟨_,rfl⟩;rw[<-hx]at CK;have HX:=Zf hx;clear B0 hT hx;have c00:=B0h.out.cell 0 0 rfl rfl;have c01:=B0h.out.cell 0 1 rfl rfl;have c02:=B0h.out.cell 0 2 rfl rfl;have c10:=B0h.out.cell 1 0 rfl rfl;have c11:=B0h.out.cell 1 1 rfl rfl;have c12:=B0h.out.cell 1 2 rfl rfl;have c13:=B0h.out.cell 1 3 rfl rfl;have c14:=B0h.out.cell 1 4 rfl rfl;have c15:=B0h.out.cell 1 5 rfl rfl;have c20:=B0h.out.cell 2 0 rfl rfl;have c50:=B0h.out.cell 5 0 rfl rfl;have zc50:=B0h.out.frozen 5 0 rfl;have c60:=B0h.out.cell 6 0 rfl rfl;have zc60:=B0h.out.frozen 6 0 rfl;simp only[Zy]at c00 c01 c02;by_cases hc:¬ChkQ n T B
 ·have hg: mayG n T B ⟨st,a,tp,bt,gt,en⟩ one b = false:=Zd fun q => hc q.1
  have he:mayE n T B ⟨st,a,tp,bt,gt,en⟩ one b=120:=by unfold mayE;rw[Zc hc]
  obtain rfl:x=120:=by rw[HX.out];unfold Zh0;rw[Zb hc]
  rw[hg,he,Bool.or_false];clear hg he HX hc;go_enter func245,ntmps245;go_wp2_with fail;refine CK.out.mono ?_;rintro e w1 ⟨rfl,b1⟩;have B1:=Zf (B0h.out.next b1);clear b1 CK B0h;clear c00 c01 c02 c10 c11 c12 c13 c14 c15 c20 c50 zc50 c60 zc60;have c00:=B1.out.cell 0 0 rfl rfl;have c01:=B1.out.cell 0 1 rfl rfl;have c02:=B1.out.cell 0 2 rfl rfl;have c10:=B1.out.cell 1 0 rfl rfl;have c11:=B1.out.cell 1 1 rfl rfl;have c12:=B1.out.cell 1 2 rfl rfl;have c13:=B1.out.cell 1 3 rfl rfl;have c14:=B1.out.cell 1 4 rfl rfl;have c15:=B1.out.cell 1 5 rfl rfl;have c20:=B1.out.cell 2 0 rfl rfl;have c50:=B1.out.cell 5 0 rfl rfl;have zc50:=B1.out.frozen 5 0 rfl;have c60:=B1.out.cell 6 0 rfl rfl;have zc60:=B1.out.frozen 6 0 rfl;simp only[Zy]at c00 c01 c02;have B2:=Zf (B1.out.set 5 0 rfl (.int .i64 120));go_wp2;go_ret;exact⟨rfl,B2.out⟩
 replace hc:=Classical.not_not.mp hc;obtain rfl:x=0:=by rw[HX.out];unfold Zh0;rw[Zc hc]
 have e1:¬ ¬ChkQ n T B:=fun q=>q hc;by_cases hs:ZgN one b ⟨st,a,tp,bt,gt,en⟩
 ·have hg: mayG n T B ⟨st,a,tp,bt,gt,en⟩ one b = false:=Zd fun q => q.2.1 hs
  have he:mayE n T B ⟨st,a,tp,bt,gt,en⟩ one b=0:=by unfold mayE;rw[Zb e1,Zc hs]
  rw[hg,he,Bool.or_false];obtain⟨hb,hs⟩:=hs;subst hb;clear hg he HX e1 hc;cases one
  ·have hen: (en != 0) = true:=bne_iff_ne.mpr (hs.resolve_left (by decide))
   clear hs;go_enter func245,ntmps245;go_wp2_with fail;refine CK.out.mono ?_;rintro e w1 ⟨rfl,b1⟩;have B1:=Zf (B0h.out.next b1);clear b1 CK B0h;clear c00 c01 c02 c10 c11 c12 c13 c14 c15 c20 c50 zc50 c60 zc60;have c00:=B1.out.cell 0 0 rfl rfl;have c01:=B1.out.cell 0 1 rfl rfl;have c02:=B1.out.cell 0 2 rfl rfl;have c10:=B1.out.cell 1 0 rfl rfl;have c11:=B1.out.cell 1 1 rfl rfl;have c12:=B1.out.cell 1 2 rfl rfl;have c13:=B1.out.cell 1 3 rfl rfl;have c14:=B1.out.cell 1 4 rfl rfl;have c15:=B1.out.cell 1 5 rfl rfl;have c20:=B1.out.cell 2 0 rfl rfl;have c50:=B1.out.cell 5 0 rfl rfl;have zc50:=B1.out.frozen 5 0 rfl;have c60:=B1.out.cell 6 0 rfl rfl;have zc60:=B1.out.frozen 6 0 rfl;simp only[Zy]at c00 c01 c02;have B2:=Zf (B1.out.set 5 0 rfl (.int .i64 0));go_wp2;go_ret;exact⟨rfl,B2.out⟩
  ·clear hs
   go_enter func245,ntmps245;go_wp2_with fail;refine CK.out.mono ?_;rintro e w1 ⟨rfl,b1⟩;have B1:=Zf (B0h.out.next b1);clear b1 CK B0h;clear c00 c01 c02 c10 c11 c12 c13 c14 c15 c20 c50 zc50 c60 zc60;have c00:=B1.out.cell 0 0 rfl rfl;have c01:=B1.out.cell 0 1 rfl rfl;have c02:=B1.out.cell 0 2 rfl rfl;have c10:=B1.out.cell 1 0 rfl rfl;have c11:=B1.out.cell 1 1 rfl rfl;have c12:=B1.out.cell 1 2 rfl rfl;have c13:=B1.out.cell 1 3 rfl rfl;have c14:=B1.out.cell 1 4 rfl rfl;have c15:=B1.out.cell 1 5 rfl rfl;have c20:=B1.out.cell 2 0 rfl rfl;have c50:=B1.out.cell 5 0 rfl rfl;have zc50:=B1.out.frozen 5 0 rfl;have c60:=B1.out.cell 6 0 rfl rfl;have zc60:=B1.out.frozen 6 0 rfl;simp only[Zy]at c00 c01 c02;have B2:=Zf (B1.out.set 5 0 rfl (.int .i64 0));go_wp2;go_ret;exact⟨rfl,B2.out⟩
 have DO:=Zf (fun W=>Zoo ⟨st,a,tp,bt,gt,en⟩ W);unfold vT at DO;simp only at DO;obtain⟨v,hv⟩:∃v,v=decide (Zbp ⟨st,a,tp,bt,gt,en⟩):=⟨_,rfl⟩;rw[<-hv]at DO;have hg:mayG n T B ⟨st,a,tp,bt,gt,en⟩ one b= !v:=by
  rw[hv];unfold mayG;by_cases ho:Zbp ⟨st,a,tp,bt,gt,en⟩
  ·rw[Ze ho,Zd (fun q=>q.2.2 ho)];rfl
  ·rw[Zd ho,Ze ⟨hc,hs,ho⟩];rfl
 have he:mayE n T B ⟨st,a,tp,bt,gt,en⟩ one b=if v=true then 122 else 0:=by
  rw[hv];unfold mayE;rw[Zb e1,Zb hs];by_cases ho:Zbp ⟨st,a,tp,bt,gt,en⟩
  ·rw[Zc ho,Zc (Ze ho)]
  ·rw[Zb ho,Zb (fun q=>ho (of_decide_eq_true q))]
 rw[hg,he];have HS:Hid (b=false\/(b=true/\one=false/\(en !=0)=false)):=Zf (by
  cases b
  ·exact .inl rfl
  ·refine .inr ⟨rfl,?_,?_⟩
   ·cases one
    ·rfl
    ·exact absurd ⟨rfl,.inl rfl⟩ hs
   ·cases h: (en != 0) with
    |false=>rfl
    |true=>exact absurd ⟨rfl,.inr (bne_iff_ne.mp h)⟩ hs)
 clear hg he HX e1 hc hs hv;rcases HS.out with rfl|⟨rfl,rfl,hen⟩
 ·clear HS
  go_enter func245,ntmps245;go_wp2_with fail;refine CK.out.mono ?_;rintro e w1 ⟨rfl,b1⟩;have B1:=Zf (B0h.out.next b1);clear b1 CK B0h;clear c00 c01 c02 c10 c11 c12 c13 c14 c15 c20 c50 zc50 c60 zc60;have c00:=B1.out.cell 0 0 rfl rfl;have c01:=B1.out.cell 0 1 rfl rfl;have c02:=B1.out.cell 0 2 rfl rfl;have c10:=B1.out.cell 1 0 rfl rfl;have c11:=B1.out.cell 1 1 rfl rfl;have c12:=B1.out.cell 1 2 rfl rfl;have c13:=B1.out.cell 1 3 rfl rfl;have c14:=B1.out.cell 1 4 rfl rfl;have c15:=B1.out.cell 1 5 rfl rfl;have c20:=B1.out.cell 2 0 rfl rfl;have c50:=B1.out.cell 5 0 rfl rfl;have zc50:=B1.out.frozen 5 0 rfl;have c60:=B1.out.cell 6 0 rfl rfl;have zc60:=B1.out.frozen 6 0 rfl;simp only[Zy]at c00 c01 c02;obtain⟨w2,hw2,B2⟩:∃w2,w2=w1.setCell ⟨wf.heap.size+1+1+1+1+1,0,none⟩ (.int .i64 0)/\Hid (Rws wf (ZbL A n c T B ⟨st,a,tp,bt,gt,en⟩ one 0 false) w2):=⟨_,rfl,Zf (B1.out.set 5 0 rfl (.int .i64 0))⟩;have HW2:=Zf hw2;clear hw2;go_wp2_with fail;rw[<-HW2.out];refine(DO.out w2).mono ?_;rintro e w3 ⟨rfl,b3⟩;have B3:=Zf (B2.out.next b3);clear b3 B2 B1 DO HW2;clear c00 c01 c02 c10 c11 c12 c13 c14 c15 c20 c50 zc50 c60 zc60;have c00:=B3.out.cell 0 0 rfl rfl;have c01:=B3.out.cell 0 1 rfl rfl;have c02:=B3.out.cell 0 2 rfl rfl;have c10:=B3.out.cell 1 0 rfl rfl;have c11:=B3.out.cell 1 1 rfl rfl;have c12:=B3.out.cell 1 2 rfl rfl;have c13:=B3.out.cell 1 3 rfl rfl;have c14:=B3.out.cell 1 4 rfl rfl;have c15:=B3.out.cell 1 5 rfl rfl;have c20:=B3.out.cell 2 0 rfl rfl;have c50:=B3.out.cell 5 0 rfl rfl;have zc50:=B3.out.frozen 5 0 rfl;have c60:=B3.out.cell 6 0 rfl rfl;have zc60:=B3.out.frozen 6 0 rfl;simp only[Zy]at c00 c01 c02;cases v
  ·have B4:=Zf (B3.out.set 6 0 rfl (.bool true))
   go_wp2;go_ret;exact⟨rfl,B4.out⟩
  ·have B4:=Zf (B3.out.set 5 0 rfl (.int .i64 122))
   go_wp2;go_ret;exact⟨rfl,B4.out⟩
 ·clear HS
  go_enter func245,ntmps245;go_wp2_with fail;refine CK.out.mono ?_;rintro e w1 ⟨rfl,b1⟩;have B1:=Zf (B0h.out.next b1);clear b1 CK B0h;clear c00 c01 c02 c10 c11 c12 c13 c14 c15 c20 c50 zc50 c60 zc60;have c00:=B1.out.cell 0 0 rfl rfl;have c01:=B1.out.cell 0 1 rfl rfl;have c02:=B1.out.cell 0 2 rfl rfl;have c10:=B1.out.cell 1 0 rfl rfl;have c11:=B1.out.cell 1 1 rfl rfl;have c12:=B1.out.cell 1 2 rfl rfl;have c13:=B1.out.cell 1 3 rfl rfl;have c14:=B1.out.cell 1 4 rfl rfl;have c15:=B1.out.cell 1 5 rfl rfl;have c20:=B1.out.cell 2 0 rfl rfl;have c50:=B1.out.cell 5 0 rfl rfl;have zc50:=B1.out.frozen 5 0 rfl;have c60:=B1.out.cell 6 0 rfl rfl;have zc60:=B1.out.frozen 6 0 rfl;simp only[Zy]at c00 c01 c02;obtain⟨w2,hw2,B2⟩:∃w2,w2=w1.setCell ⟨wf.heap.size+1+1+1+1+1,0,none⟩ (.int .i64 0)/\Hid (Rws wf (ZbL A n c T B ⟨st,a,tp,bt,gt,en⟩ false 0 true) w2):=⟨_,rfl,Zf (B1.out.set 5 0 rfl (.int .i64 0))⟩;have HW2:=Zf hw2;clear hw2;go_wp2_with fail;rw[<-HW2.out];refine(DO.out w2).mono ?_;rintro e w3 ⟨rfl,b3⟩;have B3:=Zf (B2.out.next b3);clear b3 B2 B1 DO HW2;clear c00 c01 c02 c10 c11 c12 c13 c14 c15 c20 c50 zc50 c60 zc60;have c00:=B3.out.cell 0 0 rfl rfl;have c01:=B3.out.cell 0 1 rfl rfl;have c02:=B3.out.cell 0 2 rfl rfl;have c10:=B3.out.cell 1 0 rfl rfl;have c11:=B3.out.cell 1 1 rfl rfl;have c12:=B3.out.cell 1 2 rfl rfl;have c13:=B3.out.cell 1 3 rfl rfl;have c14:=B3.out.cell 1 4 rfl rfl;have c15:=B3.out.cell 1 5 rfl rfl;have c20:=B3.out.cell 2 0 rfl rfl;have c50:=B3.out.cell 5 0 rfl rfl;have zc50:=B3.out.frozen 5 0 rfl;have c60:=B3.out.cell 6 0 rfl rfl;have zc60:=B3.out.frozen 6 0 rfl;simp only[Zy]at c00 c01 c02;cases v
  ·have B4:=Zf (B3.out.set 6 0 rfl (.bool true))
   go_wp2;go_ret;exact⟨rfl,B4.out⟩
  ·have B4:=Zf (B3.out.set 5 0 rfl (.int .i64 122))
   go_wp2;go_ret;exact⟨rfl,B4.out⟩
end
def ZbT(K:Nat->Act->World->Prop)(Q:Exit->Act->World->Prop):Exit->Act->World->Prop
 | .goto l,a,w=>l<5/\K l a w
 | .normal,a,w=>Q .normal a w
 | .exit b,a,w=>Q (.exit b) a w
 | .ret,a,w=>Q .ret a w
 | .panic ch,a,w=>Q (.panic ch) a w
 | .outgrown,a,w=>Q .outgrown a w
def Zgr(J:Nat->Nat->Act->World->Prop)(m:Nat):Nat->Act->World->Prop:=fun l a w=>∃m',m'<m/\J m' l a w
theorem Zex{P:Program}{a:Act}{w:World}{Q:Exit->Act->World->Prop}{X r1 r2 r3 r4:Code}(J:Nat->Nat->Act->World->Prop)
    (f1:findLabel ((Code.label 0).seq X) 1=some r1)(f2:findLabel ((Code.label 0).seq X) 2=some r2)(f3:findLabel ((Code.label 0).seq X) 3=some r3)(f4:findLabel ((Code.label 0).seq X) 4=some r4)
    (start:∃m,J m 0 a w)
    (p0:∀m a w,J m 0 a w->X.wp P (ZbT (Zgr J m) Q) a w)(p1:∀m a w,J m 1 a w->r1.wp P (ZbT (Zgr J m) Q) a w)(p2:∀m a w,J m 2 a w->r2.wp P (ZbT (Zgr J m) Q) a w)
    (p3:∀m a w,J m 3 a w->r3.wp P (ZbT (Zgr J m) Q) a w)(p4:∀m a w,J m 4 a w->r4.wp P (ZbT (Zgr J m) Q) a w):(Code.scope ((Code.label 0).seq X)).wp P Q a w:=by
  have first:((Code.label 0).seq X).wp P (ZbT (fun l a w=>∃m,J m l a w) Q) a w:=by
    obtain⟨m,hm⟩:=start;refine wp_seq (wp_label ?_);refine Code.wp_mono (fun e a w h=> ?_) (p0 m a w hm)
    cases e with
    | goto l =>obtain⟨h1,m',_,h2⟩:=h;exact⟨h1,m',h2⟩
    |normal=>exact h
    |exit b=>exact h
    |ret=>exact h
    |panic ch=>exact h
    |outgrown=>exact h
  obtain⟨c,hc⟩:∃c,c=(Code.label 0).seq X:=⟨_,rfl⟩;have f0:findLabel c 0=some (Code.skip.seq X):=by rw[hc];rfl
  have q0:∀m a w,J m 0 a w->(Code.skip.seq X).wp P (ZbT (Zgr J m) Q) a w:=fun m a w h=>wp_seq (wp_skip (p0 m a w h));obtain⟨r0,hr0⟩:∃r0,r0=Code.skip.seq X:=⟨_,rfl⟩;rw[<-hc]at f1 f2 f3 f4 first⊢;rw[<-hr0]at f0 q0;obtain⟨r,hr,hp⟩:∃r:Nat->Code,(∀l,l<5->findLabel c l=some (r l))/\∀m l a w,l<5->J m l a w->(r l).wp P (ZbT (Zgr J m) Q) a w:=by
    refine⟨fun l=>match l with|0=>r0|1=>r1|2=>r2|3=>r3|_=>r4,fun l hl=> ?_,fun m l a w hl h=> ?_⟩
    · obtain rfl|rfl|rfl|rfl|rfl:l=0\/l=1\/l=2\/l=3\/l=4:=by omega
      · exact f0
      · exact f1
      · exact f2
      · exact f3
      · exact f4
    · obtain rfl|rfl|rfl|rfl|rfl:l=0\/l=1\/l=2\/l=3\/l=4:=by omega
      · exact q0 m a w h
      · exact p1 m a w h
      · exact p2 m a w h
      · exact p3 m a w h
      · exact p4 m a w h
  intro b k cs;have hgo:∀l,l<5->gotoIn l (.inScope c::k)=some (.code (r l):: .inScope c::k):=fun l hl=>by unfold gotoIn;simp[hr l hl]
  have on:∀(m l:Nat) (a:Act) (w:World),l<5->J m l a w->∃e a' w',Q e a' w'/\Arrives P (lone (b.at a (.code (r l):: .inScope c::k)) cs w) b k cs e a' w':=by
    intro m
    induction m using Nat.strongRecOn with
    | _ m ih =>
      intro l a w hl hJ;obtain⟨e,a1,w1,h1,h2⟩:=hp m l a w hl hJ b (.inScope c::k) cs
      match e,h1,h2 with
      | .goto l', ⟨hl', m', hm, hJ'⟩, h2 =>obtain⟨e2,a2,w2,h3,h4⟩:=ih m' hm l' a1 w1 hl' hJ';exact⟨e2,a2,w2,h3,.of_steps (h2 _ (hgo l' hl')) h4⟩
      | .normal,h1,h2=>exact⟨_,a1,w1,h1,Steps.trans h2 (.one step_inScope)⟩
      | .exit id,h1,h2=>exact⟨_,a1,w1,h1,fun k' hk=>h2 k' (by simp[exitTo,hk])⟩
      | .ret,h1,h2=>exact⟨_,a1,w1,h1,h2⟩
      | .panic ch,h1,h2=>exact⟨_,a1,w1,h1,h2⟩
      | .outgrown,h1,h2=>exact⟨_,a1,w1,h1,h2⟩
  obtain⟨e,a1,w1,h1,h2⟩:=first b (.inScope c::k) cs
  match e,h1,h2 with
  | .goto l', ⟨hl', m', hJ'⟩, h2 =>obtain⟨e2,a2,w2,h3,h4⟩:=on m' l' a1 w1 hl' hJ';exact⟨e2,a2,w2,h3,.of_steps (.head step_scope (h2 _ (hgo l' hl'))) h4⟩
  | .normal,h1,h2=>exact⟨_,a1,w1,h1,.head step_scope (Steps.trans h2 (.one step_inScope))⟩
  | .exit id,h1,h2=>exact⟨_,a1,w1,h1,fun k' hk=> .head step_scope (h2 k' (by simp[exitTo,hk]))⟩
  | .ret,h1,h2=>exact⟨_,a1,w1,h1,.of_steps (.one step_scope) h2⟩
  | .panic ch,h1,h2=>exact⟨_,a1,w1,h1,.of_steps (.one step_scope) h2⟩
  | .outgrown,h1,h2=>exact⟨_,a1,w1,h1,.of_steps (.one step_scope) h2⟩
section
variable {A: Option Addr}{n c: Nat}{R: List Int}
end
end Go.Proofs.YtfahabphncmbfaaGreatDoor
