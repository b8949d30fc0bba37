import Derived.Test.YtngdbbligebcbabGreatDoorZM16
import Derived.Deep.Cut
import Derived.Test.YtngdbbligebcbabGreatDoorZM17
import Derived.Test.YtngdbbligebcbabGreatDoorZM18
import Derived.Test.YtngdbbligebcbabGreatDoorZM8
set_option linter.unusedVariables false
set_option linter.unusedSimpArgs false
namespace Go.Proofs.YtngdbbligebcbabGreatDoor
open Go Go.RowKit
section
variable {A: Option Addr} {n c: Nat} {R: List Int}
end
section
variable {A: Option Addr} {n c: Nat} {R: List Int}
theorem not_over_d{t:Tkr}(h: ¬OverT t):t.at_≠0->(-1<=t.top/\t.top<=1099511627775)/\ -1<=t.bot/\t.bot<=1099511627775:=fun h0=>by
 unfold OverT WildT at h;simp only[not_or,not_and]at h;have:=h.2.2.2 h0;omega
end
theorem frame_all{xs:Array Value}{n:Nat}(h:xs.size=n):xs=((List.range n).map fun k=>xs.getD k undef).toArray:=by
 apply Array.ext
 ·simp[h]
 ·intro i h1 h2
  simp[Array.getD_eq_getD_getElem?,h1]
def lblD(a:Int):Nat:=if a=0 then 1 else if a=1 then 2 else if a=2 then 3 else 4
section
variable (wf: World) (A: Option Addr) (n c: Nat) (R: List Int) (one st: Bool) (S: Int × Int × Int × Tkr)
def AtNext(m:Nat)(w:World):Prop:=∃ (T B:Int) (t:Tkr) (b:Bool) (z:Int) (f:Nat),m=2 * f/\Hid (Rws wf (rowsR A n c T B t one z b) w)/\t.steal=st/\Hid (goD R one f b T B t=S)/\Enough one b t f
def AtStep(m l:Nat)(w:World):Prop:=∃ (T B:Int) (t:Tkr) (f:Nat),m=2 * f+1/\Hid (Rws wf (rowsR A n c T B t one 0 true) w)/\t.steal=st/\ChkQ n T B/\ ¬OverT t/\lblD t.at_=l/\
 Hid (goD R one f true (moveD R T B t).1 (moveD R T B t).2.1 (moveD R T B t).2.2=S)/\Enough one true (moveD R T B t).2.2 f
def AtLabel(Fr:Act->Prop)(m l:Nat)(a:Act)(w:World):Prop:=Fr a/\(l=0->AtNext wf A n c R one st S m w)/\(l≠0->AtStep wf A n c R one st S m l w)
def FinGo(w:World):Prop:=∃ (T B:Int) (t:Tkr) (z:Int) (b:Bool),Rws wf (rowsR A n c T B t one z b) w/\S=if z=0 then(0,T,B,t)else(z,0,0,newTk false)
def GoneGo(e:Ending)(w:World):Prop:=e= .returned (.tuple #[])/\FinGo wf A n c one S w
end
section
variable {wf: World} {A: Option Addr} {n c: Nat} {R: List Int} {one st: Bool} {S: Int × Int × Int × Tkr}
theorem FinGo.of{T B:Int}{t:Tkr}{b:Bool}{f:Nat}{w:World}{b':Bool}(hn:R.length=n)(h:goD R one f b T B t=S)(he:Enough one b t f)(hg:mayG n T B t one b=false)(hr:Rws wf (rowsR A n c T B t one (mayE n T B t one b) b') w):FinGo wf A n c one S w:=by
 refine⟨T,B,t,_,_,hr,?_⟩
 obtain⟨f,rfl⟩: ∃f',f=f'+1:=⟨f - 1,by have:=he.1;omega⟩
 rw[<-h];unfold goD mayE;rw[hn]
 by_cases h1:ChkQ n T B
 ·have e1: ¬ ¬ ChkQ n T B:=fun q => q h1
  rw[if_neg e1,if_neg e1]
  by_cases h2:StopT one b t
  ·rw[if_pos h2,if_pos h2];rfl
  ·rw [if_neg h2,if_neg h2]
   by_cases h3:OverT t
   ·rw[if_pos h3,if_pos h3];rfl
   ·unfold mayG at hg
    exact absurd ⟨h1,h2,h3⟩ (of_decide_eq_false hg)
 ·rw[if_pos h1,if_pos h1];rfl
theorem AtStep.of{T B:Int}{t:Tkr}{b:Bool}{f:Nat}{w:World}(hn:R.length=n)(h:goD R one f b T B t=S)(he:Enough one b t f)(hg:mayG n T B t one b=true)(hs:t.steal=st)(hr:Rws wf (rowsR A n c T B t one (mayE n T B t one b) (b||true)) w): ∃m,m<2 * f/\AtStep wf A n c R one st S m (lblD t.at_) w:=by
 obtain⟨f,rfl⟩: ∃f',f=f'+1:=⟨f - 1,by have:=he.1;omega⟩
 have hq:=of_decide_eq_true hg;refine⟨2 * f+1,by omega,T,B,t,f,rfl,Lib.hid ?_,hs,hq.1,hq.2.2,rfl,Lib.hid ?_,he.next hq.2.1 hq.2.2⟩
 ·have e: mayE n T B t one b = 0:=by
   unfold mayE;rw[if_neg (show¬ ¬ChkQ n T B from fun q=>q hq.1),if_neg hq.2.1,if_neg hq.2.2]
  rw[e,Bool.or_true]at hr;exact hr
 ·rw [<- h]
  conv=>rhs;unfold goD
  rw[hn,if_neg (show¬ ¬ChkQ n T B from fun q=>q hq.1),if_neg hq.2.1,if_neg hq.2.2]
end
end Go.Proofs.YtngdbbligebcbabGreatDoor
