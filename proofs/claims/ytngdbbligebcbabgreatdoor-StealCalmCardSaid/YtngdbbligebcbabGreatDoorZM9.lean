import Derived.Test.YtngdbbligebcbabGreatDoorZM6
import Derived.Test.YtngdbbligebcbabGreatDoorZM8
import Derived.Test.YtngdbbligebcbabGreatDoorZM1
import Derived.Test.YtngdbbligebcbabGreatDoorZDequeMath
import Derived.Test.YtngdbbligebcbabGreatDoorZM5
import Derived.Laws.BitsAllLaws
import Derived.Deep.RegionWith
set_option linter.unusedSimpArgs false
set_option linter.unusedVariables false
set_option maxRecDepth 100000
set_option maxHeartbeats 8000000
namespace Go.Proofs.YtngdbbligebcbabGreatDoor
open Go.RowKit
structure IsG(w:World)(A:Option Addr)(n c:Nat)(F:Option Addr)(m d:Nat)(W:List Int)(E:List (Int×Int)):Prop where
 hn:W.length=n
 hm:E.length=m
 ln:n<=400
 lm:m<=400
 ints:Ints w w.heap.size A W
 pairs:Pairs w w.heap.size F E
 hA:A=none->n=0/\c=0
 hF:F=none->m=0/\d=0
 tab:Tab64 w
theorem IsG.below{w w':World}{A:Option Addr}{n c:Nat}{F:Option Addr}{m d:Nat}{W:List Int}{E:List (Int×Int)}(h:IsG w A n c F m d W E)(hb:Below w.heap.size w w'):IsG w' A n c F m d W E:=
 ⟨h.hn,h.hm,h.ln,h.lm,(h.ints.below hb).more hb.size,(h.pairs.below hb).more hb.size,h.hA,h.hF,h.tab.via hb⟩
theorem OwnI.none_nil{w:World}{b:Nat}{n c:Nat}{zs:List Int}(h:OwnI w b (.slice none n c) zs):n=0/\c=0:=by
 rcases h.2 with⟨hv,hn⟩|⟨g,cap,cur,hv,_⟩
 ·injection hv with _ h1 h2
  exact⟨h1,h2⟩
 ·injection hv with h1
  cases h1
theorem OwnE.none_nil{w:World}{b:Nat}{n c:Nat}{es:List (Int×Int)}(h:OwnE w b (.slice none n c) es):n=0/\c=0:=by
 rcases h.2 with⟨hv,hn⟩|⟨g,cap,cur,hv,_⟩
 ·injection hv with _ h1 h2
  exact⟨h1,h2⟩
 ·injection hv with h1
  cases h1
theorem own_isG{w:World}{b:Nat}{u v:Value}{W:List Int}{E:List (Int×Int)}(ht:Tab64 w)(hu:OwnI w b u W)(hv:OwnE w b v E)(hW:W.length<=400)(hE:E.length<=400):
  ∃A c F d,u= .slice A W.length c/\v= .slice F E.length d/\IsG w A W.length c F E.length d W E:=by
 obtain⟨A,c,rfl,h1⟩:=hu.slice;obtain⟨F,d,rfl,h2⟩:=hv.slice;refine⟨A,c,F,d,rfl,rfl,⟨rfl,rfl,hW,hE,h1,h2,?_,?_,ht⟩⟩
 ·rintro rfl;exact hu.none_nil
 ·rintro rfl;exact hv.none_nil
open Classical in
noncomputable def totalV (W:List Int) (E:List (Int×Int)):Int:=if May W E then W.sum else 0
open Classical in
noncomputable def predsV (W:List Int) (E:List (Int×Int)) (x:Int):List Int:=if May W E then predsL W.length E x else []
open Classical in
noncomputable def succsV (W:List Int) (E:List (Int×Int)) (x:Int):List Int:=if May W E then succsL W.length E x else []
end Go.Proofs.YtngdbbligebcbabGreatDoor
namespace Go.Proofs.YtngdbbligebcbabGreatDoor
def SizeOk(n:Int):Prop:=n=1\/n=2\/n=4\/n=8\/n=16\/n=32\/n=64
instance (n:Int):Decidable (SizeOk n):=by unfold SizeOk;infer_instance
theorem SizeOk.of_pow{k:Nat}(h:k<7):SizeOk ((2^k:Nat):Int):=by
 obtain rfl|rfl|rfl|rfl|rfl|rfl|rfl:k=0\/k=1\/k=2\/k=3\/k=4\/k=5\/k=6:=by omega
 all_goals (unfold SizeOk;decide)
theorem SizeOk.pow{n:Int}(h:SizeOk n): ∃k:Nat,k<7/\n=((2^k:Nat):Int):=by
 rcases h with rfl|rfl|rfl|rfl|rfl|rfl|rfl
 ·exact⟨0,by omega,rfl⟩
 ·exact⟨1,by omega,rfl⟩
 ·exact⟨2,by omega,rfl⟩
 ·exact⟨3,by omega,rfl⟩
 ·exact⟨4,by omega,rfl⟩
 ·exact⟨5,by omega,rfl⟩
 ·exact⟨6,by omega,rfl⟩
theorem SizeOk.bounds{n:Int}(h:SizeOk n):1<=n/\n<=64:=by unfold SizeOk at h;omega
def ChkQ(n T B:Int):Prop:=SizeOk n/\0<=T/\T<=1099511627775/\T - 1<=B/\B<=T+n
instance (n T B:Int):Decidable (ChkQ n T B):=by unfold ChkQ;infer_instance
def chkQE(n T B:Int):Int:=if ChkQ n T B then 0 else 120
def WildT(t:Tkr):Prop:=t.top< -1\/1099511627775<t.top\/t.bot< -1\/1099511627775<t.bot
def OverT(t:Tkr):Prop:=t.end_≠0\/t.at_<0\/(if t.steal=true then 3 else 4)<t.at_\/(t.at_≠0/\WildT t)
instance (t:Tkr):Decidable (WildT t):=by unfold WildT;infer_instance
instance (t:Tkr):Decidable (OverT t):=by unfold OverT;infer_instance
def stepQ(R:List Int)(T B:Int)(t:Tkr):Int×Int×Int×Tkr:=
 if¬ChkQ R.length T B then(120,0,0,newTk false)
 else if OverT t then(122,0,0,newTk false)
 else if¬ChkQ R.length (moveD R T B t).1 (moveD R T B t).2.1 then(120,0,0,newTk false)
 else(0,moveD R T B t)
def StopT(one b:Bool)(t:Tkr):Prop:=b=true/\(one=true\/t.end_≠0)
instance (one b:Bool) (t:Tkr):Decidable (StopT one b t):=by unfold StopT;infer_instance
def goD(R:List Int)(one:Bool):Nat->Bool->Int->Int->Tkr->Int×Int×Int×Tkr
  |0,_,T,B,t=>(0,T,B,t)
  | f + 1, b, T, B, t => if ¬ ChkQ R.length T B then (120, 0, 0, newTk false) else
    if StopT one b t then(0,T,B,t)else if OverT t then(122,0,0,newTk false)else
    goD R one f true (moveD R T B t).1 (moveD R T B t).2.1 (moveD R T B t).2.2
def muT(t:Tkr):Nat:=if t.end_≠0 then 0 else(5 - t.at_).toNat+1
def Enough(one b:Bool)(t:Tkr)(f:Nat):Prop:=1<=f/\((one=true/\(b=false->2<=f))\/(one=false/\muT t+1<=f))
theorem mu_move{R:List Int}{T B:Int}{t:Tkr}(h: ¬OverT t):muT (moveD R T B t).2.2+1<=muT t:=by
 obtain⟨st,a,top,bot,gt,en⟩:=t;unfold OverT at h;simp only[not_or]at h;obtain⟨h1,h2,h3,h4⟩:=h;have he:en=0:=Classical.byContradiction h1;subst he;have hm:muT ⟨st,a,top,bot,gt,0⟩=(5 - a).toNat+1:=rfl;rw[hm];unfold moveD;cases st
 ·simp only [Bool.false_eq_true,if_false] at h3 ⊢
  unfold ownerD;simp only
  by_cases a0:a=0
  ·rw[if_pos a0];show(5 - 1:Int).toNat+1+1<=_;omega
  rw[if_neg a0]
  by_cases a1:a=1
  ·rw [if_pos a1]
   split
   ·show 0+1<=_;omega
   ·split
    ·show(5 - 2:Int).toNat+1+1<=_;omega
    ·show(5 - 3:Int).toNat+1+1<=_;omega
  rw[if_neg a1]
  by_cases a2:a=2
  ·rw [if_pos a2]
   split
   ·show(5 - 4:Int).toNat+1+1<=_;omega
   ·show(5 - 3:Int).toNat+1+1<=_;omega
  rw[if_neg a2]
  by_cases a3:a=3
  ·rw[if_pos a3];show 0+1<=_;omega
  ·rw[if_neg a3];show 0+1<=_;omega
 ·simp only [if_true] at h3 ⊢
  unfold thiefD;simp only
  by_cases a0:a=0
  ·rw[if_pos a0];show(5 - 1:Int).toNat+1+1<=_;omega
  rw[if_neg a0]
  by_cases a1:a=1
  ·rw [if_pos a1]
   split
   ·show 0+1<=_;omega
   ·show(5 - 2:Int).toNat+1+1<=_;omega
  rw[if_neg a1]
  by_cases a2:a=2
  ·rw[if_pos a2];show(5 - 3:Int).toNat+1+1<=_;omega
  rw[if_neg a2]
  split
  ·show 0+1<=_;omega
  ·show 0+1<=_;omega
theorem Enough.next{R:List Int}{T B:Int}{one b:Bool}{t:Tkr}{f:Nat}(h:Enough one b t (f+1))(h1: ¬StopT one b t)(h2: ¬OverT t):Enough one true (moveD R T B t).2.2 f:=by
 obtain⟨h3,h4⟩:=h;rcases h4 with⟨rfl,h5⟩|⟨rfl,h5⟩
 ·have hb: b = false:=by
   cases b
   ·rfl
   ·exact absurd ⟨rfl,.inl rfl⟩ h1
  have:=h5 hb;exact⟨by omega,.inl ⟨rfl,fun q=>by cases q⟩⟩
 ·have:=mu_move (R:=R) (T:=T) (B:=B) h2
  exact⟨by omega,.inr ⟨rfl,by omega⟩⟩
theorem go_step(R:List Int)(T B:Int)(t:Tkr):goD R true 2 false T B t=stepQ R T B t:=by
 unfold goD stepQ
 by_cases h1:ChkQ R.length T B
 ·have e1: ¬ ¬ ChkQ R.length T B:=fun q => q h1
  have e0: ¬StopT true false t:=fun q=>by cases q.1
  rw[if_neg e1,if_neg e0,if_neg e1]
  by_cases h2:OverT t
  ·rw[if_pos h2,if_pos h2]
  ·rw [if_neg h2,if_neg h2]
   unfold goD
   by_cases h3:ChkQ R.length (moveD R T B t).1 (moveD R T B t).2.1
   ·have e3: ¬ ¬ ChkQ R.length (moveD R T B t).1 (moveD R T B t).2.1:=fun q => q h3
    have e4:StopT true true (moveD R T B t).2.2:=⟨rfl,.inl rfl⟩;rw[if_neg e3,if_neg e3,if_pos e4]
   ·rw[if_pos h3,if_pos h3]
 ·rw[if_pos h1,if_pos h1]
def pushE(n T B:Int):Int:=if¬ChkQ n T B then 120 else if B<T\/B=T+n then 121 else 0
theorem nums_filter(p:Int->Bool)(l:List Nat):(nums l).filter p=nums (l.filter fun y=>p (y:Int)):=by
 unfold nums;rw[List.filter_map];rfl
theorem mem_nums_nat{l:List Nat}{y:Nat}:(y:Int)∈nums l↔y∈l:=by
 unfold nums;rw[List.mem_map];exact⟨fun⟨z,hz,e⟩=>(Int.ofNat.inj e)▸hz,fun h=>⟨y,h,rfl⟩⟩
theorem succsL_nums(n:Nat)(E:List (Int×Int))(x:Int):succsL n E x=nums (succU n E x):=by
 unfold succsL succU nums;rw[List.filter_map];rfl
def rdyK(n:Nat)(E:List (Int×Int))(O L:List Int)(D:List Nat):List Nat:=(readyU n E (onT O L) (leftT O L)).filter fun y=>decide (y∉D)
section
variable {n m: Nat} {E: List (Int × Int)} {O L: List Int} {D: List Nat} {k: Nat} {g: Gng}
theorem mine_yes(h:O.getD k 0≠ -1/\leftC L (O.getD k 0)=1):(succsL n E (O.getD k 0)).filter (fun z=> !(!decide (z∈nums (rdyK n E O L D))))=nums (mineG n E O L D k):=by
 rw[succsL_nums,nums_filter];unfold mineG;rw[if_pos h];congr 1;refine List.filter_congr fun y _=> ?_
 rw[Bool.not_not];exact decide_eq_decide.mpr (by
  rw[mem_nums_nat];unfold rdyK;rw[List.mem_filter,decide_eq_true_iff])
theorem mine_no(h: ¬(O.getD k 0≠ -1/\leftC L (O.getD k 0)=1)):mineG n E O L D k= []:=if_neg h
theorem rdy_next:(nums (rdyK n E O L D)).filter (fun z=> !decide (z∈nums (mineG n E O L D k)))=nums (rdyK n E O L (D++mineG n E O L D k)):=by
 rw[nums_filter];congr 1;unfold rdyK;rw[List.filter_filter];refine List.filter_congr fun y _=> ?_
 rw[Bool.eq_iff_iff,Bool.and_eq_true,Bool.not_eq_true',decide_eq_false_iff_not,decide_eq_true_iff,decide_eq_true_iff,mem_nums_nat,List.mem_append];exact⟨fun⟨a,b⟩ q=>q.elim b a,fun q=>⟨fun a=>q (.inr a),fun a=>q (.inl a)⟩⟩
theorem rdy_zero:rdyK n E O L []=readyU n E (onT O L) (leftT O L):=by
 unfold rdyK;exact List.filter_eq_self.mpr fun y _=>by simp
theorem rdy_len(h:n<=64):(nums (rdyK n E O L D)).length<=64:=by
 unfold nums rdyK readyU;rw[List.length_map];refine Nat.le_trans (List.length_filter_le _ _) (Nat.le_trans (List.length_filter_le _ _) ?_)
 rw[List.length_range];exact h
theorem mine_len(h:n<=64):(nums (mineG n E O L D k)).length<=64:=by
 unfold nums;rw[List.length_map];unfold mineG
 split
 ·refine Nat.le_trans (List.length_filter_le _ _) ?_
  unfold succU;refine Nat.le_trans (List.length_filter_le _ _) ?_
  rw[List.length_range];exact h
 ·exact Nat.zero_le _
theorem succs_len(h:n<=64)(x:Int):(succsL n E x).length<=64:=by
 rw[succsL_nums];unfold nums succU;rw[List.length_map];refine Nat.le_trans (List.length_filter_le _ _) ?_
 rw[List.length_range];exact h
theorem pushesG_snoc(i:Nat): ∀(l:List Nat) (g:Gng) (x:Nat),pushesG g i (l++ [x])=pushG (pushesG g i l) i (x:Int)
 | [],g,x=>rfl
 |y::r,g,x=>pushesG_snoc i r _ x
theorem pushesG_take(g:Gng)(i:Nat)(l:List Nat){k x:Nat}(h:l[k]? =some x):pushesG g i (l.take (k+1))=pushG (pushesG g i (l.take k)) i (x:Int):=by
 rw[List.take_add_one,h];exact pushesG_snoc i _ g x
theorem tick_room(h:GOk n m E L g)(hF:Fits n E)(h0: ∀c,c<m->(g.tk c).at_=0){k:Nat}(hk:k<m){i x:Nat}(hx:(mineG n E g.O L (tickK n E L g k).2 k)[i]? =some x):
  ((pushesG (tickK n E L g k).1 k ((mineG n E g.O L (tickK n E L g k).2 k).take i)).R k).length=64/\
  pushE 64 ((pushesG (tickK n E L g k).1 k ((mineG n E g.O L (tickK n E L g k).2 k).take i)).T k) ((pushesG (tickK n E L g k).1 k ((mineG n E g.O L (tickK n E L g k).2 k).take i)).B k)=0:=by
 obtain⟨l,hl⟩: ∃l,l=mineG n E g.O L (tickK n E L g k).2 k:=⟨_,rfl⟩;rw[<-hl]at hx⊢;have hil:i<l.length:=(List.getElem?_eq_some_iff.1 hx).1
 have hxe:l[i]=x:=(List.getElem?_eq_some_iff.1 hx).2
 have hnd:l.Nodup:=by
  rw[hl];unfold mineG
  split
  ·exact(List.nodup_range.filter _).filter _
  ·exact List.nodup_nil
 have hin: ∀y∈l,y<n/\ReadyC E (onT g.O L) (leftT g.O L) y/\ ¬OverC E L (y:Int)/\y∉(tickK n E L g k).2:=fun y hy=>by
  rw[hl]at hy;obtain⟨a,b,d,e⟩:=mem_mine.mp hy;exact⟨b.1,d,fun q=>q _ b.2 rfl (by rw[a.2];decide),e⟩
 have hxl:x∈l:=hxe▸List.getElem_mem hil;have I:=TkInv.pushes (i:=k) hk h.n64 (tick_upto h hF h0 k (by omega)) (fun j hj=>(h.dq j hj).top) (hnd.sublist (List.take_sublist i l)) (fun y hy=>hin y (List.mem_of_mem_take hy))
 have hno:x∉(tickK n E L g k).2++l.take i:=fun q=>by
  rw[List.mem_append]at q;rcases q with q|q
  ·exact(hin x hxl).2.2.2 q
  ·obtain ⟨j,hj,he⟩:=List.getElem_of_mem q
   rw[List.length_take]at hj;rw[List.getElem_take]at he;have h2:=List.pairwise_iff_getElem.mp hnd j i (by omega) hil (by omega)
   exact h2 (by rw[he,hxe])
 have hr:=I.room h.n64 (hin x hxl).1 (hin x hxl).2.2.1 hno hk;have hT:0<=(pushesG (tickK n E L g k).1 k (l.take i)).T k:=by rw[I.same.1];exact(h.dq k hk).top
 have hlo:=I.lo k hk;refine⟨I.rl k hk,?_⟩
 unfold pushE ChkQ;rw[if_neg (fun q=>q ⟨by decide,by omega,by omega,by omega,by omega⟩),if_neg (by omega)]
theorem done_iff(hc:CrewOk n E O L)(hk:k<O.length):O.getD k 0∈nums (doneT O L)↔O.getD k 0≠ -1/\leftC L (O.getD k 0)=1:=by
 have hm:O.getD k 0∈O:=by
  rw[List.getD_eq_getElem?_getD,List.getElem?_eq_getElem hk]
  exact List.getElem_mem hk
 obtain⟨x,hx⟩: ∃x,x=O.getD k 0:=⟨_,rfl⟩;rw[<-hx]at hm⊢;constructor
 ·intro h
  unfold nums at h;obtain⟨y,hy,e⟩:=List.mem_map.mp h;have e2:x=(y:Int):=e.symm;subst e2;exact⟨by omega,(mem_doneT.mp hy).2.2⟩
 ·rintro ⟨h1,h2⟩
  have h3:=(hc.on x hm).resolve_left h1;obtain⟨y,rfl⟩: ∃y:Nat,x=y:=⟨x.toNat,by omega⟩
  rw[mem_nums_nat,mem_doneT];exact⟨by rw[hc.ln];omega,hm,h2⟩
theorem done_len:(nums (doneT O L)).length<=L.length:=by
 unfold nums doneT;rw[List.length_map];refine Nat.le_trans (List.length_filter_le _ _) ?_
 rw[List.length_range];exact Nat.le_refl _
end
end Go.Proofs.YtngdbbligebcbabGreatDoor
namespace Go.Proofs.YtngdbbligebcbabGreatDoor
open Go.RowKit
def bitsL(s:Nat):List Nat:=(List.range 64).filter s.testBit
theorem bitsL_zero:bitsL 0= []:=by decide
theorem bitsL_length(s:Nat):(bitsL s).length<=64:=by
 unfold bitsL;have:=List.length_filter_le s.testBit (List.range 64)
 rwa [List.length_range]at this
theorem filt_first(p q:Nat->Bool)(k:Nat)(hk:p k=true)(hlt: ∀j,j<k->p j=false)(hq: ∀j,q j=(p j&&decide (j≠k))): ∀n,k<n->(List.range n).filter p=k::(List.range n).filter q
  |0,h=>by omega
  | n + 1, h => by
    rw[List.range_succ,List.filter_append,List.filter_append];rcases Nat.lt_or_ge k n with h1|h1
    · rw[filt_first p q k hk hlt hq n h1];have e:q n=p n:=by rw[hq,decide_eq_true (by omega:n≠k),Bool.and_true]
      simp[List.filter,e]
    · obtain rfl:n=k:=by omega
      have e1:(List.range n).filter p= []:=List.filter_eq_nil_iff.mpr fun j hj=>by rw[hlt j (List.mem_range.mp hj)];exact Bool.false_ne_true
      have e2:(List.range n).filter q= []:=List.filter_eq_nil_iff.mpr fun j hj=>by rw[hq,hlt j (List.mem_range.mp hj)];exact Bool.false_ne_true
      have e3:q n=false:=by rw[hq];simp
      rw[e1,e2];simp[List.filter,hk,e3]
theorem low_bit(k m j:Nat):(2^k * (2 * m+1)).testBit j=(decide (k<=j)&&(decide (j=k)||m.testBit (j - k - 1))):=by
 rw[Nat.mul_comm,Nat.testBit_mul_two_pow]
 by_cases h:k<=j
 ·by_cases he: j = k
  ·subst he
   simp[Nat.testBit_zero]
  ·obtain ⟨i,rfl⟩: ∃ i,j = k + (i + 1):=⟨j - k - 1,by omega⟩
   have e1:k+(i+1) - k=i+1:=by omega
   have e2:(2 * m+1)/2=m:=by omega
   rw[e1,Nat.testBit_succ,e2];simp
 ·simp[h]
theorem low_less(k m j:Nat):(2^k * (2 * m+1) - 1).testBit j=(decide (j<k)||(decide (k<j)&&m.testBit (j - k - 1))):=by
 have hp:0<2^k:=Nat.two_pow_pos k;have e:2^k * (2 * m+1) - 1=2^k * (2 * m)+(2^k - 1):=by rw[Nat.mul_add];omega
 rw[e,Nat.testBit_two_pow_mul_add _ (by omega)]
 by_cases h:j<k
 ·rw [if_pos h,Nat.testBit_two_pow_sub_one]
  simp[h]
 ·rw [if_neg h]
  by_cases he:j=k
  ·subst he
   simp[Nat.testBit_zero]
  ·obtain ⟨i,rfl⟩: ∃ i,j = k + (i + 1):=⟨j - k - 1,by omega⟩
   have e1:k+(i+1) - k=i+1:=by omega
   have e2:(2 * m)/2=m:=by omega
   rw[e1,Nat.testBit_succ,e2];have h3:k<k+(i+1):=by omega
   simp[h,h3]
theorem bitsL_step{s:Nat}(h0:s≠0)(hs:s<18446744073709551616):bitsL s=Lib.ctz 64 s::bitsL (s &&& (s - 1)):=by
 obtain⟨m,hm,hk⟩:=Lib.ctzFrom_spec 64 s (by omega) hs
 have hc:Lib.ctz 64 s=Lib.ctzFrom 64 s:=by unfold Lib.ctz;rw[if_neg h0]
 rw[hc];obtain⟨k,hk2⟩: ∃k,k=Lib.ctzFrom 64 s:=⟨_,rfl⟩;rw[<-hk2]at hm hk⊢;clear hk2 hc;unfold bitsL;refine filt_first _ _ k ?_ ?_ ?_ 64 hk
 ·rw[hm,low_bit];simp
 ·intro j hj
  rw[hm,low_bit];simp[show¬k<=j by omega]
 ·intro j
  rw[Nat.testBit_and,hm,low_bit,low_less]
  by_cases h1:j<k
  ·simp[h1,show¬k<=j by omega]
  ·by_cases h2: j = k
   ·subst h2
    simp
   ·have h3: k < j:=by omega
    have h4:k<=j:=by omega
    simp[h1,h2,h3,h4]
theorem and_pred_lt{s:Nat}(h0:s≠0):s &&& (s - 1)<s:=Nat.lt_of_le_of_lt Nat.and_le_right (by omega)
theorem or_bit_testBit(s n j:Nat):(s ||| 2^n).testBit j=(s.testBit j||decide (n=j)):=by
 rw[Nat.testBit_or,Nat.testBit_two_pow]
theorem set_has_core(s n p q r:Nat)(b:Bool)(w:World)(hn:n<64)(hp:(2:Int)^n=(p:Int))(hq:(s:Int)/(p:Int)=(q:Int))(ha:bits .and .u64 (q:Int) 1=(r:Int))(hb:((r:Int)==1)=b):
  Calls Tryz.prog 103 #[.int .u64 s,.int .i64 n] w fun e w'=>e= .returned (.bool b)/\w=w':=by
 go_enter Tryz.func103,Tryz.ntmps103;go_wp2;go_ret;exact⟨rfl,rfl⟩
theorem set_has(s n:Nat)(w:World)(hs:s<18446744073709551616)(hn:n<64):
  Calls Tryz.prog 103 #[.int .u64 s,.int .i64 n] w fun e w'=>e= .returned (.bool (s.testBit n))/\w=w':=by
 have h1:s/2^n<=s:=Nat.div_le_self _ _;refine set_has_core s n (2^n) (s/2^n) (s/2^n%2) (s.testBit n) w hn (by push_cast;rfl) (by push_cast;rfl) ?_ ?_
 ·have h2:=bits_and_u64_nat (s / 2 ^ n) 1 (by omega) (by decide)
  rw[Nat.and_one_is_mod]at h2;exact h2
 ·rw [Nat.testBit_eq_decide_div_mod_eq]
  rcases Nat.mod_two_eq_zero_or_one (s/2^n)with h|h<;>rw[h]<;>rfl
theorem set_with_core(s n p r:Nat)(w:World)(hn:n<64)(hp:(2:Int)^n=(p:Int))(hw:IntKind.u64.wrap (p:Int)=(p:Int))(ha:bits .or .u64 (s:Int) (p:Int)=(r:Int)):
  Calls Tryz.prog 104 #[.int .u64 s,.int .i64 n] w fun e w'=>e= .returned (.int .u64 r)/\w=w':=by
 go_enter Tryz.func104,Tryz.ntmps104;go_wp2;go_ret;exact⟨rfl,rfl⟩
theorem set_with(s n:Nat)(w:World)(hs:s<18446744073709551616)(hn:n<64):
  Calls Tryz.prog 104 #[.int .u64 s,.int .i64 n] w fun e w'=>e= .returned (.int .u64 (s ||| 2^n:Nat))/\w=w':=by
 have h1:2^n<18446744073709551616:=Nat.pow_lt_pow_right (by decide) hn
 refine set_with_core s n (2^n) (s ||| 2^n) w hn (by push_cast;rfl) ?_ (bits_or_u64_nat s (2^n) hs h1)
 obtain⟨p,hp⟩: ∃p,p=2^n:=⟨_,rfl⟩;rw[<-hp]at h1⊢;rw[IntKind.wrap_u64];omega
theorem is_node(x:Int)(n:Nat)(w:World)(hn:n<=1000):
  Calls Tryz.prog 102 #[.int .i64 x,.int .i64 n] w fun e w'=>e= .returned (.bool (decide (0<=x/\x<n)))/\w=w':=by
 by_cases h0:0<=x
 ·by_cases h1: x < n
  ·rw [decide_eq_true (⟨h0,h1⟩: 0 <= x /\ x < n)]
   go_enter Tryz.func102,Tryz.ntmps102;go_wp2;go_ret;exact⟨rfl,rfl⟩
  ·rw [decide_eq_false (fun h => h1 h.2: ¬ (0 <= x /\ x < n))]
   go_enter Tryz.func102,Tryz.ntmps102;go_wp2;go_ret;exact⟨rfl,rfl⟩
 ·rw [decide_eq_false (fun h => h0 h.1: ¬ (0 <= x /\ x < n))]
  go_enter Tryz.func102,Tryz.ntmps102;go_wp2;go_ret;exact⟨rfl,rfl⟩
theorem ownI_nil(w:World)(base:Nat):OwnI w base (.slice none 0 0) []:=⟨rfl,.inl ⟨rfl,rfl⟩⟩
theorem set_row(s:Nat)(w:World)(hs:s<18446744073709551616)(hT:Tab64 w):
  Calls Tryz.prog 105 #[.int .u64 s] w (GotInts (nums (bitsL s)) w):=by
 have HS:=Lib.hid hs;have HT:=Lib.hid hT;have HLEN:=Lib.hid (bitsL_length s);clear hs hT;go_enter Tryz.func105,Tryz.ntmps105;go_wp2;go_loopw [0,3] (fun sv v wr=> ∃(t k:Nat) (A:Option Addr) (c:Nat) (l:List Nat),sv= .int .u64 t/\t<18446744073709551616/\k<=64/\v= .slice A k c/\Hid (l.length=k)/\Hid (l++bitsL t=bitsL s)/\Hid (OwnI wr w.heap.size (.slice A k c) (nums l))/\Hid (Below w.heap.size w wr)) (fun sv _ _=>(intOf sv).toNat)
 case atStart=>exact⟨s,0,none,0,[],rfl,HS.out,by omega,rfl,Lib.hid rfl,Lib.hid rfl,Lib.hid (ownI_nil _ _),Lib.hid (Below.refl _ _)⟩
 case round=>
  obtain⟨t,k,A,c,l,rfl,ht,hk,rfl,HL,HE,HO,HB⟩:=hrel
  by_cases h0:t=0
  ·subst h0
   have he:l=bitsL s:=by have:=HE.out;rwa [bitsL_zero,List.append_nil]at this
   have HE2:=Lib.hid he;clear he;go_wp2;go_ret;obtain⟨A2,c2,h1,h2⟩:=HO.out.slice;exact⟨A2,c2,by rw[<-HE2.out,<-h1];rfl,by rw[<-HE2.out];exact h2,HB.out⟩
  ·have HST:=Lib.hid (bitsL_step h0 ht)
   have hne:((t:Int) !=0)=true:=by simpa using h0
   have C:=Lib.hid (tz64_any t wr ht h0 (HT.out.via HB.out));have hsub:IntKind.u64.wrap ((t:Int) - 1)=((t - 1:Nat):Int):=by rw[IntKind.wrap_u64];omega
   have hand:=bits_and_u64_nat t (t - 1) ht (by omega)
   have hlt:=and_pred_lt h0;obtain⟨z,hz⟩: ∃z,z=t &&& (t - 1):=⟨_,rfl⟩;obtain⟨y,hy⟩: ∃y,y=Lib.ctz 64 t:=⟨_,rfl⟩;rw[<-hz]at hand hlt HST;rw[<-hy]at C HST;have hk2:k<64:=by
    have h1:=HE.out;rw[HST.out]at h1;have h2:=congrArg List.length h1;rw[List.length_append,HL.out]at h2;simp only[List.length_cons]at h2;have:=HLEN.out;omega
   have hsz:=HB.out.size;clear hz hy h0
   go_wp2_with(first
    |(go_at_call 130;refine C.out.mono ?_;rintro e w' ⟨rfl,rfl⟩)
    |(at_builtin;refine wpList_push rfl _ _ rfl wr w.heap.size _ (nums l) (y:Int) k (by rw[nums_length];exact HL.out) (by omega) HO.out hsz rfl rfl ?_;intro A4 c4 w4 HO4 HB4;(have HO4':=Lib.hid HO4);(have HB4':=Lib.hid HB4);clear HO4 HB4))
   go_roundw
   case rel=>exact⟨z,k+1,A4,c4,l++ [y],rfl,by omega,by omega,rfl,Lib.hid (by rw[List.length_append,HL.out];rfl),Lib.hid (by rw[List.append_assoc];exact(by rw[<-HST.out];exact HE.out:l++(y::bitsL z)=bitsL s)),Lib.hid (by rw[nums_snoc];exact HO4'.out),Lib.hid (HB.out.trans HB4'.out)⟩
   case measure=>simp[intOf];omega
theorem right_any(A:Option Addr)(c n:Nat)(W:List Int)(w:World)(hn:W.length=n)(hl:n<=1000)(hI:Ints w w.heap.size A W)(r:Bool)(hr:r=true↔WorkOk W):
  Calls Tryz.prog 126 #[.slice A n c] w fun e w'=>e= .returned (.bool r)/\w=w':=by
 have HI:=Lib.hid hI;have HN:=Lib.hid hn;have HR:=Lib.hid hr;clear hI hn hr;go_enter Tryz.func126,Tryz.ntmps126;go_wp2;go_loop [7] (fun i=> ∃j:Nat,j<=n/\i= .int .i64 j/\Hid (WorkOk (W.take j))) (fun i=>n - (intOf i).toNat)
 case atStart=>exact⟨0,Nat.zero_le _,rfl,Lib.hid (fun z hz=>by simp at hz)⟩
 case round=>
  obtain⟨j,hj,rfl,HO⟩:=hrel
  by_cases hlt:j<n
  ·obtain ⟨bk,o,z,rfl,hbg,hzj,hc1⟩:=HI.out.at_ (k:=j) (by rw [HN.out]; exact hlt)
   have HS:=Lib.hid (workOk_snoc hzj);have HBAD:=Lib.hid (fun h: ¬(0<=z/\z<=1000)=>(by
    cases hb:r with
    |true=>exact absurd ((HR.out.mp hb) z (List.mem_of_getElem? hzj)) h
    |false=>rfl:r=false))
   clear hzj
   by_cases h0:z<0
   ·have HX:=Lib.hid (HBAD.out (by omega))
    go_wp2;go_ret
    exact⟨by rw[HX.out];rfl,rfl⟩
   ·by_cases h1: 1000 < z
    ·have HX:=Lib.hid (HBAD.out (by omega))
     go_wp2;go_ret
     exact⟨by rw[HX.out];rfl,rfl⟩
    ·have HX: Hid (WorkOk (W.take (j + 1))):=Lib.hid (HS.out.mpr ⟨HO.out,by omega,by omega⟩)
     have g0:decide (z<0)=false:=decide_eq_false h0;have g1:decide (1000<z)=false:=decide_eq_false h1;go_wp2;go_round
     case rel=>exact⟨j+1,by omega,by go_num,HX⟩
     case measure=>simp[intOf];omega
  ·obtain rfl: j = n:=by omega
   have HX:Hid (r=true):=Lib.hid (HR.out.mpr (by have h:=HO.out;rwa [List.take_of_length_le (by rw[HN.out];omega)]at h))
   go_wp2;go_ret
   exact⟨by rw[HX.out];rfl,rfl⟩
structure PredsOf(n:Nat)(E:List (Int×Int))(ps:List Nat):Prop where
 len:ps.length=n
 lt: ∀y,y<n->ps.getD y 0<18446744073709551616
 bit: ∀y,y<n-> ∀a,(ps.getD y 0).testBit a=decide (ed E a y)
theorem PredsOf.nil(n:Nat):PredsOf n [] (List.replicate n 0):=by
 have h: ∀y,(List.replicate n 0).getD y 0=0:=fun y=>by
  rw[List.getD_eq_getElem?_getD,List.getElem?_replicate]
  split<;>rfl
 refine⟨by simp,fun y hy=>by rw[h];decide,fun y hy a=> ?_⟩
 rw[h,Nat.zero_testBit];exact(decide_eq_false (by unfold ed;simp)).symm
theorem PredsOf.snoc{n:Nat}{E:List (Int×Int)}{ps:List Nat}(h:PredsOf n E ps){x y:Nat}(hx:x<64)(hy:y<n):PredsOf n (E++ [((x:Int),(y:Int))]) (ps.set y (ps.getD y 0 ||| 2^x)):=by
 refine⟨by rw[List.length_set];exact h.len,fun b hb=> ?_,fun b hb a=> ?_⟩
 ·rw [getD_set]
  split
  ·exact Nat.or_lt_two_pow (n:=64) (h.lt y hy) (Nat.pow_lt_pow_right (by decide) hx)
  ·exact h.lt b hb
 ·rw [getD_set,Bool.eq_iff_iff,decide_eq_true_iff,ed_snoc]
  split
  ·rename_i hi
   rw[or_bit_testBit,Bool.or_eq_true,h.bit y hy,decide_eq_true_iff,decide_eq_true_iff];constructor
   ·rintro (k | k)
    ·exact .inl (by rw[<-hi.1];exact k)
    ·exact .inr ⟨k.symm,hi.1.symm⟩
   ·rintro (k | k)
    ·exact .inl (by rw[hi.1];exact k)
    ·exact .inr k.1.symm
  ·rename_i hi
   rw[h.bit b hb,decide_eq_true_iff];constructor
   ·exact .inl
   ·rintro (k | k)
    ·exact k
    ·exact absurd ⟨k.2.symm,by rw[h.len];exact hy⟩ hi
def natsV(ps:List Nat):List Value:=ps.map fun p=>Value.int .u64 (p:Nat)
theorem natsV_at{ps:List Nat}{j:Nat}(h:j<ps.length):(natsV ps)[j]? =some (.int .u64 (ps.getD j 0:Nat)):=by
 unfold natsV;rw[List.getElem?_map,List.getElem?_eq_getElem h,List.getD_eq_getElem?_getD,List.getElem?_eq_getElem h]
 rfl
theorem natsV_set(ps:List Nat)(j p:Nat):natsV (ps.set j p)=(natsV ps).set j (.int .u64 (p:Nat)):=by unfold natsV;rw[List.map_set]
theorem nat_cell_info:(Tryz.prog.info? 135).map (fun i=>(i.zero,i.size,i.bytes))=some (some (.int .u64 0),1,8):=by kernel_rfl
theorem make_nodes(n:Nat)(hn:n<=1000)(W:World):(Instr.makeSlice 127 (.int .i64 n) (.int .i64 n)).run Tryz.prog W= .ok (.slice (some ⟨W.heap.size,0,none⟩) n n) (W.alloc (.cells (natsV (List.replicate n 0)).toArray 135)):=by
 obtain⟨i0,hi,hz0,hz1,hz2⟩:=info_parts nat_cell_info;have h:=run_make (P:=Tryz.prog) W 127 135 i0 (.int .u64 0) Tryz.underlying127 hi hz0 .i64 .i64 n n (by omega) (by omega) (by rw[hz2];omega) (by omega)
 rw[hz1]at h;have e:madeCells (Value.int .u64 0).cells (((n:Int)).toNat * 1)=(natsV (List.replicate n 0)).toArray:=by
  apply Array.toList_inj.mp
  rw[show(Value.int .u64 0).cells= #[Value.int .u64 0]from rfl,toList_madeCells_one]
  simp[natsV]
 rw[e]at h;exact h
abbrev RowN (g:Nat) (ps:List Nat) (w:World):Prop:=RowV g 135 (natsV ps) w
theorem link_any(F:Option Addr)(n m d:Nat)(E:List (Int×Int))(w:World)(hl:n<=64)(hm:E.length=m)(hk:m<=1000)(hP:Pairs w w.heap.size F E):
  Calls Tryz.prog 127 #[.int .i64 n,.slice F m d] w fun e w'=>Below w.heap.size w w'/\
   ((EdgesOk n E/\ ∃g ps,e= .returned (.tuple #[.slice (some ⟨g,0,none⟩) n n,.bool true])/\w.heap.size<=g/\RowN g ps w'/\PredsOf n E ps)\/(¬EdgesOk n E/\e= .returned (.tuple #[.slice none 0 0,.bool false]))):=by
 have HP:=Lib.hid hP;have HM:=Lib.hid hm;have hmk:=fun W=>make_nodes n (by omega) W
 have CN:=Lib.hid (fun x W'=>(is_node x n W' (by omega)).mono fun _ _ h=>And.intro h.1 h.2.symm)
 have CH:=Lib.hid (fun s x hs hx W'=>(set_has s x W' hs hx).mono fun _ _ h=>And.intro h.1 h.2.symm)
 have CW:=Lib.hid (fun s x W'=>set_with s x W')
 clear hP hm;go_enter Tryz.func127,Tryz.ntmps127;go_wp2;have H0:Hid (RowN w.heap.size (List.replicate n 0) (w.alloc (.cells (natsV (List.replicate n 0)).toArray 135))):=Lib.hid (RowV.new w _ _);go_loopw [13] (fun i wr=> ∃(k:Nat) (ps:List Nat),k<=m/\i= .int .i64 k/\Hid (EdgesOk n (E.take k))/\Hid (PredsOf n (E.take k) ps)/\Hid (RowN w.heap.size ps wr)/\Hid (Below w.heap.size w wr)) (fun i _=>m - (intOf i).toNat)
 case atStart=>exact⟨0,_,Nat.zero_le _,rfl,Lib.hid ⟨fun e he=>by simp at he,fun e he=>by simp at he,by simp⟩,Lib.hid (by rw[List.take_zero];exact PredsOf.nil n),H0,Lib.hid (below_alloc _)⟩
 case round=>
  obtain⟨k,ps,hkm,rfl,HE,HPS,HV,HB⟩:=hrel;clear H0
  by_cases hlt:k<m
  ·obtain ⟨bk,o,⟨x,y⟩,rfl,hbg,hek,hc1,hc2⟩:=HP.out.at_ (k:=k) (by rw [HM.out]; exact hlt)
   simp only at hc1 hc2;have hd1:wr.cell? ⟨bk,o+k * 2,none⟩=some (.int .i64 x):=(HB.out.cell hbg).trans hc1
   have hd2:wr.cell? ⟨bk,o+k * 2+1,none⟩=some (.int .i64 y):=(HB.out.cell hbg).trans hc2
   have HS:=Lib.hid (edgesOk_snoc (n:=n) hek);have HSN:=Lib.hid (take_snoc' hek);have HBAD:=Lib.hid (fun(h: ¬EdgesOk n (E.take (k+1))) (q:EdgesOk n E)=>h (edgesOk_take q _))
   have hsz:=HB.out.size;have hgl:w.heap.size<wr.heap.size:=HV.out.lt;clear hc1 hc2 hek
   by_cases p1:0<=x/\x<n
   ·obtain ⟨a,rfl⟩:=Int.eq_ofNat_of_zero_le p1.1
    have C1:=Lib.hid (fun W'=>CN.out (a:Int) W')
    rw[decide_eq_true p1]at C1
    by_cases p2:0<=y/\y<n
    ·obtain ⟨b,rfl⟩:=Int.eq_ofNat_of_zero_le p2.1
     have C2:=Lib.hid (fun W'=>CN.out (b:Int) W')
     rw[decide_eq_true p2]at C2;have ha:a<n:=by omega
     have hb:b<n:=by omega
     by_cases p3:a=b
     ·have HX:=Lib.hid (HBAD.out (fun q => ((HS.out.mp q).2.2.2.1) (by rw [p3])))
      subst p3;clear p1 p2;go_wp2
      go_quiet (first
       |(go_at_call_of 102 (Value.int .i64 (a:Int));refine Calls.quiet_of_same (C1.out _)))
      go_wp2;go_ret2
      exact⟨below_drewN (HB.out.alloc (by omega) _) _,.inr ⟨HX.out,rfl⟩⟩
     ·have h3: ((a: Int) == (b: Int)) = false:=beq_eq_false_iff_ne.mpr (fun h => p3 (Int.ofNat_inj.mp h))
      have HP3:=Lib.hid (show((a:Int),(b:Int)).1≠((a:Int),(b:Int)).2 from fun h=>p3 (Int.ofNat_inj.mp h))
      have HP1:=Lib.hid p1;have HP2:=Lib.hid p2;have hcell:=HV.out.cell (natsV_at (ps:=ps) (j:=b) (by rw[HPS.out.len];exact hb))
      have C3:=Lib.hid (fun W'=>CH.out (ps.getD b 0) a (HPS.out.lt b hb) (by omega) W')
      have HBIT:=Lib.hid (HPS.out.bit b hb a);have HPN:=Lib.hid (HPS.out.snoc (show a<64 by omega) hb)
      have C4:=Lib.hid (fun W'=>CW.out (ps.getD b 0) a W' (HPS.out.lt b hb) (by omega))
      obtain⟨p,hp⟩: ∃p,p=ps.getD b 0:=⟨_,rfl⟩;rw[<-hp]at C3 HBIT hcell C4 HPN;obtain⟨p',hp'⟩: ∃p',p'=p ||| 2^a:=⟨_,rfl⟩
      simp only[<-hp']at C4 HPN;have hfr:=HV.out.frozen b;clear p1 p2 p3 hp hp'
      by_cases p4:ed (E.take k) a b
      ·have HX:=Lib.hid (HBAD.out (fun q => (HS.out.mp q).2.2.2.2 p4))
       rw[HBIT.out,decide_eq_true p4]at C3;clear p4;go_wp2
       go_quiet (first
        |(go_at_call_of 102 (Value.int .i64 (a:Int));refine Calls.quiet_of_same (C1.out _))
        |(go_at_call_of 102 (Value.int .i64 (b:Int));refine Calls.quiet_of_same (C2.out _))
        |(go_at_call_of 103 (Value.int .u64 (p:Int));refine Calls.quiet_of_same (C3.out _)))
       go_wp2;go_ret2
       exact⟨below_drewN (HB.out.alloc (by omega) _) _,.inr ⟨HX.out,rfl⟩⟩
      ·have HOK:=Lib.hid (HS.out.mpr ⟨HE.out,HP1.out,HP2.out,HP3.out,p4⟩)
       rw[HBIT.out,decide_eq_false p4]at C3;clear p4;go_wp2
       go_quiet (first
        |(go_at_call_of 102 (Value.int .i64 (a:Int));refine Calls.quiet_of_same (C1.out _))
        |(go_at_call_of 102 (Value.int .i64 (b:Int));refine Calls.quiet_of_same (C2.out _))
        |(go_at_call_of 103 (Value.int .u64 (p:Int));refine Calls.quiet_of_same (C3.out _)))
       go_wp2_with fail
       go_region_with (go_at_call 104;refine(C4.out _).mono ?_;rintro e w' ⟨rfl,rfl⟩)
       all_goals go_wp2
       all_goals go_roundw
       all_goals first
        |exact⟨k+1,_,by omega,by go_num,HOK,Lib.hid (by rw[HSN.out];exact HPN.out),Lib.hid (by rw[RowN,natsV_set];exact((HV.out.alloc _).below (below_drewN (Below.refl (w.heap.size+1) _) _) (Nat.lt_succ_self _)).set b _),Lib.hid ((below_drewN (HB.out.alloc (by omega) _) _).setCell (Nat.le_refl _) _)⟩
        |(simp[intOf];omega)
    ·have C2:=Lib.hid (fun W' => CN.out y W')
     rw[decide_eq_false p2]at C2;have HX:=Lib.hid (HBAD.out (fun q=>p2 (HS.out.mp q).2.2.1))
     clear p1 p2;go_wp2
     go_quiet (first
      |(go_at_call_of 102 (Value.int .i64 (a:Int));refine Calls.quiet_of_same (C1.out _))
      |(go_at_call_of 102 (Value.int .i64 y);refine Calls.quiet_of_same (C2.out _)))
     go_wp2;go_ret2
     exact⟨below_drewN (HB.out.alloc (by omega) _) _,.inr ⟨HX.out,rfl⟩⟩
   ·have C1:=Lib.hid (fun W' => CN.out x W')
    rw[decide_eq_false p1]at C1;have HX:=Lib.hid (HBAD.out (fun q=>p1 (HS.out.mp q).2.1))
    clear p1;go_wp2
    go_quiet (first
     |(go_at_call_of 102 (Value.int .i64 x);refine Calls.quiet_of_same (C1.out _)))
    go_wp2;go_ret2
    exact⟨below_drewN (HB.out.alloc (by omega) _) _,.inr ⟨HX.out,rfl⟩⟩
  ·obtain rfl: k = m:=by omega
   have HX:Hid (EdgesOk n E/\PredsOf n E ps):=Lib.hid (by
    have h:=HE.out;have h2:=HPS.out;rw[List.take_of_length_le (by rw[HM.out];omega)]at h h2
    exact⟨h,h2⟩)
   go_wp2;go_ret2
   exact⟨HB.out,.inl ⟨HX.out.1,w.heap.size,ps,rfl,Nat.le_refl _,HV.out,HX.out.2⟩⟩
end Go.Proofs.YtngdbbligebcbabGreatDoor
