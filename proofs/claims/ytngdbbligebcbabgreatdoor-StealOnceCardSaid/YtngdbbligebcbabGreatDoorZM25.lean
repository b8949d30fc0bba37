import Derived.Test.YtngdbbligebcbabGreatDoorZM14
import Derived.Test.YtngdbbligebcbabGreatDoorZM24
import Derived.Test.YtngdbbligebcbabGreatDoorZM20
import Derived.Test.YtngdbbligebcbabGreatDoorZM11
import Derived.BigQuiet
import Derived.Test.YtngdbbligebcbabGreatDoorZM12
import Derived.Test.YtngdbbligebcbabGreatDoorZM5
import Derived.Test.YtngdbbligebcbabGreatDoorZM7
import Derived.Test.YtngdbbligebcbabGreatDoorZM6
import Derived.Deep.QuietTactic
import Derived.Deep.RegionWith
set_option linter.unusedVariables false
namespace Go.Proofs.YtngdbbligebcbabGreatDoor
open Go Go.RowKit
def ApartV(u v:Value):Prop:=∀ b,u.ownBlock=some b->v.ownBlock≠some b
theorem OwnI.blockLt{w:World}{base:Nat}{v:Value}{zs:List Int}(h:OwnI w base v zs): ∀b,v.ownBlock=some b->base<=b/\b<w.heap.size:=by
 intro b hb;rcases h.2 with⟨rfl,_⟩|⟨g,cap,cur,rfl,hg,hgg,_⟩
 ·simp[Value.ownBlock]at hb
 ·obtain rfl: g = b:=by simpa [Value.ownBlock] using hb
  exact⟨hg,(Array.getElem?_eq_some_iff.1 hgg).1⟩
section
variable {P: Program} {Q: Exit -> Act -> World -> Prop}
end
def GNc(hb:Nat)(v:Value)(w:World):Prop:=∃ g,v= .pointer (some ⟨g,0,none⟩)/\hb<=g/\w.heap[g]? =some (.cells #[.slice none 0 0,.slice none 0 0] 37 (0,0))
theorem GNc.below{hb:Nat}{v:Value}{w w':World}(h:GNc hb v w)(hb':Below w.heap.size w w'):GNc hb v w':=by
 obtain⟨g,h1,h2,h3⟩:=h;exact⟨g,h1,h2,by rw[hb'.block _ (Array.getElem?_eq_some_iff.1 h3).1];exact h3⟩
def GBc(hb:Nat)(n m:Nat)(O L:List Int)(v:Value)(w:World):Prop:=∃ A1 c1 F1 d1,v= .agg #[.slice A1 n c1,.slice F1 m d1]/\OwnI w hb (.slice A1 n c1) O/\OwnI w hb (.slice F1 m d1) L/\(0<m->ApartV (.slice A1 n c1) (.slice F1 m d1))
theorem GBc.below{hb n m:Nat}{O L:List Int}{v:Value}{w w':World}(h:GBc hb n m O L v w)(hb':Below w.heap.size w w'):GBc hb n m O L v w':=by
 obtain⟨A1,c1,F1,d1,h1,h2,h3,h4⟩:=h;exact⟨A1,c1,F1,d1,h1,own_below h2 hb',own_below h3 hb',h4⟩
structure StC(hb g gO:Nat)(FL:Option Addr)(n m cO cL:Nat)(O L:List Int)(w:World):Prop where
 x:w.heap[g]? =some (.cells #[.slice (some ⟨gO,0,none⟩) n cO,.slice FL m cL] 37 (0,0))
 rO:OwnI w hb (.slice (some ⟨gO,0,none⟩) n cO) O
 rL:OwnI w hb (.slice FL m cL) L
 ne:0<m-> ∃gL,FL=some ⟨gL,0,none⟩/\gO≠gL
section
variable {hb g gO: Nat} {FL: Option Addr} {n m cO cL: Nat} {O L: List Int} {w w': World}
theorem StC.next(h:StC hb g gO FL n m cO cL O L w)(hb':Below w.heap.size w w'):StC hb g gO FL n m cO cL O L w':=
 ⟨by rw[hb'.block _ (Array.getElem?_eq_some_iff.1 h.x).1];exact h.x,own_below h.rO hb',own_below h.rL hb',h.ne⟩
theorem StC.x0(h:StC hb g gO FL n m cO cL O L w):w.cell? ⟨g,0,none⟩=some (.slice (some ⟨gO,0,none⟩) n cO):=by rw[cell_of_row _ _ _ _ _ _ h.x];rfl
theorem StC.x1(h:StC hb g gO FL n m cO cL O L w):w.cell? ⟨g,1,none⟩=some (.slice FL m cL):=by rw[cell_of_row _ _ _ _ _ _ h.x];rfl
theorem StC.blocks(h:StC hb g gO FL n m cO cL O L w):g≠gO/\ ∀gL,FL=some ⟨gL,0,none⟩->g≠gL:=by
 obtain⟨cur,h1,_⟩:=h.rO.blockC;constructor
 ·rintro rfl
  have:=h.x;rw[h1]at this;injection this with this;injection this with _ h3 _;exact absurd h3 (by decide)
 ·rintro gL rfl rfl
  obtain⟨cur2,h2,_⟩:=h.rL.blockC;have:=h.x;rw[h2]at this;injection this with this;injection this with _ h3 _;exact absurd h3 (by decide)
theorem StC.isC(h:StC hb g gO FL n m cO cL O L w)(l1:n<=400)(l2:m<=400):IsC w (some ⟨gO,0,none⟩) n cO FL m cL O L:=
 own_isC h.rO h.rL h.rO.len_eq h.rL.len_eq l1 l2
end
def ThC(wd:World)(slot n m:Nat)(O L:List Int)(f:Nat->Value)(w:World):Prop:=∃ g gO FL cO cL,f slot= .pointer (some ⟨g,0,none⟩)/\Below wd.heap.size wd w/\wd.heap.size<=g/\StC wd.heap.size g gO FL n m cO cL O L w
theorem ThC.slot{wd w:World}{slot n m:Nat}{O L:List Int}{f f':Nat->Value}(h:ThC wd slot n m O L f w)(e:f slot=f' slot):ThC wd slot n m O L f' w:=by
 obtain⟨g,gO,gL,cO,cL,h1,h2⟩:=h;exact⟨g,gO,gL,cO,cL,e▸h1,h2⟩
theorem ThC.below{wd w w':World}{slot n m:Nat}{O L:List Int}{f:Nat->Value}(h:ThC wd slot n m O L f w)(hb:Below w.heap.size w w'):ThC wd slot n m O L f w':=by
 obtain⟨g,gO,gL,cO,cL,h1,h2,h3,h4⟩:=h;exact⟨g,gO,gL,cO,cL,h1,h2.trans (hb.mono h2.size),h3,h4.next hb⟩
theorem stC{o:Oper}{a:Act}{w wd:World}{K:Act->World->Prop}{Q:Exit->Act->World->Prop}{slot n m:Nat}{s y:Operand}{O L:List Int}(hop:o.op= .store 37 s y)(hdst:o.dst=none)
  (hs:a.eval s=a.eval (.tmp slot)) (h9:GNc wd.heap.size (a.eval (.tmp slot)) w) (h7:GBc wd.heap.size n m O L (a.eval y) w) (hn:0<n) (hb:Below wd.heap.size wd w) (hK: ∀w',ThC wd slot n m O L (fun t=>a.eval (.tmp t)) w'->wd.heap.size<=w'.heap.size->(∀v,NewR 3 w wd.heap.size v->NewR 3 w' wd.heap.size v)->K a w'):o.wp Tryz.prog a w K Q:=by
 obtain⟨g,q9,hg1,hg2⟩:=h9;obtain⟨A1,c1,F1,d1,q7,hO,hL,hap⟩:=h7;obtain⟨bO,rfl⟩: ∃b,A1=some ⟨b,0,none⟩:=by
  rcases hO.2 with⟨e,h0⟩|⟨b,cap,cur,e,_⟩
  ·injection e with _ e2 _;omega
  ·injection e with e1 _ _;exact⟨b,e1⟩
 have hne:0<m-> ∃gL,F1=some ⟨gL,0,none⟩/\bO≠gL:=fun hm=>by
  obtain⟨bL,rfl⟩: ∃b,F1=some ⟨b,0,none⟩:=by
   rcases hL.2 with⟨e,h0⟩|⟨b,cap,cur,e,_⟩
   ·injection e with _ e2 _;omega
   ·injection e with e1 _ _;exact⟨b,e1⟩
  exact⟨bL,rfl,fun e=>hap hm bO rfl (by rw[e];rfl)⟩
 have hoth:=other_setC w g (.slice (some ⟨bO,0,none⟩) n c1) (.slice F1 m d1);refine ox_storeC (g:=g) (u:=.slice (some ⟨bO,0,none⟩) n c1) (v:=.slice F1 m d1) hop hdst (hs.trans q9) q7 ⟨_,_,_,_,_,_,rfl,rfl⟩ hg2 (hK _ ⟨g,bO,F1,c1,d1,q9,hb.trans (below_setC hg1 _ _),hg1,row_setC hg2 _ _,other_ownC hO hg2 (by decide) hoth,other_ownC hL hg2 (by decide) hoth,hne⟩ (by rw[size_setC];exact hb.size) ?_)
 rintro v ⟨gn,e,hgn,hbn⟩;refine⟨gn,e,?_,hbn⟩
 rw[hoth gn (fun e2=>by
  subst e2;rw[hg2]at hgn;injection hgn with hgn;injection hgn with _ h3 _;exact absurd h3 (by decide))]
 exact hgn
end Go.Proofs.YtngdbbligebcbabGreatDoor
namespace Go.Proofs.YtngdbbligebcbabGreatDoor
open Go.RowKit
section
variable {A: Option Addr} {n c: Nat} {F: Option Addr} {m d: Nat} {W: List Int} {E: List (Int × Int)} {N: Option Addr} {nn nc: Nat} {need: List Int} {T: Option Addr} {tn tc: Nat} {t: List (List Int)}
end
section
variable {A: Option Addr} {n c: Nat} {F: Option Addr} {m d: Nat} {W: List Int} {E: List (Int × Int)} {N: Option Addr} {nn nc: Nat} {need: List Int} {T: Option Addr} {tn tc: Nat} {t: List (List Int)}
end
section
variable {A: Option Addr} {n c: Nat} {F: Option Addr} {m d: Nat} {W: List Int} {E: List (Int × Int)} {A': Option Addr} {n' c': Nat} {F': Option Addr} {m' d': Nat} {O L: List Int}
end
section
variable {A: Option Addr} {n c: Nat} {F: Option Addr} {m d: Nat} {O L: List Int} {A': Option Addr} {n' c': Nat} {F': Option Addr} {m' d': Nat} {O' L': List Int}
theorem below_alloc2c{w:World}(o p:Obj):Below w.heap.size w ((w.alloc o).alloc p):=(below_alloc o).trans ((below_alloc (w:=w.alloc o) p).mono (by simp))
end
section
variable {T T': Option Addr} {tn tc tn' tc': Nat} {t t': List (List Int)}
end
end Go.Proofs.YtngdbbligebcbabGreatDoor
