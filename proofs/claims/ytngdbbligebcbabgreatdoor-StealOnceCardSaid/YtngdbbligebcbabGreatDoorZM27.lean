import Derived.Test.YtngdbbligebcbabGreatDoorZM25
import Derived.Test.YtngdbbligebcbabGreatDoorZM26
import Derived.Test.YtngdbbligebcbabGreatDoorZM14
import Derived.BigRegion
import Derived.StillTailTactics
import Derived.Test.YtngdbbligebcbabGreatDoorZM8
import Derived.Test.YtngdbbligebcbabGreatDoorZM7
set_option linter.unusedVariables false
set_option linter.unusedSimpArgs false
namespace Go.Proofs.YtngdbbligebcbabGreatDoor
open Go Go.RowKit
section
variable {A: Option Addr} {n c: Nat} {F: Option Addr} {m d: Nat} {O L: List Int} {wf x y: World}
section
variable {hb g gO: Nat} {FL: Option Addr} {cO cL: Nat} {Oc Lc: List Int} {v: Value} {Dc: List Int}
end
end
section
variable {A: Option Addr} {n c: Nat} {F: Option Addr} {m d: Nat} {O L: List Int}
end
end Go.Proofs.YtngdbbligebcbabGreatDoor
namespace Go.Proofs.YtngdbbligebcbabGreatDoor
open Go.RowKit
theorem OwnI.capLe{w:World}{base:Nat}{A:Option Addr}{n c:Nat}{zs:List Int}(h:OwnI w base (.slice A n c) zs):n<=c:=by
 rcases h.2 with⟨hv,hn⟩|⟨g,cap,cur,hv,hg,hgg,hle,_⟩
 ·injection hv with _ h1 h2
  omega
 ·injection hv with _ h1 h2
  omega
theorem OwnI.noneNil{w:World}{base:Nat}{A:Option Addr}{n c:Nat}{zs:List Int}(h:OwnI w base (.slice A n c) zs):A=none->n=0/\c=0:=by
 rintro rfl;rcases h.2 with⟨hv,hn⟩|⟨g,cap,cur,hv,_⟩
 ·injection hv with _ h1 h2
  exact⟨h1,h2⟩
 ·injection hv with h1
  cases h1
def OwnTr(w:World)(base:Nat)(v:Value)(t:List (List Int)):Prop:=
 ∃vs:List Value,w.ownsRow base 22 1 v t.length vs/\ ∀(k:Nat) (r:List Int),t[k]? =some r-> ∃A1 c1,vs[k]? =some (Value.slice A1 r.length c1)/\OwnI w base (Value.slice A1 r.length c1) r
theorem OwnTr.below{w w':World}{base:Nat}{v:Value}{t:List (List Int)}(h:OwnTr w base v t)(hb:Below w.heap.size w w'):OwnTr w' base v t:=by
 obtain⟨vs,h1,h2⟩:=h;exact⟨vs,own_below h1 hb,fun k r hr=>by
  obtain⟨A1,c1,e1,e2⟩:=h2 k r hr;exact⟨A1,c1,e1,e2.below hb⟩⟩
theorem OwnTr.new(w:World)(base:Nat)(hb:base<=w.heap.size):OwnTr (w.alloc (.cells #[] 22)) base (.slice (some ⟨w.heap.size,0,none⟩) 0 0) []:=
 ⟨[],⟨rfl,.inr ⟨w.heap.size,0,#[],rfl,hb,heap_alloc_new w _,Nat.le_refl _,by simp[maxLen],rfl,rfl⟩⟩,fun k r hr=>by simp at hr⟩
theorem OwnTr.open{w:World}{base:Nat}{v:Value}{t:List (List Int)}(h:OwnTr w base v t): ∃A c,v= .slice A t.length c/\Trc w w.heap.size A t/\(A=none->t.length=0/\c=0)/\t.length<=c:=by
 obtain⟨vs,h1,h2⟩:=h;rcases h1.2 with⟨rfl,hn⟩|⟨g,cap,cur,rfl,hg,hgg,hle,rest⟩
 ·refine⟨none,0,by rw[hn],fun hp=>by omega,fun _=>⟨hn,rfl⟩,by omega⟩
 ·refine ⟨some ⟨g,0,none⟩,cap,rfl,fun _ => ⟨g,0,rfl,(Array.getElem?_eq_some_iff.1 hgg).1,fun k r hr => ?_⟩,fun e => (by cases e),hle⟩
  obtain⟨A1,c1,e1,e2⟩:=h2 k r hr;refine⟨A1,c1,?_,e2.ints,e2.noneNil,e2.capLe⟩
  have hc:=h1.cells (g:=g) rfl k _ e1;rw[addr_add]at hc;exact hc
theorem rows_cell_infoS:(Tryz.prog.info? 22).map (fun i=>(i.zero,i.size,i.bytes))=some (some (.slice none 0 0),1,24):=by kernel_rfl
section
variable {N: Option Addr} {nn nc: Nat} {need: List Int} {T: Option Addr} {tn tc: Nat} {t: List (List Int)}
end
end Go.Proofs.YtngdbbligebcbabGreatDoor
namespace Go.Proofs.YtngdbbligebcbabGreatDoor
open Go Go.RowKit
section
variable {wf x y: World} {A: Option Addr} {n c: Nat} {F: Option Addr} {m d: Nat} {W: List Int} {E: List (Int × Int)} {gc: Nat} {A1: Option Addr} {n1 c1: Nat} {F1: Option Addr} {m1 d1: Nat} {O L: List Int}
end
section
variable {A: Option Addr} {n c: Nat} {F: Option Addr} {m d: Nat} {W: List Int} {E: List (Int × Int)} {N: Option Addr} {nn nc: Nat} {need: List Int}
end
noncomputable def readyV (W:List Int) (E:List (Int×Int)) (O L:List Int):List Int:=if crewE W E O L=0 then readyW E O L W.length else []
noncomputable def tickO (W:List Int) (E:List (Int×Int)) (O L:List Int):List Int:=if crewE W E O L=0 then onT O L else []
noncomputable def tickL (W:List Int) (E:List (Int×Int)) (O L:List Int):List Int:=if crewE W E O L=0 then leftT O L else []
noncomputable def tickD (W:List Int) (E:List (Int×Int)) (O L:List Int):List Int:=if crewE W E O L=0 then nums (doneT O L)else []
def GotL(zs:List Int)(v:Value)(w:World):Prop:=∃ A c,v= .slice A zs.length c/\Ints w w.heap.size A zs
theorem GotL.below{zs:List Int}{v:Value}{w w':World}(h:GotL zs v w)(hb:Below w.heap.size w w'):GotL zs v w':=by
 obtain⟨A,c,h1,h2⟩:=h;exact⟨A,c,h1,(h2.below hb).more hb.size⟩
def GotT(t:List (List Int))(v:Value)(w:World):Prop:=∃ T tc,v= .slice T t.length tc/\Trc w w.heap.size T t/\(T=none->t.length=0/\tc=0)
theorem GotT.below{t:List (List Int)}{v:Value}{w w':World}(h:GotT t v w)(hb:Below w.heap.size w w'):GotT t v w':=by
 obtain⟨T,tc,h1,h2,h3⟩:=h;exact⟨T,tc,h1,(h2.below hb).more hb.size,h3⟩
end Go.Proofs.YtngdbbligebcbabGreatDoor
