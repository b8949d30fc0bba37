import Derived.Test.YtngdbbligebcbabGreatDoorZM25
import Derived.Test.YtngdbbligebcbabGreatDoorZM14
import Derived.BigRegion
import Derived.StillTailTactics
import Derived.Laws.ResultCell
import Derived.Test.YtngdbbligebcbabGreatDoorZM12
import Derived.Test.YtngdbbligebcbabGreatDoorZM4
import Derived.Test.YtngdbbligebcbabGreatDoorZM6
set_option linter.unusedVariables false
set_option linter.unusedSimpArgs false
namespace Go.Proofs.YtngdbbligebcbabGreatDoor
open Go Go.RowKit
open Classical in
noncomputable def newE (W:List Int) (E:List (Int×Int)) (need:List Int) (cores:Int):Int:=if chkE W E=0 then(if FormOk W need cores then 0 else 100)else chkE W E
noncomputable def newO (W:List Int) (E:List (Int×Int)) (need:List Int) (cores:Int):List Int:=if newE W E need cores=0 then List.replicate cores.toNat (-1)else []
noncomputable def newL (W:List Int) (E:List (Int×Int)) (need:List Int) (cores:Int):List Int:=if newE W E need cores=0 then need else []
theorem newE_zero{W:List Int}{E:List (Int×Int)}{need:List Int}{cores:Int}:newE W E need cores=0↔May W E/\FormOk W need cores:=by
 unfold newE
 by_cases h:chkE W E=0
 ·rw [if_pos h]
  by_cases h2:FormOk W need cores
  ·rw[if_pos h2];exact⟨fun _=>⟨chkE_zero.mp h,h2⟩,fun _=>rfl⟩
  ·rw[if_neg h2];exact⟨fun e=>absurd e (by decide),fun e=>absurd e.2 h2⟩
 ·rw[if_neg h];exact⟨fun e=>absurd e h,fun e=>absurd (chkE_zero.mpr e.1) h⟩
structure StNw(wf:World)(hb g:Nat)(vO vL:Value)(O L:List Int)(x:World):Prop where
 bel:Below wf.heap.size wf x
 lo:wf.heap.size+1+1<=hb
 r:x.heap[wf.heap.size+1]? =some (.cells #[.slice none 0 0,.slice none 0 0] 37 (0,0))
 b:x.heap[g]? =some (.cells #[vO,vL] 37 (0,0))
 hg:hb<=g
 on:OwnI x hb vO O
 left:OwnI x hb vL L
 ap: ∀k,vO.ownBlock=some k->vL.ownBlock≠some k
section
variable {wf x y: World} {hb g: Nat} {vO vL: Value} {O L: List Int}
theorem RXs.ownFar2{t u:TypeId}{base base':Nat}{row:Option Nat}{w w':World}(h:RXs u base row w w'){s k:Nat}{v:Value}{xs:List Value}(ho:w.ownsRow base' t s v k xs)(hne:v.ownBlock=none\/v.ownBlock≠row):w'.ownsRow base' t s v k xs:=by
 rcases h with h|⟨h,_⟩
 ·exact own_below ho h
 ·exact ho.kept h hne
theorem StNw.push(h:StNw wf hb g vO vL O L x)(hsz:hb<=x.heap.size){v':Value}{O':List Int}(ho:OwnI y hb v' O')(hr:RXs 3 hb vO.ownBlock x y)(hat: ∀k,v'.ownBlock=some k->vO.ownBlock=some k\/x.heap.size<=k):
  StNw wf hb g v' vL O' L (y.setCell ⟨g,0,none⟩ v'):=by
 have b:=hr.below hsz;have hL:=h.left.blockLt;have hlo:=h.lo;have hg:=h.hg;have hbox:=hr.heap h.b (by decide)
 have hoth: ∀k,k≠g->(y.setCell ⟨g,0,none⟩ v').heap[k]? =y.heap[k]?:=fun k hk=>heap_setCell_other _ _ _ _ hk
 have hleft:OwnI y hb vL L:=by
  refine hr.ownFar2 h.left ?_
  cases hv:vL.ownBlock with
  |none=>exact .inl rfl
  |some q=>exact .inr fun e=>h.ap q e.symm hv
 refine⟨h.bel.trans ((b.mono (by omega)).setCell (by show wf.heap.size<=g;omega) _),h.lo,?_,?_,hg,other_ownC ho hbox (by decide) hoth,other_ownC hleft hbox (by decide) hoth,fun k e1 e2=> ?_⟩
 ·rw [hoth _ (by omega)]
  exact hr.heap h.r (by decide)
 ·have:=heap_setCell_same y g 0 _ _ v' hbox
  simpa using this
 ·rcases hat k e1 with h1 | h1
  ·exact h.ap k h1 e2
  ·have:=(hL k e2).2
   omega
end
theorem new_cell_info:(Tryz.prog.info? 3).map (fun i=>(i.zero,i.size,i.bytes))=some (some (.int .i64 0),1,8):=by kernel_rfl
section
variable {A: Option Addr} {n c: Nat} {F: Option Addr} {m d: Nat} {W: List Int} {E: List (Int × Int)} {N: Option Addr} {nn nc: Nat} {need: List Int}
end
section
variable {A: Option Addr} {n c: Nat} {F: Option Addr} {m d: Nat} {W: List Int} {E: List (Int × Int)} {A': Option Addr} {n' c': Nat} {F': Option Addr} {m' d': Nat} {O L: List Int}
end
end Go.Proofs.YtngdbbligebcbabGreatDoor
namespace Go.Proofs.YtngdbbligebcbabGreatDoor
section
variable {O L Oc Lc Dc: List Int} {k j: Nat}
end
end Go.Proofs.YtngdbbligebcbabGreatDoor
