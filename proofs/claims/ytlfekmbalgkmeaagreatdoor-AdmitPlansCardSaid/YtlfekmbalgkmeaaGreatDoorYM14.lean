import Derived.Test.YtlfekmbalgkmeaaGreatDoorYM13
import Derived.Laws.ResultCell
import Derived.Test.YtlfekmbalgkmeaaGreatDoorYM1
set_option linter.unusedSimpArgs false
set_option linter.unnecessarySimpa false
set_option linter.unusedVariables false
namespace Go.Proofs.YtlfekmbalgkmeaaGreatDoor
open Go.RowKit
section
variable {g b base: Nat} {u4: Value} {R: Option Addr} {nr rc bk off j: Nat} {A1: Option Addr} {n1 c1: Nat} {A2: Option Addr} {n2 c2: Nat} {xs ys: List Int} {bs: List (List Int × List Int)}
end
structure IsD (w: World) (s: Sh) (T: Task): Prop where
 t: IsT w w.heap.size s T
 few: FewT T
 tab: DTab w
 lE: s.ne <= s.ec
 lF: s.nf <= s.fc
theorem IsD.below {w w': World} {s: Sh} {T: Task} (h: IsD w s T) (hb: Below w.heap.size w w'): IsD w' s T:=⟨(h.t.below hb).more hb.size,h.few,h.tab.via hb,h.lE,h.lF⟩
theorem Ints.cap {w: World} {b: Nat} {v: Value} {zs: List Int} (h: OwnI w b v zs): ∃ A c,v = .slice A zs.length c /\ Ints w w.heap.size A zs /\ (A = none -> zs.length = 0 /\ c = 0):=by
 obtain ⟨A,c,e,hI⟩:=h.slice
 refine ⟨A,c,e,hI,fun hA => ?_⟩
 rcases h.2 with ⟨h1,hn⟩ | ⟨g,cap,cur,h1,_⟩
 ·rw [e] at h1
  injection h1 with _ h2 h3
  exact ⟨h2,h3⟩
 ·rw [e,hA] at h1
  injection h1 with h2
  cases h2
end Go.Proofs.YtlfekmbalgkmeaaGreatDoor
