import Derived.Test.YtlfekmbalgkmeaaGreatDoorZM37
import Derived.Test.YtlfekmbalgkmeaaGreatDoorZAdmFew
import Derived.Test.YtlfekmbalgkmeaaGreatDoorZM38
set_option linter.unusedSimpArgs false
set_option linter.unnecessarySimpa false
set_option linter.unusedVariables false
namespace Go.Proofs.YtlfekmbalgkmeaaGreatDoor
open Go Go.RowKit
theorem AdmA.few{Ts:List Task}{m:Int}{S:List Shp}{C:List (List Int)}{e:Int}(h:AdmA Ts m S C e):FewP S C:=by
 by_cases h0:e=0
 ·obtain ⟨L,hL⟩:=h.zero h0
  obtain⟨l1,l2,l3⟩:=hL.len;refine⟨by omega,by omega,fun r hr=> ?_⟩
  obtain⟨i,hi,rfl⟩:=List.mem_iff_getElem.mp hr;have e2:C[i]? =some C[i]:=List.getElem?_eq_getElem hi
  have e1:S[i]? =some S[i]:=List.getElem?_eq_getElem (by omega)
  have q:=(hL.suit e1 e2).2.1;have:=(coresS_pos (hL.good _ (List.mem_of_getElem? e1))).2.1
  omega
 ·obtain ⟨rfl,rfl⟩:=h.non h0
  exact⟨by simp,by simp,fun r hr=>by simp at hr⟩
end Go.Proofs.YtlfekmbalgkmeaaGreatDoor
