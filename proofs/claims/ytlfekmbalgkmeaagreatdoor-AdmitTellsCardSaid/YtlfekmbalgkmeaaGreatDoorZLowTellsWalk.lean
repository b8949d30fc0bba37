import Derived.Test.YtlfekmbalgkmeaaGreatDoorZM29
import Derived.Test.YtlfekmbalgkmeaaGreatDoorZRefLower
set_option linter.unusedSimpArgs false
set_option linter.unnecessarySimpa false
set_option linter.unusedVariables false
namespace Go.Proofs.YtlfekmbalgkmeaaGreatDoor
open Go.RowKit
theorem rlower_sz{s:Sh}{T:Task}{w:World}{n m k:Nat}(hn:(lowWv T).length=n)(hm:(lowEv T).length=m)(hk:(lowPv T).length=k)(hD:IsD w s T):Calls Tryz.prog 65 #[s.arg T.period T.deadline] w fun e w'=>
  ∃A c F d R z,e= .returned (.tuple #[.agg #[.slice A n c,.slice F m d,.slice R k z],.int .i64 (lowX T)])/\IsL w' A n c F m d R k z (lowWv T) (lowEv T) (lowPv T)/\Below w.heap.size w w':=by
 subst hn hm hk;exact(rlower_any s T w hD).mono fun _ _ h=>h.boxes hD.tab lows_few
end Go.Proofs.YtlfekmbalgkmeaaGreatDoor
