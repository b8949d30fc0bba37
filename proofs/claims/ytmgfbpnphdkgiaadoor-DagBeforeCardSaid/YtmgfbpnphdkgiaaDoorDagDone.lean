/- What the program's functions of package dag answer, in the seat YtmgfbpnphdkgiaaDoor: DagOk. No statement is proved here. -/
import Derived.Test.YtmgfbpnphdkgiaaDoorDagDoneD
import Derived.Test.YtmgfbpnphdkgiaaDoorDagDoneE
import Derived.Test.YtmgfbpnphdkgiaaDoorDagDoneG
namespace Go.Proofs.YtmgfbpnphdkgiaaDoor
open Go.RowKit

theorem dagOk : DagOk where
  check := fun w h => check_done w h
  total := fun w h => total_done w h
  long := fun w h => long_done w h
  order := fun w h => order_done w h
  preds := fun w x _ _ h => preds_done w x h
  succs := fun w x _ _ h => succs_done w x h
  before := fun w a b _ _ _ _ h => before_done w a b h
  same := fun w h h' => same_done w h h'
end Go.Proofs.YtmgfbpnphdkgiaaDoor
