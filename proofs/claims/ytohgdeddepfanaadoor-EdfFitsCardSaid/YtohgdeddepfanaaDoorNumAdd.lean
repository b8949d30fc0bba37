/- The contract of num.Add in the seat YtohgdeddepfanaaDoor: the sum of all, or the first error. No statement is proved here. -/
import Derived.Test.YtohgdeddepfanaaDoorNumFirst
namespace Go.Proofs.YtohgdeddepfanaaDoor
open Go.RowKit

end Go.Proofs.YtohgdeddepfanaaDoor
