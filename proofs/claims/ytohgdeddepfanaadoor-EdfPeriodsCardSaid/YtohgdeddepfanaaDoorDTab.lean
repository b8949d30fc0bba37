/- What the walks of layer 5 ask of a world's package variables, in the seat YtohgdeddepfanaaDoor: math/bits' table of 64. (Copy over DTab.tpl for a landed program that reads it.) No statement is proved here. -/
import Derived.Test.YtohgdeddepfanaaDoorTz64
namespace Go.Proofs.YtohgdeddepfanaaDoor
open Go Go.RowKit
def DTab (w : World) : Prop := Tab64 w
theorem DTab.via {w w' : World} (h : DTab w) (hb : Below w.heap.size w w') : DTab w' := Tab64.via h hb
end Go.Proofs.YtohgdeddepfanaaDoor
