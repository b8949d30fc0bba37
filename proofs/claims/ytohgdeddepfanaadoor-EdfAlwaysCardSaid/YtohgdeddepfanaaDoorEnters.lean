/- That a call of a Go function enters it, in the seat YtohgdeddepfanaaDoor. No statement is proved here. -/
import Derived.WalkKit
import Derived.Shelf.Abstract
import Derived.Test.YtohgdeddepfanaaDoorChecked
namespace Go.Proofs.YtohgdeddepfanaaDoor
open Go Go.RowKit

theorem eg_of {f : Nat} {fn : Func} {c : Code} (hf : Tryd.prog.funcs[f]? = some fn) (hname : (fn.name == "runtime.NumGoroutine") = false) (hb : fn.body = some c) : ∀ args w, (callFunc f args).run Tryd.prog w = .ok (.enter f args) w := enters_of hf hname hb
end Go.Proofs.YtohgdeddepfanaaDoor
