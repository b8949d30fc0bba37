/- The contract of strings.Clone in the seat YtjngnejmgfncnaaDoor. No statement is proved here. -/
import Derived.Test.YtjngnejmgfncnaaDoorChecked
import Derived.Test.YtjngnejmgfncnaaDoorShelf
import Derived.WalkKit
import Derived.Below
import Derived.Lib.Hide
namespace Go.Proofs.YtjngnejmgfncnaaDoor
open Go.RowKit

theorem clone_any (s : ByteArray) (w : World) (hs : s.size ≤ 1000) :
    Calls Tryd.prog 18 #[.string s] w fun e w' => e = .returned (.string s) ∧ Below w.heap.size w w' := by
  have C := Lib.hid (fun W => Tryd.stringslite_Clone s W (by omega))
  go_enter Tryd.func18, Tryd.ntmps18
  go_wp2_with fail
  refine (C.out _).mono ?_
  rintro e w1 ⟨rfl, b1⟩
  go_wp2
  go_ret
  exact ⟨rfl, b1⟩
end Go.Proofs.YtjngnejmgfncnaaDoor
