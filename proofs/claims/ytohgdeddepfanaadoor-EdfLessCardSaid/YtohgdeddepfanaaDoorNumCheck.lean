/- The contract of num.Check, in the seat YtohgdeddepfanaaDoor (out of NumFirst). No statement is proved here. -/
import Derived.Test.YtohgdeddepfanaaDoorChecked
import Derived.Test.YtohgdeddepfanaaDoorMem
import Derived.Test.YtohgdeddepfanaaDoorNumMath
import Derived.KernelRfl
namespace Go.Proofs.YtohgdeddepfanaaDoor
open Go.RowKit

theorem check_any (n : Int) (w : World) : Calls Tryd.prog 41 #[.int .i64 n] w fun e w' => e = .returned (.int .i64 (chk n)) ∧ w = w' := by
  by_cases h1 : n < 0
  · rw [chk_low h1]
    go_enter Tryd.func41, Tryd.ntmps41
    go_wp2
    go_ret
    exact ⟨rfl, rfl⟩
  · by_cases h2 : 1099511627775 < n
    · rw [chk_high h2]
      go_enter Tryd.func41, Tryd.ntmps41
      go_wp2
      go_ret
      exact ⟨rfl, rfl⟩
    · rw [chk_ok (by omega) (by omega)]
      go_enter Tryd.func41, Tryd.ntmps41
      go_wp2
      go_ret
      exact ⟨rfl, rfl⟩

end Go.Proofs.YtohgdeddepfanaaDoor
