/- The contract of trefoilref04.Total in the seat YtmgfbpnphdkgiaaDoor. No statement is proved here. -/
import Derived.Test.YtmgfbpnphdkgiaaDoorRefNear
import Derived.Test.YtmgfbpnphdkgiaaDoorRefSame
set_option linter.unusedVariables false
namespace Go.Proofs.YtmgfbpnphdkgiaaDoor
open Go.RowKit

set_option maxHeartbeats 800000 in
theorem total_any (A F : Option Addr) (n c m d : Nat) (W : List Int) (w : World) (hn : W.length = n) (hl : n ≤ 1000) (hW : ∀ z ∈ W, 0 ≤ z ∧ z ≤ 1000) (hI : Ints w w.heap.size A W) :
    Calls Tryd.prog 26 #[.agg #[.slice A n c, .slice F m d]] w fun e w' => e = .returned (.int .i64 W.sum) ∧ Below w.heap.size w w' := by
  have HI := Lib.hid hI
  have HN := Lib.hid hn
  have HW := Lib.hid hW
  clear hI hn hW
  obtain ⟨t, ht⟩ : ∃ t, t = W.sum := ⟨_, rfl⟩
  rw [← ht]
  have HT := Lib.hid ht
  clear ht
  go_enter Tryd.func26, Tryd.ntmps26
  go_wp2
  go_loop [3, 4] (fun s i => ∃ (j : Nat) (q : Int), j ≤ n ∧ i = .int .i64 j ∧ 0 ≤ q ∧ q ≤ 1000 * j ∧ Hid (q = (W.take j).sum) ∧ s = .int .i64 q) (fun _ i => n - (intOf i).toNat)
  case atStart => exact ⟨0, 0, Nat.zero_le _, rfl, by omega, by omega, Lib.hid (by simp), rfl⟩
  case round =>
    obtain ⟨j, q, hj, rfl, hq0, hq1, hqe, rfl⟩ := hrel
    by_cases hlt : j < n
    · obtain ⟨bk, o, z, rfl, hbg, hzj, hc1⟩ := HI.out.at_ (k := j) (by rw [HN.out]; exact hlt)
      obtain ⟨z0, z1⟩ := HW.out z (List.mem_of_getElem? hzj)
      have HQ := Lib.hid (show q + z = (W.take (j + 1)).sum by rw [take_snoc' hzj, List.sum_append, hqe.out]; simp)
      clear hzj
      go_wp2
      go_round
      case rel => exact ⟨j + 1, q + z, by omega, by go_num, by omega, by omega, HQ, by go_num⟩
      case measure => simp [intOf]; omega
    · obtain rfl : j = n := by omega
      have hl2 : W.take j = W := List.take_of_length_le (by rw [HN.out]; omega)
      rw [hl2] at hqe
      go_wp2
      go_ret
      exact ⟨by rw [HT.out, ← hqe.out]; rfl, below_alloc _⟩
end Go.Proofs.YtmgfbpnphdkgiaaDoor
