/- The contract of trefoilref04.Has in the seat YtmgfbpnphdkgiaaDoor. No statement is proved here. -/
import Derived.Test.YtmgfbpnphdkgiaaDoorPairs
set_option linter.unusedVariables false
namespace Go.Proofs.YtmgfbpnphdkgiaaDoor
open Go.RowKit

theorem mem_take_snoc {α : Type} [DecidableEq α] {l : List α} {j : Nat} {e x : α} (h : l[j]? = some e) : x ∈ l.take (j + 1) ↔ x ∈ l.take j ∨ x = e := by
  rw [List.take_add_one, h]
  simp
set_option maxHeartbeats 1000000 in
theorem has_any (A : Option Addr) (c : Nat) (zs : List Int) (x : Int) (w : World) (len : Nat) (hn : zs.length = len) (hl : len ≤ 1000) (hI : Ints w w.heap.size A zs) :
    Calls Tryd.prog 41 #[.slice A len c, .int .i64 x] w fun e w' => e = .returned (.bool (decide (x ∈ zs))) ∧ w = w' := by
  have HI := Lib.hid hI
  have HM := Lib.hid hn
  obtain ⟨r, hr⟩ : ∃ r, r = decide (x ∈ zs) := ⟨_, rfl⟩
  rw [← hr]
  have HR := Lib.hid hr
  clear hI hn hr
  go_enter Tryd.func41, Tryd.ntmps41
  go_wp2
  go_loop [5] (fun i => ∃ j : Nat, j ≤ len ∧ i = .int .i64 j ∧ Hid (x ∉ zs.take j)) (fun i => len - (intOf i).toNat)
  case atStart => exact ⟨0, Nat.zero_le _, rfl, Lib.hid (by simp)⟩
  case round =>
    obtain ⟨j, hj, rfl, HN⟩ := hrel
    by_cases hlt : j < len
    · obtain ⟨bk, o, z, rfl, hbg, hzj, hc1⟩ := HI.out.at_ (k := j) (by rw [HM.out]; exact hlt)
      have HS := Lib.hid (mem_take_snoc (x := x) hzj)
      have HZJ := Lib.hid hzj
      clear hzj
      by_cases h1 : z = x
      · have hin : x ∈ zs := by subst h1; exact List.mem_of_getElem? HZJ.out
        have HIN := Lib.hid (decide_eq_true hin)
        clear hin
        go_wp2
        go_ret
        exact ⟨by rw [HR.out, HIN.out]; rfl, rfl⟩
      · have h3 : (z == x) = false := by simpa using h1
        go_wp2
        go_round
        case rel => exact ⟨j + 1, by omega, by go_num, Lib.hid (by rw [HS.out]; rintro (h | h); exact HN.out h; exact h1 h.symm)⟩
        case measure => simp [intOf]; omega
    · obtain rfl : j = len := by omega
      have hno : x ∉ zs := by
        have h := HN.out
        rwa [List.take_of_length_le (by rw [HM.out]; omega)] at h
      have HNO := Lib.hid (decide_eq_false hno)
      clear hno
      go_wp2
      go_ret
      exact ⟨by rw [HR.out, HNO.out]; rfl, rfl⟩
end Go.Proofs.YtmgfbpnphdkgiaaDoor
