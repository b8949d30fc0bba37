/- The contracts of trefoilref04.Near and All in the seat YtmgfbpnphdkgiaaDoor. No statement is proved here. -/
import Derived.Test.YtmgfbpnphdkgiaaDoorDagMem
import Derived.Test.YtmgfbpnphdkgiaaDoorHas
import Derived.Test.YtmgfbpnphdkgiaaDoorDagReach
set_option linter.unusedVariables false
namespace Go.Proofs.YtmgfbpnphdkgiaaDoor
open Go.RowKit

set_option maxRecDepth 100000 in
set_option maxHeartbeats 1000000 in
theorem near_any (A F : Option Addr) (n c m d : Nat) (E : List (Int × Int)) (a b : Int) (w : World) (hm : E.length = m) (hl : m ≤ 1000) (hP : Pairs w w.heap.size F E) :
    Calls Tryd.prog 30 #[.agg #[.slice A n c, .slice F m d], .int .i64 a, .int .i64 b] w fun e w' => e = .returned (.bool (decide ((a, b) ∈ E))) ∧ Below w.heap.size w w' := by
  have HP := Lib.hid hP
  have HM := Lib.hid hm
  obtain ⟨r, hr⟩ : ∃ r, r = decide ((a, b) ∈ E) := ⟨_, rfl⟩
  rw [← hr]
  have HR := Lib.hid hr
  clear hP hm hr
  go_enter Tryd.func30, Tryd.ntmps30
  go_wp2
  go_loop [7] (fun i => ∃ j : Nat, j ≤ m ∧ i = .int .i64 j ∧ Hid ((a, b) ∉ E.take j)) (fun i => m - (intOf i).toNat)
  case atStart => exact ⟨0, Nat.zero_le _, rfl, Lib.hid (by simp)⟩
  case round =>
    obtain ⟨j, hj, rfl, HN⟩ := hrel
    by_cases hlt : j < m
    · obtain ⟨bk, o, e, rfl, hbg, hej, hc1, hc2⟩ := HP.out.at_ (k := j) (by rw [HM.out]; exact hlt)
      have hs := mem_take_snoc (x := (a, b)) hej
      obtain ⟨x, y⟩ := e
      simp only at hc1 hc2
      have HEJ := Lib.hid hej
      have HS := Lib.hid hs
      clear hej hs
      by_cases h1 : x = a
      · by_cases h2 : y = b
        · have hin : (a, b) ∈ E := by subst h1 h2; exact List.mem_of_getElem? HEJ.out
          have HIN := Lib.hid (decide_eq_true hin)
          clear hin
          go_wp2
          go_ret
          exact ⟨by rw [HR.out, HIN.out]; rfl, below_alloc _⟩
        · have h3 : (y == b) = false := by simpa using h2
          go_wp2
          go_round
          case rel => exact ⟨j + 1, by omega, by go_num, Lib.hid (by rw [HS.out]; rintro (h | h); exact HN.out h; injection h with _ h; exact h2 h.symm)⟩
          case measure => simp [intOf]; omega
      · have h3 : (x == a) = false := by simpa using h1
        go_wp2
        go_round
        case rel => exact ⟨j + 1, by omega, by go_num, Lib.hid (by rw [HS.out]; rintro (h | h); exact HN.out h; injection h with h _; exact h1 h.symm)⟩
        case measure => simp [intOf]; omega
    · obtain rfl : j = m := by omega
      have hno : (a, b) ∉ E := by
        have h := HN.out
        rwa [List.take_of_length_le (by rw [HM.out]; omega)] at h
      have HNO := Lib.hid (decide_eq_false hno)
      clear hno
      go_wp2
      go_ret
      exact ⟨by rw [HR.out, HNO.out]; rfl, below_alloc _⟩
set_option maxHeartbeats 1000000 in
theorem all_any (A B : Option Addr) (c d : Nat) (zs ys : List Int) (w : World) (len n : Nat) (hn : zs.length = len) (hl : len ≤ 1000) (hm : ys.length = n) (hk : n ≤ 1000) (hI : Ints w w.heap.size A zs) (hJ : Ints w w.heap.size B ys) :
    Calls Tryd.prog 42 #[.slice A len c, .slice B n d] w fun e w' => e = .returned (.bool (zs.all fun x => decide (x ∈ ys))) ∧ w = w' := by
  have HI := Lib.hid hI
  have HM := Lib.hid hn
  have C := Lib.hid (fun x => has_any B d ys x w n hm hk hJ)
  obtain ⟨r, hr⟩ : ∃ r, r = zs.all fun x => decide (x ∈ ys) := ⟨_, rfl⟩
  rw [← hr]
  have HR := Lib.hid hr
  clear hI hn hJ hm hr
  go_enter Tryd.func42, Tryd.ntmps42
  go_wp2
  go_loop [5] (fun i => ∃ j : Nat, j ≤ len ∧ i = .int .i64 j ∧ Hid (∀ x ∈ zs.take j, x ∈ ys)) (fun i => len - (intOf i).toNat)
  case atStart => exact ⟨0, Nat.zero_le _, rfl, Lib.hid (by simp)⟩
  case round =>
    obtain ⟨j, hj, rfl, HN⟩ := hrel
    by_cases hlt : j < len
    · obtain ⟨bk, o, z, rfl, hbg, hzj, hc1⟩ := HI.out.at_ (k := j) (by rw [HM.out]; exact hlt)
      have HZJ := Lib.hid hzj
      have C1 := Lib.hid (C.out z)
      clear hzj
      by_cases h1 : z ∈ ys
      · rw [decide_eq_true h1] at C1
        have H1 := Lib.hid h1
        clear h1
        go_wp2_with fail
        refine C1.out.mono ?_
        rintro e w' ⟨rfl, rfl⟩
        go_wp2
        go_round
        case rel => exact ⟨j + 1, by omega, by go_num, Lib.hid (by
          intro x hx
          rcases (mem_take_snoc HZJ.out).mp hx with h | rfl
          · exact HN.out x h
          · exact H1.out)⟩
        case measure => simp [intOf]; omega
      · rw [decide_eq_false h1] at C1
        have hno : (zs.all fun x => decide (x ∈ ys)) = false := by
          rw [List.all_eq_false]
          exact ⟨z, List.mem_of_getElem? HZJ.out, by simpa using h1⟩
        have HNO := Lib.hid hno
        clear h1 hno
        go_wp2_with fail
        refine C1.out.mono ?_
        rintro e w' ⟨rfl, rfl⟩
        go_wp2
        go_ret
        exact ⟨by rw [HR.out, HNO.out]; rfl, rfl⟩
    · obtain rfl : j = len := by omega
      have hall : (zs.all fun x => decide (x ∈ ys)) = true := by
        rw [List.all_eq_true]
        intro x hx
        rw [decide_eq_true_iff]
        refine HN.out x ?_
        rwa [List.take_of_length_le (by rw [HM.out]; omega)]
      have HALL := Lib.hid hall
      clear hall
      go_wp2
      go_ret
      exact ⟨by rw [HR.out, HALL.out]; rfl, rfl⟩
end Go.Proofs.YtmgfbpnphdkgiaaDoor
