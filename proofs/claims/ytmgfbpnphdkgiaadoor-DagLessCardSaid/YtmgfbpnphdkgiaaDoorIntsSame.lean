/- The contract of trefoilref02.Ints in the seat YtmgfbpnphdkgiaaDoor. No statement is proved here. -/
import Derived.Test.YtmgfbpnphdkgiaaDoorPairs
set_option linter.unusedVariables false
namespace Go.Proofs.YtmgfbpnphdkgiaaDoor
open Go.RowKit

theorem take_snoc' {α : Type} {l : List α} {j : Nat} {a : α} (h : l[j]? = some a) : l.take (j + 1) = l.take j ++ [a] := by
  rw [List.take_add_one, h]
  rfl
theorem take_ext {α : Type} {xs ys : List α} (h : xs.length = ys.length) (e : xs.take xs.length = ys.take xs.length) : xs = ys := by
  rw [List.take_length, h, List.take_length] at e
  exact e
theorem take_next {α : Type} {xs ys : List α} {j : Nat} {a : α} (e : xs.take j = ys.take j) (h1 : xs[j]? = some a) (h2 : ys[j]? = some a) : xs.take (j + 1) = ys.take (j + 1) := by
  rw [take_snoc' h1, take_snoc' h2, e]
theorem take_part {α : Type} {xs ys : List α} {j : Nat} {a b : α} (h1 : xs[j]? = some a) (h2 : ys[j]? = some b) (hne : a ≠ b) : xs ≠ ys := by
  rintro rfl
  rw [h1] at h2
  exact hne (Option.some.inj h2)

theorem drews (w : World) (N n : Nat) : (w.drewN N).drewN n = w.drewN (N + n) := by simp
set_option maxHeartbeats 800000 in
theorem ints_any (B : Nat) (A1 A2 : Option Addr) (c1 c2 : Nat) (xs ys : List Int) (w : World) (hx : xs.length ≤ 1000) (hy : ys.length ≤ 1000) (h1 : Ints w B A1 xs) (h2 : Ints w B A2 ys) :
    Calls Tryd.prog 24 #[.slice A1 xs.length c1, .slice A2 ys.length c2] w fun e w' => e = .returned (.bool (decide (xs = ys))) ∧ ∃ N, w' = w.drewN N := by
  obtain ⟨n, hn⟩ : ∃ n, n = xs.length := ⟨_, rfl⟩
  obtain ⟨m, hm⟩ : ∃ m, m = ys.length := ⟨_, rfl⟩
  rw [← hn, ← hm]
  rw [← hn] at hx
  rw [← hm] at hy
  have HN := Lib.hid hn
  have HM := Lib.hid hm
  have H1 := Lib.hid h1
  have H2 := Lib.hid h2
  clear hn hm h1 h2
  by_cases hnm : n = m
  · subst hnm
    go_enter Tryd.func24, Tryd.ntmps24
    go_wp2
    go_loopw [5] (fun i wr => ∃ j N : Nat, j ≤ n ∧ i = .int .i64 j ∧ Hid (xs.take j = ys.take j) ∧ wr = w.drewN N) (fun i _ => n - (intOf i).toNat)
    case atStart => exact ⟨0, 0, Nat.zero_le _, rfl, Lib.hid rfl, rfl⟩
    case round =>
      obtain ⟨j, N, hj, rfl, HT, rfl⟩ := hrel
      by_cases hlt : j < n
      · obtain ⟨b1, o1, x, rfl, _, hx1, hc1⟩ := H1.out.at_ (k := j) (by rw [← HN.out]; exact hlt)
        obtain ⟨b2, o2, y, rfl, _, hy1, hc2⟩ := H2.out.at_ (k := j) (by rw [← HM.out]; exact hlt)
        have HX := Lib.hid hx1
        have HY := Lib.hid hy1
        clear hx1 hy1
        by_cases hxy : x = y
        · subst hxy
          go_wp2
          go_quiet (fail)
          go_wp2
          go_roundw
          case rel => exact ⟨j + 1, _, by omega, by go_num, Lib.hid (take_next HT.out HX.out HY.out), rfl⟩
          case measure => simp [intOf]; omega
        · have hb : (x != y) = true := by simpa using hxy
          have HXY := Lib.hid hxy
          clear hxy
          go_wp2
          go_quiet (fail)
          go_wp2
          go_ret
          exact ⟨by rw [decide_eq_false (take_part HX.out HY.out HXY.out)]; rfl, _, drews w N _⟩
      · obtain rfl : j = n := by omega
        go_wp2
        go_ret
        exact ⟨by rw [decide_eq_true (take_ext (by rw [← HN.out, ← HM.out]) (by rw [← HN.out]; exact HT.out))]; rfl, _, rfl⟩
  · have hb : ((n : Int) != (m : Int)) = true := by simp; omega
    go_enter Tryd.func24, Tryd.ntmps24
    go_wp2
    go_ret
    exact ⟨by rw [decide_eq_false (fun e : xs = ys => hnm (by rw [HN.out, HM.out, e]))]; rfl, 0, rfl⟩
end Go.Proofs.YtmgfbpnphdkgiaaDoor
