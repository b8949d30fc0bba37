/- slices.Equal over integers and over edges, and dag.Same, in the seat YtmgfbpnphdkgiaaDoor: their contracts. No statement is proved here. -/
import Derived.Test.YtmgfbpnphdkgiaaDoorDagLaw
set_option linter.unusedVariables false
namespace Go.Proofs.YtmgfbpnphdkgiaaDoor
open Go.RowKit

set_option maxHeartbeats 800000 in
theorem eq_ints (B : Nat) (A1 A2 : Option Addr) (c1 c2 : Nat) (xs ys : List Int) (w : World) (hx : xs.length ≤ 1000) (hy : ys.length ≤ 1000) (h1 : Ints w B A1 xs) (h2 : Ints w B A2 ys) :
    Calls Tryd.prog 33 #[.slice A1 xs.length c1, .slice A2 ys.length c2] w fun e w' => e = .returned (.bool (decide (xs = ys))) ∧ ∃ N, w' = w.drewN N := by
  obtain ⟨n, hn⟩ : ∃ n, n = xs.length := ⟨_, rfl⟩
  obtain ⟨m, hm⟩ : ∃ m, m = ys.length := ⟨_, rfl⟩
  rw [← hn, ← hm]
  rw [← hn] at hx
  rw [← hm] at hy
  have HN := Lib.hid hn
  have HM := Lib.hid hm
  have H1 := Lib.hid h1
  have H2 := Lib.hid h2
  clear hn hm h1 h2
  by_cases hnm : n = m
  · subst hnm
    go_enter Tryd.func33, Tryd.ntmps33
    go_wp2
    go_loopw [13] (fun i wr => ∃ j N : Nat, j ≤ n ∧ i = .int .i64 j ∧ Hid (xs.take j = ys.take j) ∧ wr = w.drewN N) (fun i _ => n - (intOf i).toNat)
    case atStart => exact ⟨0, 0, Nat.zero_le _, rfl, Lib.hid rfl, rfl⟩
    case round =>
      obtain ⟨j, N, hj, rfl, HT, rfl⟩ := hrel
      by_cases hlt : j < n
      · obtain ⟨b1, o1, x, rfl, _, hx1, hc1⟩ := H1.out.at_ (k := j) (by rw [← HN.out]; exact hlt)
        obtain ⟨b2, o2, y, rfl, _, hy1, hc2⟩ := H2.out.at_ (k := j) (by rw [← HM.out]; exact hlt)
        have HX := Lib.hid hx1
        have HY := Lib.hid hy1
        clear hx1 hy1
        by_cases hxy : x = y
        · subst hxy
          go_wp2
          go_quiet (fail)
          go_wp2
          go_roundw
          case rel => exact ⟨j + 1, _, by omega, by go_num, Lib.hid (take_next HT.out HX.out HY.out), rfl⟩
          case measure => simp [intOf]; omega
        · have hb : (x != y) = true := by simpa using hxy
          have HXY := Lib.hid hxy
          clear hxy
          go_wp2
          go_quiet (fail)
          go_wp2
          go_ret
          exact ⟨by rw [decide_eq_false (take_part HX.out HY.out HXY.out)]; rfl, _, drews w N _⟩
      · obtain rfl : j = n := by omega
        go_wp2
        go_ret
        exact ⟨by rw [decide_eq_true (take_ext (by rw [← HN.out, ← HM.out]) (by rw [← HN.out]; exact HT.out))]; rfl, _, rfl⟩
  · have hb : ((n : Int) != (m : Int)) = true := by simp; omega
    go_enter Tryd.func33, Tryd.ntmps33
    go_wp2
    go_ret
    exact ⟨by rw [decide_eq_false (fun e : xs = ys => hnm (by rw [HN.out, HM.out, e]))]; rfl, 0, rfl⟩
set_option maxHeartbeats 800000 in
theorem eq_edges (B : Nat) (A1 A2 : Option Addr) (c1 c2 : Nat) (xs ys : List (Int × Int)) (w : World) (hx : xs.length ≤ 1000) (hy : ys.length ≤ 1000) (h1 : Pairs w B A1 xs) (h2 : Pairs w B A2 ys) :
    Calls Tryd.prog 34 #[.slice A1 xs.length c1, .slice A2 ys.length c2] w fun e w' => e = .returned (.bool (decide (xs = ys))) ∧ ∃ N, w' = w.drewN N := by
  obtain ⟨n, hn⟩ : ∃ n, n = xs.length := ⟨_, rfl⟩
  obtain ⟨m, hm⟩ : ∃ m, m = ys.length := ⟨_, rfl⟩
  rw [← hn, ← hm]
  rw [← hn] at hx
  rw [← hm] at hy
  have HN := Lib.hid hn
  have HM := Lib.hid hm
  have H1 := Lib.hid h1
  have H2 := Lib.hid h2
  clear hn hm h1 h2
  by_cases hnm : n = m
  · subst hnm
    go_enter Tryd.func34, Tryd.ntmps34
    go_wp2
    go_loopw [13] (fun i wr => ∃ j N : Nat, j ≤ n ∧ i = .int .i64 j ∧ Hid (xs.take j = ys.take j) ∧ wr = w.drewN N) (fun i _ => n - (intOf i).toNat)
    case atStart => exact ⟨0, 0, Nat.zero_le _, rfl, Lib.hid rfl, rfl⟩
    case round =>
      obtain ⟨j, N, hj, rfl, HT, rfl⟩ := hrel
      by_cases hlt : j < n
      · obtain ⟨b1, o1, ⟨x1, x2⟩, rfl, _, hx1, hc1, hc2⟩ := H1.out.at_ (k := j) (by rw [← HN.out]; exact hlt)
        obtain ⟨b2, o2, ⟨y1, y2⟩, rfl, _, hy1, hd1, hd2⟩ := H2.out.at_ (k := j) (by rw [← HM.out]; exact hlt)
        simp only at hc1 hc2 hd1 hd2
        have hrun := fun W => edge_neq_run x1 x2 y1 y2 W
        have HX := Lib.hid hx1
        have HY := Lib.hid hy1
        clear hx1 hy1
        by_cases hxy : (x1, x2) = (y1, y2)
        · injection hxy with h1 h2
          subst h1 h2
          have hb : (x1 == x1 && x2 == x2) = true := by simp
          simp only [hb] at hrun
          go_wp2
          go_quiet (fail)
          go_wp2
          go_roundw
          case rel => exact ⟨j + 1, _, by omega, by go_num, Lib.hid (take_next HT.out HX.out HY.out), rfl⟩
          case measure => simp [intOf]; omega
        · have hb : (x1 == y1 && x2 == y2) = false := by
            rw [Bool.and_eq_false_iff]
            by_cases h1 : x1 = y1
            · exact .inr (by simpa using fun h2 => hxy (by rw [h1, h2]))
            · exact .inl (by simpa using h1)
          simp only [hb] at hrun
          have HXY := Lib.hid hxy
          clear hxy
          go_wp2
          go_quiet (fail)
          go_wp2
          go_ret
          exact ⟨by rw [decide_eq_false (take_part HX.out HY.out HXY.out)]; rfl, _, drews w N _⟩
      · obtain rfl : j = n := by omega
        go_wp2
        go_ret
        exact ⟨by rw [decide_eq_true (take_ext (by rw [← HN.out, ← HM.out]) (by rw [← HN.out]; exact HT.out))]; rfl, _, rfl⟩
  · have hb : ((n : Int) != (m : Int)) = true := by simp; omega
    go_enter Tryd.func34, Tryd.ntmps34
    go_wp2
    go_ret
    exact ⟨by rw [decide_eq_false (fun e : xs = ys => hnm (by rw [HN.out, HM.out, e]))]; rfl, 0, rfl⟩

section
variable {A : Option Addr} {n c : Nat} {F : Option Addr} {m d : Nat} {W : List Int} {E : List (Int × Int)} {A' : Option Addr} {n' c' : Nat} {F' : Option Addr} {m' d' : Nat} {W' : List Int} {E' : List (Int × Int)}
set_option maxHeartbeats 2000000 in
theorem same_done (w : World) (h : IsG w A n c F m d W E) (h' : IsG w A' n' c' F' m' d' W' E') :
    Calls Tryd.prog 15 #[.agg #[.slice A n c, .slice F m d], .agg #[.slice A' n' c', .slice F' m' d']] w fun e w' => e = .returned (.bool (decide (W = W' ∧ E = E'))) ∧ Below w.heap.size w w' := by
  obtain ⟨w0, hw0⟩ : ∃ w0, w0 = (w.alloc (.cells #[.slice A n c, .slice F m d] 25)).alloc (.cells #[.slice A' n' c', .slice F' m' d'] 25) := ⟨_, rfl⟩
  have hs : w.heap.size ≤ (w.alloc (.cells #[.slice A n c, .slice F m d] 25)).heap.size := by simp
  have C1 := eq_ints w.heap.size A A' c c' W W' w0 (by rw [h.hn]; have := h.ln; omega) (by rw [h'.hn]; have := h'.ln; omega) (by rw [hw0]; exact (h.ints.alloc (Nat.le_refl _) _).alloc hs _) (by rw [hw0]; exact (h'.ints.alloc (Nat.le_refl _) _).alloc hs _)
  have C2 := Lib.hid (fun N => eq_edges w.heap.size F F' d d' E E' (w0.drewN N) (by rw [h.hm]; have := h.lm; omega) (by rw [h'.hm]; have := h'.lm; omega)
    (by rw [hw0]; exact ((h.pairs.alloc (Nat.le_refl _) _).alloc hs _).below (below_drewN (Below.refl _ _) N)) (by rw [hw0]; exact ((h'.pairs.alloc (Nat.le_refl _) _).alloc hs _).below (below_drewN (Below.refl _ _) N)))
  rw [h.hn, h'.hn] at C1
  simp only [h.hm, h'.hm] at C2
  rw [hw0] at C1 C2
  have HB := Lib.hid (fun N => below_drewN (below_alloc2 (w := w) (.cells #[.slice A n c, .slice F m d] 25) (.cells #[.slice A' n' c', .slice F' m' d'] 25)) N)
  have HC1 := Lib.hid C1
  clear h h' hw0 C1 hs
  by_cases h1 : W = W'
  · rw [decide_eq_true h1] at HC1
    have hr : decide (W = W' ∧ E = E') = decide (E = E') := by simp [h1]
    rw [hr]
    obtain ⟨r, hr⟩ : ∃ r, r = decide (E = E') := ⟨_, rfl⟩
    simp only [← hr] at C2 ⊢
    clear h1 hr
    go_enter Tryd.func15, Tryd.ntmps15
    go_wp2_with (first
      | (go_at_call 33; refine HC1.out.mono ?_; rintro e w' ⟨rfl, N, rfl⟩)
      | (go_at_call 34; refine (C2.out _).mono ?_; rintro e w' ⟨rfl, M, rfl⟩))
    go_ret
    exact ⟨rfl, HB.out _⟩
  · rw [decide_eq_false h1] at HC1
    rw [decide_eq_false (fun q : W = W' ∧ E = E' => h1 q.1)]
    clear h1
    go_enter Tryd.func15, Tryd.ntmps15
    go_wp2_with (go_at_call 33; refine HC1.out.mono ?_; rintro e w' ⟨rfl, N, rfl⟩)
    go_ret
    exact ⟨rfl, HB.out N⟩
end
end Go.Proofs.YtmgfbpnphdkgiaaDoor
