/- slices.IndexFunc and ContainsFunc at shapes, edf.sum and edf.greatest, in the seat YtohgdeddepfanaaDoor: their contracts, over what is told of each. No statement is proved here. -/
import Derived.Test.YtohgdeddepfanaaDoorEdfMem
import Derived.Test.YtohgdeddepfanaaDoorEnters
import Derived.Shelf.Abstract
set_option linter.unusedVariables false
set_option linter.unusedSimpArgs false
namespace Go.Proofs.YtohgdeddepfanaaDoor
open Go Go.RowKit

set_option maxHeartbeats 2000000 in
theorem idx_shape (A : Option Addr) (c n : Nat) (es : List Shp) (g : Nat) (lb : Array Value) (eg : ∀ args w, (callFunc g args).run Tryd.prog w = .ok (.enter g args) w) (p : Shp → Bool) (w : World) (hn : es.length = n) (hl : n ≤ 1000) (hT : Shps w w.heap.size A es)
    (hp : ∀ s W, s ∈ es → Below w.heap.size w W → Calls Tryd.prog g (#[s.val] ++ lb) W fun e w' => e = .returned (.bool (p s)) ∧ Below W.heap.size W w') :
    Calls Tryd.prog 39 #[.slice A n c, .func (.func g) #[] lb] w fun e w' => ∃ r, e = .returned (.int .i64 r) ∧ Below w.heap.size w w' ∧ (0 ≤ r ↔ ∃ s ∈ es, p s = true) := by
  have HT := Lib.hid hT
  have HP := Lib.hid hp
  have HN := Lib.hid hn
  clear hT hp hn
  go_enter Tryd.func39, Tryd.ntmps39
  go_wp2
  go_loopw [8] (fun v wr => ∃ k : Nat, k ≤ n ∧ v = .int .i64 k ∧ Hid (Below w.heap.size w wr) ∧ Hid (∀ s ∈ es.take k, p s = false)) (fun v _ => n - (intOf v).toNat)
  case atStart => exact ⟨0, Nat.zero_le _, rfl, Lib.hid (Below.refl _ _), Lib.hid (fun s hs => by simp at hs)⟩
  case round =>
    obtain ⟨k, hk, rfl, HI, HF⟩ := hrel
    by_cases hlt : k < n
    · obtain ⟨bk, off, t, l, m, d, pp, rfl, hbg, hek, d1, d2, d3, d4, d5⟩ := (HT.out.below HI.out).at_ (k := k) (by rw [HN.out]; exact hlt)
      have HEK := Lib.hid hek
      have hcall := HP.out ⟨t, l, m, d, pp⟩ wr (List.mem_of_getElem? hek) HI.out
      unfold Shp.val at hcall
      dsimp only at hcall
      clear hek
      cases hq : p ⟨t, l, m, d, pp⟩ with
      | true =>
        have HQ := Lib.hid hq
        rw [hq] at hcall
        clear hq
        go_wp2_with (go_at_fn g; refine hcall.mono ?_; rintro e w' ⟨rfl, hb'⟩)
        go_ret
        exact ⟨_, rfl, HI.out.trans (hb'.mono HI.out.size), ⟨fun _ => ⟨_, List.mem_of_getElem? HEK.out, HQ.out⟩, fun _ => by omega⟩⟩
      | false =>
        have HQ := Lib.hid hq
        rw [hq] at hcall
        clear hq
        go_wp2_with (go_at_fn g; refine hcall.mono ?_; rintro e w' ⟨rfl, hb'⟩; have HB := Lib.hid (HI.out.trans (hb'.mono HI.out.size)); clear hb')
        go_roundw
        case rel => exact ⟨k + 1, by omega, by go_num, HB, Lib.hid (fun s hs => by
          rw [List.take_add_one, HEK.out] at hs
          rcases List.mem_append.mp hs with h | h
          · exact HF.out s h
          · obtain rfl : s = ⟨t, l, m, d, pp⟩ := by simpa using h
            exact HQ.out)⟩
        case measure => simp [intOf]; omega
    · have e : k = n := by omega
      subst e
      go_wp2
      go_ret
      refine ⟨_, rfl, HI.out, ⟨fun h => absurd h (by decide), fun ⟨s, hs, hps⟩ => ?_⟩⟩
      rw [HF.out s (by rw [List.take_of_length_le (by rw [HN.out]; exact Nat.le_refl _)]; exact hs)] at hps
      cases hps
set_option maxHeartbeats 2000000 in
theorem has_shape (A : Option Addr) (c n : Nat) (es : List Shp) (g : Nat) (lb : Array Value) (eg : ∀ args w, (callFunc g args).run Tryd.prog w = .ok (.enter g args) w) (p : Shp → Bool) (w : World) (hn : es.length = n) (hl : n ≤ 1000) (hT : Shps w w.heap.size A es)
    (hp : ∀ s W, s ∈ es → Below w.heap.size w W → Calls Tryd.prog g (#[s.val] ++ lb) W fun e w' => e = .returned (.bool (p s)) ∧ Below W.heap.size W w')
    (r : Bool) (hr : r = true ↔ ∃ s ∈ es, p s = true) :
    Calls Tryd.prog 28 #[.slice A n c, .func (.func g) #[] lb] w fun e w' => e = .returned (.bool r) ∧ Below w.heap.size w w' := by
  have C := idx_shape A c n es g lb eg p w hn hl hT hp
  have HR := Lib.hid hr
  clear hT hp hn hr
  go_enter Tryd.func28, Tryd.ntmps28
  go_wp2_with fail
  refine C.mono ?_
  rintro e w1 ⟨v, rfl, hI, hv⟩
  have HI := Lib.hid hI
  have HV := Lib.hid hv
  clear hI hv
  cases r with
  | true =>
    have hg : 0 ≤ v := HV.out.mpr (HR.out.mp rfl)
    go_wp2
    go_ret
    exact ⟨rfl, HI.out⟩
  | false =>
    have hg : decide (0 ≤ v) = false := by
      rw [decide_eq_false_iff_not]
      exact fun h => absurd (HR.out.mpr (HV.out.mp h)) (by simp)
    go_wp2
    go_ret
    exact ⟨rfl, HI.out⟩
set_option maxHeartbeats 4000000 in
theorem esum_any (A : Option Addr) (c n : Nat) (es : List Shp) (g : Nat) (lb : Array Value) (eg : ∀ args w, (callFunc g args).run Tryd.prog w = .ok (.enter g args) w) (f : Shp → Int) (w : World) (hn : es.length = n) (hl : n ≤ 1000) (hT : Shps w w.heap.size A es)
    (hp : ∀ s W, s ∈ es → Below w.heap.size w W → Calls Tryd.prog g (#[s.val] ++ lb) W fun e w' => e = .returned (.int .i64 (f s)) ∧ Below W.heap.size W w')
    (hb : ∀ k, -4611686018427387904 ≤ sumE f (es.take k) ∧ sumE f (es.take k) ≤ 4611686018427387904) :
    Calls Tryd.prog 31 #[.slice A n c, .func (.func g) #[] lb] w fun e w' => e = .returned (.int .i64 (sumE f es)) ∧ Below w.heap.size w w' := by
  have HT := Lib.hid hT
  have HP := Lib.hid hp
  have HN := Lib.hid hn
  have HS := Lib.hid hb
  have HE := Lib.hid (show sumE f es = sumE f (es.take n) by rw [List.take_of_length_le (by omega)])
  clear hT hp hn hb
  go_enter Tryd.func31, Tryd.ntmps31
  go_wp2
  go_loopw [5, 10] (fun v i wr => ∃ (k : Nat) (x : Int), k ≤ n ∧ i = .int .i64 k ∧ v = .int .i64 x ∧ Hid (x = sumE f (es.take k)) ∧ Hid (Below w.heap.size w wr)) (fun _ i _ => n - (intOf i).toNat)
  case atStart => exact ⟨0, 0, Nat.zero_le _, rfl, rfl, Lib.hid rfl, Lib.hid (Below.refl _ _)⟩
  case round =>
    obtain ⟨k, x, hk, rfl, rfl, HX, HI⟩ := hrel
    by_cases hlt : k < n
    · obtain ⟨bk, off, t, l, m, d, pp, rfl, hbg, hek, d1, d2, d3, d4, d5⟩ := (HT.out.below HI.out).at_ (k := k) (by rw [HN.out]; exact hlt)
      have HX2 := Lib.hid (show sumE f (es.take (k + 1)) = x + f ⟨t, l, m, d, pp⟩ by rw [HX.out]; exact sumE_snoc hek)
      have hx1 := HS.out k
      rw [← HX.out] at hx1
      have hx2 := HS.out (k + 1)
      rw [HX2.out] at hx2
      have HC := Lib.hid (fun W (b : Below w.heap.size w W) => HP.out ⟨t, l, m, d, pp⟩ W (List.mem_of_getElem? hek) b)
      unfold Shp.val at HC
      dsimp only at HC
      obtain ⟨y, hy⟩ : ∃ y, y = f ⟨t, l, m, d, pp⟩ := ⟨_, rfl⟩
      rw [← hy] at HC HX2 hx2
      have HX3 := Lib.hid HX2.out.symm
      have hb1 := Lib.hid (HI.out.trans ((below_alloc (w := wr) (.cells #[.int .i64 t, .int .i64 l, .int .i64 m, .int .i64 d, .int .i64 pp] 34)).mono HI.out.size))
      clear hek hy HX2
      go_wp2_with (go_at_fn g; refine (HC.out _ hb1.out).mono ?_; rintro e w' ⟨rfl, hb'⟩; have HB := Lib.hid (hb1.out.trans (hb'.mono hb1.out.size)); clear hb')
      go_roundw
      case rel => exact ⟨k + 1, x + y, by omega, by go_num, rfl, HX3, HB⟩
      case measure => simp [intOf]; omega
    · have e : k = n := by omega
      subst e
      go_wp2
      go_ret
      exact ⟨by rw [HE.out, ← HX.out]; rfl, HI.out⟩
set_option maxHeartbeats 4000000 in
theorem egreat_any (A : Option Addr) (c n : Nat) (es : List Shp) (g : Nat) (lb : Array Value) (eg : ∀ args w, (callFunc g args).run Tryd.prog w = .ok (.enter g args) w) (f : Shp → Int) (w : World) (hn : es.length = n) (hl : n ≤ 1000) (hT : Shps w w.heap.size A es)
    (hp : ∀ s W, s ∈ es → Below w.heap.size w W → Calls Tryd.prog g (#[s.val] ++ lb) W fun e w' => e = .returned (.int .i64 (f s)) ∧ Below W.heap.size W w') :
    Calls Tryd.prog 29 #[.slice A n c, .func (.func g) #[] lb] w fun e w' => e = .returned (.int .i64 (maxE f es)) ∧ Below w.heap.size w w' := by
  have HT := Lib.hid hT
  have HP := Lib.hid hp
  have HN := Lib.hid hn
  have HE := Lib.hid (show maxE f es = maxE f (es.take n) by rw [List.take_of_length_le (by omega)])
  clear hT hp hn
  go_enter Tryd.func29, Tryd.ntmps29
  go_wp2
  go_loopw [5, 10] (fun v i wr => ∃ (k : Nat) (x : Int), k ≤ n ∧ i = .int .i64 k ∧ v = .int .i64 x ∧ Hid (x = maxE f (es.take k)) ∧ Hid (Below w.heap.size w wr)) (fun _ i _ => n - (intOf i).toNat)
  case atStart => exact ⟨0, 0, Nat.zero_le _, rfl, rfl, Lib.hid rfl, Lib.hid (Below.refl _ _)⟩
  case round =>
    obtain ⟨k, x, hk, rfl, rfl, HX, HI⟩ := hrel
    by_cases hlt : k < n
    · obtain ⟨bk, off, t, l, m, d, pp, rfl, hbg, hek, d1, d2, d3, d4, d5⟩ := (HT.out.below HI.out).at_ (k := k) (by rw [HN.out]; exact hlt)
      have HX2 := Lib.hid (show maxE f (es.take (k + 1)) = max x (f ⟨t, l, m, d, pp⟩) by rw [HX.out]; exact maxE_snoc hek)
      have HC := Lib.hid (fun W (b : Below w.heap.size w W) => HP.out ⟨t, l, m, d, pp⟩ W (List.mem_of_getElem? hek) b)
      unfold Shp.val at HC
      dsimp only at HC
      obtain ⟨y, hy⟩ : ∃ y, y = f ⟨t, l, m, d, pp⟩ := ⟨_, rfl⟩
      rw [← hy] at HC HX2
      have hb1 := Lib.hid (HI.out.trans ((below_alloc (w := wr) (.cells #[.int .i64 t, .int .i64 l, .int .i64 m, .int .i64 d, .int .i64 pp] 34)).mono HI.out.size))
      clear hek hy
      by_cases hxy : x < y
      · have HX3 := Lib.hid (show y = maxE f (es.take (k + 1)) by rw [HX2.out]; omega)
        clear HX2
        go_wp2_with (go_at_fn g; refine (HC.out _ hb1.out).mono ?_; rintro e w' ⟨rfl, hb'⟩; have HB := Lib.hid (hb1.out.trans (hb'.mono hb1.out.size)); clear hb')
        go_roundw
        case rel => exact ⟨k + 1, y, by omega, by go_num, by first | rfl | (simp; omega), HX3, HB⟩
        case measure => simp [intOf]; omega
      · have HX3 := Lib.hid (show x = maxE f (es.take (k + 1)) by rw [HX2.out]; omega)
        clear HX2
        go_wp2_with (go_at_fn g; refine (HC.out _ hb1.out).mono ?_; rintro e w' ⟨rfl, hb'⟩; have HB := Lib.hid (hb1.out.trans (hb'.mono hb1.out.size)); clear hb')
        go_roundw
        case rel => exact ⟨k + 1, x, by omega, by go_num, by first | rfl | (simp; omega), HX3, HB⟩
        case measure => simp [intOf]; omega
    · have e : k = n := by omega
      subst e
      go_wp2
      go_ret
      exact ⟨by rw [HE.out, ← HX.out]; rfl, HI.out⟩
end Go.Proofs.YtohgdeddepfanaaDoor
