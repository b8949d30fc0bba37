/- slices.IndexFunc and ContainsFunc at parts, edges, futures, barriers and integers, in the seat YtkmajhbfmdoamaaGreatDoor: their contracts, over a closure that keeps an invariant (printed by desc/mk_idx.py). No statement is proved here. -/
import Derived.Test.YtkmajhbfmdoamaaGreatDoorZM1
import Derived.Lib.Hide
import Derived.Shelf.Abstract
set_option linter.unusedSimpArgs false
set_option linter.unusedVariables false
namespace Go.Proofs.YtkmajhbfmdoamaaGreatDoor
open Go.RowKit

set_option maxHeartbeats 2000000 in
theorem idx_part (A : Option Addr) (c n : Nat) (es : List (Int × Int × Int)) (g : Nat) (lb : Array Value) (eg : ∀ args w, (callFunc g args).run Tryz.prog w = .ok (.enter g args) w) (p : Nat → Bool) (I : Nat → World → Prop) (B : Nat) (hn : es.length = n) (hl : n ≤ 1000)
    (hT : ∀ k W, I k W → Trips W B A es)
    (hp : ∀ k x y z W, es[k]? = some (x, y, z) → I k W → Calls Tryz.prog g (#[.agg #[.int .i64 x, .int .i64 y, .int .i64 z]] ++ lb) W fun e w' => e = .returned (.bool (p k)) ∧ I (k + 1) w')
    (w : World) (h0 : I 0 w) :
    Calls Tryz.prog 117 #[.slice A n c, .func (.func g) #[] lb] w fun e w' => ∃ r k, e = .returned (.int .i64 r) ∧ I k w' ∧ (0 ≤ r ↔ ∃ j, j < n ∧ p j = true) := by
  have HT := Lib.hid hT
  have HP := Lib.hid hp
  have HN := Lib.hid hn
  have H0 := Lib.hid h0
  clear hT hp hn h0
  go_enter Tryz.func117, Tryz.ntmps117
  go_wp2
  go_loopw [8] (fun v wr => ∃ k : Nat, k ≤ n ∧ v = .int .i64 k ∧ Hid (I k wr) ∧ Hid (∀ j, j < k → p j = false)) (fun v _ => n - (intOf v).toNat)
  case atStart => exact ⟨0, Nat.zero_le _, rfl, H0, Lib.hid (fun j hj => absurd hj (Nat.not_lt_zero _))⟩
  case round =>
    obtain ⟨k, hk, rfl, HI, HF⟩ := hrel
    clear H0
    by_cases hlt : k < n
    · obtain ⟨bk, off, x, y, z, rfl, hbg, hek, d1, d2, d3⟩ := (HT.out k wr HI.out).at_ (k := k) (by rw [HN.out]; exact hlt)
      have HEK := Lib.hid hek
      have hcall := HP.out k x y z wr hek  HI.out
      clear hek 
      skip
      cases hq : p k with
      | true =>
        have HQ := Lib.hid hq
        rw [hq] at hcall
        clear hq
        go_wp2_with (go_at_fn g; refine hcall.mono ?_; rintro e w' ⟨rfl, hb'⟩)
        go_ret
        exact ⟨_, k + 1, rfl, hb', ⟨fun _ => ⟨k, hlt, HQ.out⟩, fun _ => by omega⟩⟩
      | false =>
        have HQ := Lib.hid hq
        rw [hq] at hcall
        clear hq
        go_wp2_with (go_at_fn g; refine hcall.mono ?_; rintro e w' ⟨rfl, hb'⟩; have HB := Lib.hid hb'; clear hb')
        go_roundw
        case rel => exact ⟨k + 1, by omega, by go_num, HB, Lib.hid (fun j hj => by
          by_cases e : j = k
          · rw [e]; exact HQ.out
          · exact HF.out j (by omega))⟩
        case measure => simp [intOf]; omega
    · have e : k = n := by omega
      subst e
      go_wp2
      go_ret
      exact ⟨_, k, rfl, HI.out, ⟨fun h => absurd h (by decide), fun ⟨j, hj, hpj⟩ => by rw [HF.out j hj] at hpj; cases hpj⟩⟩
set_option maxHeartbeats 2000000 in
theorem has_part (A : Option Addr) (c n : Nat) (es : List (Int × Int × Int)) (g : Nat) (lb : Array Value) (eg : ∀ args w, (callFunc g args).run Tryz.prog w = .ok (.enter g args) w) (p : Nat → Bool) (I : Nat → World → Prop) (B : Nat) (hn : es.length = n) (hl : n ≤ 1000)
    (hT : ∀ k W, I k W → Trips W B A es)
    (hp : ∀ k x y z W, es[k]? = some (x, y, z) → I k W → Calls Tryz.prog g (#[.agg #[.int .i64 x, .int .i64 y, .int .i64 z]] ++ lb) W fun e w' => e = .returned (.bool (p k)) ∧ I (k + 1) w')
    (r : Bool) (hr : r = true ↔ ∃ j, j < n ∧ p j = true) (w : World) (h0 : I 0 w) :
    Calls Tryz.prog 94 #[.slice A n c, .func (.func g) #[] lb] w fun e w' => e = .returned (.bool r) ∧ ∃ k, I k w' := by
  have C := idx_part A c n es g lb eg p I B hn hl hT hp w h0
  have HR := Lib.hid hr
  clear hT hp hn h0 hr
  go_enter Tryz.func94, Tryz.ntmps94
  go_wp2_with fail
  refine C.mono ?_
  rintro e w1 ⟨v, k, rfl, hI, hv⟩
  have HI := Lib.hid hI
  have HV := Lib.hid hv
  clear hI hv
  cases r with
  | true =>
    have hg : 0 ≤ v := HV.out.mpr (HR.out.mp rfl)
    go_wp2
    go_ret
    exact ⟨rfl, k, HI.out⟩
  | false =>
    have hg : decide (0 ≤ v) = false := by
      rw [decide_eq_false_iff_not]
      exact fun h => absurd (HR.out.mpr (HV.out.mp h)) (by simp)
    go_wp2
    go_ret
    exact ⟨rfl, k, HI.out⟩

set_option maxHeartbeats 2000000 in
theorem idx_future (A : Option Addr) (c n : Nat) (es : List (Int × Int × Int)) (g : Nat) (lb : Array Value) (eg : ∀ args w, (callFunc g args).run Tryz.prog w = .ok (.enter g args) w) (p : Nat → Bool) (I : Nat → World → Prop) (B : Nat) (hn : es.length = n) (hl : n ≤ 1000)
    (hT : ∀ k W, I k W → Trips W B A es)
    (hp : ∀ k x y z W, es[k]? = some (x, y, z) → I k W → Calls Tryz.prog g (#[.agg #[.int .i64 x, .int .i64 y, .int .i64 z]] ++ lb) W fun e w' => e = .returned (.bool (p k)) ∧ I (k + 1) w')
    (w : World) (h0 : I 0 w) :
    Calls Tryz.prog 120 #[.slice A n c, .func (.func g) #[] lb] w fun e w' => ∃ r k, e = .returned (.int .i64 r) ∧ I k w' ∧ (0 ≤ r ↔ ∃ j, j < n ∧ p j = true) := by
  have HT := Lib.hid hT
  have HP := Lib.hid hp
  have HN := Lib.hid hn
  have H0 := Lib.hid h0
  clear hT hp hn h0
  go_enter Tryz.func120, Tryz.ntmps120
  go_wp2
  go_loopw [8] (fun v wr => ∃ k : Nat, k ≤ n ∧ v = .int .i64 k ∧ Hid (I k wr) ∧ Hid (∀ j, j < k → p j = false)) (fun v _ => n - (intOf v).toNat)
  case atStart => exact ⟨0, Nat.zero_le _, rfl, H0, Lib.hid (fun j hj => absurd hj (Nat.not_lt_zero _))⟩
  case round =>
    obtain ⟨k, hk, rfl, HI, HF⟩ := hrel
    clear H0
    by_cases hlt : k < n
    · obtain ⟨bk, off, x, y, z, rfl, hbg, hek, d1, d2, d3⟩ := (HT.out k wr HI.out).at_ (k := k) (by rw [HN.out]; exact hlt)
      have HEK := Lib.hid hek
      have hcall := HP.out k x y z wr hek  HI.out
      clear hek 
      skip
      cases hq : p k with
      | true =>
        have HQ := Lib.hid hq
        rw [hq] at hcall
        clear hq
        go_wp2_with (go_at_fn g; refine hcall.mono ?_; rintro e w' ⟨rfl, hb'⟩)
        go_ret
        exact ⟨_, k + 1, rfl, hb', ⟨fun _ => ⟨k, hlt, HQ.out⟩, fun _ => by omega⟩⟩
      | false =>
        have HQ := Lib.hid hq
        rw [hq] at hcall
        clear hq
        go_wp2_with (go_at_fn g; refine hcall.mono ?_; rintro e w' ⟨rfl, hb'⟩; have HB := Lib.hid hb'; clear hb')
        go_roundw
        case rel => exact ⟨k + 1, by omega, by go_num, HB, Lib.hid (fun j hj => by
          by_cases e : j = k
          · rw [e]; exact HQ.out
          · exact HF.out j (by omega))⟩
        case measure => simp [intOf]; omega
    · have e : k = n := by omega
      subst e
      go_wp2
      go_ret
      exact ⟨_, k, rfl, HI.out, ⟨fun h => absurd h (by decide), fun ⟨j, hj, hpj⟩ => by rw [HF.out j hj] at hpj; cases hpj⟩⟩
set_option maxHeartbeats 2000000 in
theorem has_future (A : Option Addr) (c n : Nat) (es : List (Int × Int × Int)) (g : Nat) (lb : Array Value) (eg : ∀ args w, (callFunc g args).run Tryz.prog w = .ok (.enter g args) w) (p : Nat → Bool) (I : Nat → World → Prop) (B : Nat) (hn : es.length = n) (hl : n ≤ 1000)
    (hT : ∀ k W, I k W → Trips W B A es)
    (hp : ∀ k x y z W, es[k]? = some (x, y, z) → I k W → Calls Tryz.prog g (#[.agg #[.int .i64 x, .int .i64 y, .int .i64 z]] ++ lb) W fun e w' => e = .returned (.bool (p k)) ∧ I (k + 1) w')
    (r : Bool) (hr : r = true ↔ ∃ j, j < n ∧ p j = true) (w : World) (h0 : I 0 w) :
    Calls Tryz.prog 100 #[.slice A n c, .func (.func g) #[] lb] w fun e w' => e = .returned (.bool r) ∧ ∃ k, I k w' := by
  have C := idx_future A c n es g lb eg p I B hn hl hT hp w h0
  have HR := Lib.hid hr
  clear hT hp hn h0 hr
  go_enter Tryz.func100, Tryz.ntmps100
  go_wp2_with fail
  refine C.mono ?_
  rintro e w1 ⟨v, k, rfl, hI, hv⟩
  have HI := Lib.hid hI
  have HV := Lib.hid hv
  clear hI hv
  cases r with
  | true =>
    have hg : 0 ≤ v := HV.out.mpr (HR.out.mp rfl)
    go_wp2
    go_ret
    exact ⟨rfl, k, HI.out⟩
  | false =>
    have hg : decide (0 ≤ v) = false := by
      rw [decide_eq_false_iff_not]
      exact fun h => absurd (HR.out.mpr (HV.out.mp h)) (by simp)
    go_wp2
    go_ret
    exact ⟨rfl, k, HI.out⟩

set_option maxHeartbeats 2000000 in
theorem idx_edge (A : Option Addr) (c n : Nat) (es : List (Int × Int)) (g : Nat) (lb : Array Value) (eg : ∀ args w, (callFunc g args).run Tryz.prog w = .ok (.enter g args) w) (p : Nat → Bool) (I : Nat → World → Prop) (B : Nat) (hn : es.length = n) (hl : n ≤ 1000)
    (hT : ∀ k W, I k W → Pairs W B A es)
    (hp : ∀ k x y W, es[k]? = some (x, y) → I k W → Calls Tryz.prog g (#[.agg #[.int .i64 x, .int .i64 y]] ++ lb) W fun e w' => e = .returned (.bool (p k)) ∧ I (k + 1) w')
    (w : World) (h0 : I 0 w) :
    Calls Tryz.prog 119 #[.slice A n c, .func (.func g) #[] lb] w fun e w' => ∃ r k, e = .returned (.int .i64 r) ∧ I k w' ∧ (0 ≤ r ↔ ∃ j, j < n ∧ p j = true) := by
  have HT := Lib.hid hT
  have HP := Lib.hid hp
  have HN := Lib.hid hn
  have H0 := Lib.hid h0
  clear hT hp hn h0
  go_enter Tryz.func119, Tryz.ntmps119
  go_wp2
  go_loopw [8] (fun v wr => ∃ k : Nat, k ≤ n ∧ v = .int .i64 k ∧ Hid (I k wr) ∧ Hid (∀ j, j < k → p j = false)) (fun v _ => n - (intOf v).toNat)
  case atStart => exact ⟨0, Nat.zero_le _, rfl, H0, Lib.hid (fun j hj => absurd hj (Nat.not_lt_zero _))⟩
  case round =>
    obtain ⟨k, hk, rfl, HI, HF⟩ := hrel
    clear H0
    by_cases hlt : k < n
    · obtain ⟨bk, off, ⟨x, y⟩, rfl, hbg, hek, d1, d2⟩ := (HT.out k wr HI.out).at_ (k := k) (by rw [HN.out]; exact hlt)
      have HEK := Lib.hid hek
      have hcall := HP.out k x y wr hek  HI.out
      clear hek 
      simp only at d1 d2
      cases hq : p k with
      | true =>
        have HQ := Lib.hid hq
        rw [hq] at hcall
        clear hq
        go_wp2_with (go_at_fn g; refine hcall.mono ?_; rintro e w' ⟨rfl, hb'⟩)
        go_ret
        exact ⟨_, k + 1, rfl, hb', ⟨fun _ => ⟨k, hlt, HQ.out⟩, fun _ => by omega⟩⟩
      | false =>
        have HQ := Lib.hid hq
        rw [hq] at hcall
        clear hq
        go_wp2_with (go_at_fn g; refine hcall.mono ?_; rintro e w' ⟨rfl, hb'⟩; have HB := Lib.hid hb'; clear hb')
        go_roundw
        case rel => exact ⟨k + 1, by omega, by go_num, HB, Lib.hid (fun j hj => by
          by_cases e : j = k
          · rw [e]; exact HQ.out
          · exact HF.out j (by omega))⟩
        case measure => simp [intOf]; omega
    · have e : k = n := by omega
      subst e
      go_wp2
      go_ret
      exact ⟨_, k, rfl, HI.out, ⟨fun h => absurd h (by decide), fun ⟨j, hj, hpj⟩ => by rw [HF.out j hj] at hpj; cases hpj⟩⟩
set_option maxHeartbeats 2000000 in
theorem has_edge (A : Option Addr) (c n : Nat) (es : List (Int × Int)) (g : Nat) (lb : Array Value) (eg : ∀ args w, (callFunc g args).run Tryz.prog w = .ok (.enter g args) w) (p : Nat → Bool) (I : Nat → World → Prop) (B : Nat) (hn : es.length = n) (hl : n ≤ 1000)
    (hT : ∀ k W, I k W → Pairs W B A es)
    (hp : ∀ k x y W, es[k]? = some (x, y) → I k W → Calls Tryz.prog g (#[.agg #[.int .i64 x, .int .i64 y]] ++ lb) W fun e w' => e = .returned (.bool (p k)) ∧ I (k + 1) w')
    (r : Bool) (hr : r = true ↔ ∃ j, j < n ∧ p j = true) (w : World) (h0 : I 0 w) :
    Calls Tryz.prog 98 #[.slice A n c, .func (.func g) #[] lb] w fun e w' => e = .returned (.bool r) ∧ ∃ k, I k w' := by
  have C := idx_edge A c n es g lb eg p I B hn hl hT hp w h0
  have HR := Lib.hid hr
  clear hT hp hn h0 hr
  go_enter Tryz.func98, Tryz.ntmps98
  go_wp2_with fail
  refine C.mono ?_
  rintro e w1 ⟨v, k, rfl, hI, hv⟩
  have HI := Lib.hid hI
  have HV := Lib.hid hv
  clear hI hv
  cases r with
  | true =>
    have hg : 0 ≤ v := HV.out.mpr (HR.out.mp rfl)
    go_wp2
    go_ret
    exact ⟨rfl, k, HI.out⟩
  | false =>
    have hg : decide (0 ≤ v) = false := by
      rw [decide_eq_false_iff_not]
      exact fun h => absurd (HR.out.mpr (HV.out.mp h)) (by simp)
    go_wp2
    go_ret
    exact ⟨rfl, k, HI.out⟩

set_option maxHeartbeats 2000000 in
theorem idx_int (A : Option Addr) (c n : Nat) (es : List Int) (g : Nat) (lb : Array Value) (eg : ∀ args w, (callFunc g args).run Tryz.prog w = .ok (.enter g args) w) (p : Nat → Bool) (I : Nat → World → Prop) (B : Nat) (hn : es.length = n) (hl : n ≤ 1000)
    (hT : ∀ k W, I k W → Ints W B A es)
    (hp : ∀ k x W, es[k]? = some x → I k W → Calls Tryz.prog g (#[.int .i64 x] ++ lb) W fun e w' => e = .returned (.bool (p k)) ∧ I (k + 1) w')
    (w : World) (h0 : I 0 w) :
    Calls Tryz.prog 124 #[.slice A n c, .func (.func g) #[] lb] w fun e w' => ∃ r k, e = .returned (.int .i64 r) ∧ I k w' ∧ (0 ≤ r ↔ ∃ j, j < n ∧ p j = true) := by
  have HT := Lib.hid hT
  have HP := Lib.hid hp
  have HN := Lib.hid hn
  have H0 := Lib.hid h0
  clear hT hp hn h0
  go_enter Tryz.func124, Tryz.ntmps124
  go_wp2
  go_loopw [8] (fun v wr => ∃ k : Nat, k ≤ n ∧ v = .int .i64 k ∧ Hid (I k wr) ∧ Hid (∀ j, j < k → p j = false)) (fun v _ => n - (intOf v).toNat)
  case atStart => exact ⟨0, Nat.zero_le _, rfl, H0, Lib.hid (fun j hj => absurd hj (Nat.not_lt_zero _))⟩
  case round =>
    obtain ⟨k, hk, rfl, HI, HF⟩ := hrel
    clear H0
    by_cases hlt : k < n
    · obtain ⟨bk, off, x, rfl, hbg, hek, d1⟩ := (HT.out k wr HI.out).at_ (k := k) (by rw [HN.out]; exact hlt)
      have HEK := Lib.hid hek
      have hcall := HP.out k x wr hek  HI.out
      clear hek 
      skip
      cases hq : p k with
      | true =>
        have HQ := Lib.hid hq
        rw [hq] at hcall
        clear hq
        go_wp2_with (go_at_fn g; refine hcall.mono ?_; rintro e w' ⟨rfl, hb'⟩)
        go_ret
        exact ⟨_, k + 1, rfl, hb', ⟨fun _ => ⟨k, hlt, HQ.out⟩, fun _ => by omega⟩⟩
      | false =>
        have HQ := Lib.hid hq
        rw [hq] at hcall
        clear hq
        go_wp2_with (go_at_fn g; refine hcall.mono ?_; rintro e w' ⟨rfl, hb'⟩; have HB := Lib.hid hb'; clear hb')
        go_roundw
        case rel => exact ⟨k + 1, by omega, by go_num, HB, Lib.hid (fun j hj => by
          by_cases e : j = k
          · rw [e]; exact HQ.out
          · exact HF.out j (by omega))⟩
        case measure => simp [intOf]; omega
    · have e : k = n := by omega
      subst e
      go_wp2
      go_ret
      exact ⟨_, k, rfl, HI.out, ⟨fun h => absurd h (by decide), fun ⟨j, hj, hpj⟩ => by rw [HF.out j hj] at hpj; cases hpj⟩⟩
set_option maxHeartbeats 2000000 in
theorem has_int (A : Option Addr) (c n : Nat) (es : List Int) (g : Nat) (lb : Array Value) (eg : ∀ args w, (callFunc g args).run Tryz.prog w = .ok (.enter g args) w) (p : Nat → Bool) (I : Nat → World → Prop) (B : Nat) (hn : es.length = n) (hl : n ≤ 1000)
    (hT : ∀ k W, I k W → Ints W B A es)
    (hp : ∀ k x W, es[k]? = some x → I k W → Calls Tryz.prog g (#[.int .i64 x] ++ lb) W fun e w' => e = .returned (.bool (p k)) ∧ I (k + 1) w')
    (r : Bool) (hr : r = true ↔ ∃ j, j < n ∧ p j = true) (w : World) (h0 : I 0 w) :
    Calls Tryz.prog 106 #[.slice A n c, .func (.func g) #[] lb] w fun e w' => e = .returned (.bool r) ∧ ∃ k, I k w' := by
  have C := idx_int A c n es g lb eg p I B hn hl hT hp w h0
  have HR := Lib.hid hr
  clear hT hp hn h0 hr
  go_enter Tryz.func106, Tryz.ntmps106
  go_wp2_with fail
  refine C.mono ?_
  rintro e w1 ⟨v, k, rfl, hI, hv⟩
  have HI := Lib.hid hI
  have HV := Lib.hid hv
  clear hI hv
  cases r with
  | true =>
    have hg : 0 ≤ v := HV.out.mpr (HR.out.mp rfl)
    go_wp2
    go_ret
    exact ⟨rfl, k, HI.out⟩
  | false =>
    have hg : decide (0 ≤ v) = false := by
      rw [decide_eq_false_iff_not]
      exact fun h => absurd (HR.out.mpr (HV.out.mp h)) (by simp)
    go_wp2
    go_ret
    exact ⟨rfl, k, HI.out⟩

set_option maxHeartbeats 2000000 in
theorem idx_bar (A : Option Addr) (c n : Nat) (es : List (List Int × List Int)) (g : Nat) (lb : Array Value) (eg : ∀ args w, (callFunc g args).run Tryz.prog w = .ok (.enter g args) w) (p : Nat → Bool) (I : Nat → World → Prop) (B : Nat) (hn : es.length = n) (hl : n ≤ 1000)
    (hT : ∀ k W, I k W → Bars W B A es)
    (hp : ∀ k xs ys A1 n1 c1 A2 n2 c2 W, es[k]? = some (xs, ys) → xs.length = n1 → ys.length = n2 → Ints W B A1 xs → Ints W B A2 ys → (A1 = none → n1 = 0 ∧ c1 = 0) → (A2 = none → n2 = 0 ∧ c2 = 0) → I k W → Calls Tryz.prog g (#[.agg #[.slice A1 n1 c1, .slice A2 n2 c2]] ++ lb) W fun e w' => e = .returned (.bool (p k)) ∧ I (k + 1) w')
    (w : World) (h0 : I 0 w) :
    Calls Tryz.prog 121 #[.slice A n c, .func (.func g) #[] lb] w fun e w' => ∃ r k, e = .returned (.int .i64 r) ∧ I k w' ∧ (0 ≤ r ↔ ∃ j, j < n ∧ p j = true) := by
  have HT := Lib.hid hT
  have HP := Lib.hid hp
  have HN := Lib.hid hn
  have H0 := Lib.hid h0
  clear hT hp hn h0
  go_enter Tryz.func121, Tryz.ntmps121
  go_wp2
  go_loopw [8] (fun v wr => ∃ k : Nat, k ≤ n ∧ v = .int .i64 k ∧ Hid (I k wr) ∧ Hid (∀ j, j < k → p j = false)) (fun v _ => n - (intOf v).toNat)
  case atStart => exact ⟨0, Nat.zero_le _, rfl, H0, Lib.hid (fun j hj => absurd hj (Nat.not_lt_zero _))⟩
  case round =>
    obtain ⟨k, hk, rfl, HI, HF⟩ := hrel
    clear H0
    by_cases hlt : k < n
    · obtain ⟨bk, off, xs, ys, A1, n1, c1, A2, n2, c2, rfl, hbg, hek, hn1, hn2, d1, d2, hxs, hys, hz1, hz2⟩ := (HT.out k wr HI.out).at_ (k := k) (by rw [HN.out]; exact hlt)
      have HEK := Lib.hid hek
      have hcall := HP.out k xs ys A1 n1 c1 A2 n2 c2 wr hek hn1 hn2 hxs hys hz1 hz2 HI.out
      clear hek hn1 hn2 hxs hys hz1 hz2
      skip
      cases hq : p k with
      | true =>
        have HQ := Lib.hid hq
        rw [hq] at hcall
        clear hq
        go_wp2_with (go_at_fn g; refine hcall.mono ?_; rintro e w' ⟨rfl, hb'⟩)
        go_ret
        exact ⟨_, k + 1, rfl, hb', ⟨fun _ => ⟨k, hlt, HQ.out⟩, fun _ => by omega⟩⟩
      | false =>
        have HQ := Lib.hid hq
        rw [hq] at hcall
        clear hq
        go_wp2_with (go_at_fn g; refine hcall.mono ?_; rintro e w' ⟨rfl, hb'⟩; have HB := Lib.hid hb'; clear hb')
        go_roundw
        case rel => exact ⟨k + 1, by omega, by go_num, HB, Lib.hid (fun j hj => by
          by_cases e : j = k
          · rw [e]; exact HQ.out
          · exact HF.out j (by omega))⟩
        case measure => simp [intOf]; omega
    · have e : k = n := by omega
      subst e
      go_wp2
      go_ret
      exact ⟨_, k, rfl, HI.out, ⟨fun h => absurd h (by decide), fun ⟨j, hj, hpj⟩ => by rw [HF.out j hj] at hpj; cases hpj⟩⟩
set_option maxHeartbeats 2000000 in
theorem has_bar (A : Option Addr) (c n : Nat) (es : List (List Int × List Int)) (g : Nat) (lb : Array Value) (eg : ∀ args w, (callFunc g args).run Tryz.prog w = .ok (.enter g args) w) (p : Nat → Bool) (I : Nat → World → Prop) (B : Nat) (hn : es.length = n) (hl : n ≤ 1000)
    (hT : ∀ k W, I k W → Bars W B A es)
    (hp : ∀ k xs ys A1 n1 c1 A2 n2 c2 W, es[k]? = some (xs, ys) → xs.length = n1 → ys.length = n2 → Ints W B A1 xs → Ints W B A2 ys → (A1 = none → n1 = 0 ∧ c1 = 0) → (A2 = none → n2 = 0 ∧ c2 = 0) → I k W → Calls Tryz.prog g (#[.agg #[.slice A1 n1 c1, .slice A2 n2 c2]] ++ lb) W fun e w' => e = .returned (.bool (p k)) ∧ I (k + 1) w')
    (r : Bool) (hr : r = true ↔ ∃ j, j < n ∧ p j = true) (w : World) (h0 : I 0 w) :
    Calls Tryz.prog 101 #[.slice A n c, .func (.func g) #[] lb] w fun e w' => e = .returned (.bool r) ∧ ∃ k, I k w' := by
  have C := idx_bar A c n es g lb eg p I B hn hl hT hp w h0
  have HR := Lib.hid hr
  clear hT hp hn h0 hr
  go_enter Tryz.func101, Tryz.ntmps101
  go_wp2_with fail
  refine C.mono ?_
  rintro e w1 ⟨v, k, rfl, hI, hv⟩
  have HI := Lib.hid hI
  have HV := Lib.hid hv
  clear hI hv
  cases r with
  | true =>
    have hg : 0 ≤ v := HV.out.mpr (HR.out.mp rfl)
    go_wp2
    go_ret
    exact ⟨rfl, k, HI.out⟩
  | false =>
    have hg : decide (0 ≤ v) = false := by
      rw [decide_eq_false_iff_not]
      exact fun h => absurd (HR.out.mpr (HV.out.mp h)) (by simp)
    go_wp2
    go_ret
    exact ⟨rfl, k, HI.out⟩

end Go.Proofs.YtkmajhbfmdoamaaGreatDoor
