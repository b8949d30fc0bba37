/- eval.come in the seat YtkmajhbfmdoamaaGreatDoor: its contract (printed by eval/mk_come.py). No statement is proved here. -/
import Derived.Test.YtkmajhbfmdoamaaGreatDoorZEvalCome
set_option linter.unusedSimpArgs false
set_option linter.unusedVariables false
namespace Go.Proofs.YtkmajhbfmdoamaaGreatDoor
open Go.RowKit Go.Maps

theorem mix_r (a v : Int) : IntKind.u32.wrap (val32 (31 * a) + v) = stepV 5 a v := by
  rw [wrap_val]
  unfold stepV val32
  simp
set_option maxRecDepth 100000 in
set_option maxHeartbeats 4000000 in
theorem come_0 (arg wk : Int) (inp : List Int) (b kk : Nat) (D : DataW Unit) (A : Option Addr) (m c : Nat) (vals : List Int) (w : World) (h1 : -9223372036854775808 ≤ arg) (h2 : arg ≤ 9223372036854775807) (hM : OwnV w b kk D) (hT : TellsI D inp) (hm : vals.length = m) (hl : m ≤ 1000) (hV : Ints w w.heap.size A vals) :
    Calls Tryz.prog 37 #[.agg #[.int .i64 0, .int .i64 arg, .int .i64 wk], .map (some b), .slice A m c] w fun e w' => e = .returned (.int .i64 (foldV 0 (noneV 0 arg inp) vals)) ∧ Below w.heap.size w w' := by
  have C := ways_any arg inp b kk D (w.alloc (.cells #[.int .i64 0, .int .i64 arg, .int .i64 wk] 46)) h1 h2 (hM.below (below_alloc _)) hT
  have HV := Lib.hid hV
  have HM := Lib.hid hm
  have c0 : (w.alloc (.cells #[.int .i64 0, .int .i64 arg, .int .i64 wk] 46)).cell? ⟨w.heap.size, 0, none⟩ = some (.int .i64 0) := by rw [World.cell?_alloc_at _ _ _ _ rfl]; rfl
  have HB0 : Hid (Below w.heap.size w (w.alloc (.cells #[.int .i64 0, .int .i64 arg, .int .i64 wk] 46))) := Lib.hid (below_alloc _)
  have hz0 := noneV_in 0 arg inp
  have hzd : noneV 0 arg inp = inV inp arg := rfl
  obtain ⟨z0, hz⟩ : ∃ z, z = noneV 0 arg inp := ⟨_, rfl⟩
  obtain ⟨u, hu⟩ : ∃ u, u = inV inp arg := ⟨_, rfl⟩
  obtain ⟨z, hzz⟩ : ∃ z, z = val32 arg := ⟨_, rfl⟩
  unfold waysL at C
  rw [← hz] at hz0 hzd ⊢
  rw [← hu] at hzd
  rw [← hu, ← hzz] at C
  obtain ⟨w0, hw0⟩ : ∃ w0, w0 = w.alloc (.cells #[.int .i64 0, .int .i64 arg, .int .i64 wk] 46) := ⟨_, rfl⟩
  rw [← hw0] at C c0 HB0
  have HC := Lib.hid C
  have HFE := Lib.hid (foldV_in (op := 0) vals hz0)
  have hw0s : w.heap.size < w0.heap.size := by rw [hw0]; simp
  subst hzd
  clear hV hm hM hT C hz hu hzz
  go_enter Tryz.func37, Tryz.ntmps37
  go_wp2_with fail
  rw [← hw0]
  clear hw0
  refine HC.out.mono ?_
  rintro e w1 ⟨rfl, b1⟩
  have k0 := (b1.cell (p := ⟨w.heap.size, 0, none⟩) hw0s).trans c0
  have HB1 := Lib.hid (HB0.out.trans (b1.mono HB0.out.size))
  have hs1 : w.heap.size < w1.heap.size := Nat.lt_of_lt_of_le hw0s b1.size
  have HV1 := Lib.hid (HV.out.below HB1.out)
  clear b1 c0 HC hw0s
  simp only [wayF]
  go_wp2_with fail
  go_loop [9, 32] (fun t i => ∃ (j : Nat) (a : Int), j ≤ m ∧ i = .int .i64 j ∧ t = .int .u32 a ∧ 0 ≤ a ∧ a < 4294967296 ∧ Hid (a = foldV 0 z0 (vals.take j))) (fun _ i => m - (intOf i).toNat)
  case atStart => exact ⟨0, _, Nat.zero_le _, rfl, rfl, hz0.1, hz0.2, Lib.hid rfl⟩
  case round =>
    obtain ⟨j, a, hj, rfl, rfl, ha0, ha1, HA⟩ := hrel
    by_cases hlt : j < m
    · obtain ⟨bk, o, v0, rfl, hbg, hvj, hc1⟩ := HV1.out.at_ (k := j) (by rw [HM.out]; exact hlt)
      have hbg1 : bk < w1.heap.size := Nat.lt_trans hbg hs1
      have hv := wrap_val v0
      have hvi := val32_in v0
      have HST := Lib.hid (foldV_take (op := 0) (a := z0) hvj)
      obtain ⟨v, hve⟩ : ∃ v, v = val32 v0 := ⟨_, rfl⟩
      rw [← hve] at hv hvi
      have HVE := Lib.hid hve
      have hst := stepV_in (op := 0) ⟨ha0, ha1⟩ hvi
      have CS := Lib.hid (fun wq : World => (show Calls Tryz.prog 79 #[.int .u32 a, .int .u32 v] wq fun e w' => e = .returned (.int .u32 (stepV 0 a v)) ∧ wq = w' from keep_any a v wq))
      obtain ⟨s, hs⟩ : ∃ s, s = stepV 0 a v := ⟨_, rfl⟩
      rw [← hs] at CS hst
      have HS := Lib.hid hs
      obtain ⟨hst0, hst1⟩ := hst
      clear hvj hve hs
      go_wp2_with (go_at_call 79; refine (CS.out _).mono ?_; rintro e w' ⟨rfl, rfl⟩)
      go_round
      case rel => exact ⟨j + 1, s, by omega, by go_num, rfl, hst0, hst1, Lib.hid (by rw [HST.out, ← HA.out, ← HVE.out, HS.out])⟩
      case measure => simp [intOf]; omega
    · obtain rfl : j = m := by omega
      have hA := HA.out
      rw [List.take_of_length_le (by rw [HM.out]; exact Nat.le_refl _)] at hA
      have HAE := Lib.hid hA
      clear hA
      go_wp2
      go_ret
      exact ⟨by rw [HAE.out]; rfl, by first | exact (HB1.out.alloc (Nat.le_of_lt hs1) _).alloc (by simp; omega) _ | exact HB1.out⟩
set_option maxRecDepth 100000 in
set_option maxHeartbeats 4000000 in
theorem come_1 (arg wk : Int) (inp : List Int) (b kk : Nat) (D : DataW Unit) (A : Option Addr) (m c : Nat) (vals : List Int) (w : World) (h1 : -9223372036854775808 ≤ arg) (h2 : arg ≤ 9223372036854775807) (hM : OwnV w b kk D) (hT : TellsI D inp) (hm : vals.length = m) (hl : m ≤ 1000) (hV : Ints w w.heap.size A vals) :
    Calls Tryz.prog 37 #[.agg #[.int .i64 1, .int .i64 arg, .int .i64 wk], .map (some b), .slice A m c] w fun e w' => e = .returned (.int .i64 (foldV 1 (noneV 1 arg inp) vals)) ∧ Below w.heap.size w w' := by
  have C := ways_any arg inp b kk D (w.alloc (.cells #[.int .i64 1, .int .i64 arg, .int .i64 wk] 46)) h1 h2 (hM.below (below_alloc _)) hT
  have HV := Lib.hid hV
  have HM := Lib.hid hm
  have c0 : (w.alloc (.cells #[.int .i64 1, .int .i64 arg, .int .i64 wk] 46)).cell? ⟨w.heap.size, 0, none⟩ = some (.int .i64 1) := by rw [World.cell?_alloc_at _ _ _ _ rfl]; rfl
  have HB0 : Hid (Below w.heap.size w (w.alloc (.cells #[.int .i64 1, .int .i64 arg, .int .i64 wk] 46))) := Lib.hid (below_alloc _)
  have hz0 := noneV_in 1 arg inp
  have hzd : noneV 1 arg inp = val32 arg := rfl
  obtain ⟨z0, hz⟩ : ∃ z, z = noneV 1 arg inp := ⟨_, rfl⟩
  obtain ⟨u, hu⟩ : ∃ u, u = inV inp arg := ⟨_, rfl⟩
  obtain ⟨z, hzz⟩ : ∃ z, z = val32 arg := ⟨_, rfl⟩
  unfold waysL at C
  rw [← hz] at hz0 hzd ⊢
  rw [← hzz] at hzd
  rw [← hu, ← hzz] at C
  obtain ⟨w0, hw0⟩ : ∃ w0, w0 = w.alloc (.cells #[.int .i64 1, .int .i64 arg, .int .i64 wk] 46) := ⟨_, rfl⟩
  rw [← hw0] at C c0 HB0
  have HC := Lib.hid C
  have HFE := Lib.hid (foldV_in (op := 1) vals hz0)
  have hw0s : w.heap.size < w0.heap.size := by rw [hw0]; simp
  subst hzd
  clear hV hm hM hT C hz hu hzz
  go_enter Tryz.func37, Tryz.ntmps37
  go_wp2_with fail
  rw [← hw0]
  clear hw0
  refine HC.out.mono ?_
  rintro e w1 ⟨rfl, b1⟩
  have k0 := (b1.cell (p := ⟨w.heap.size, 0, none⟩) hw0s).trans c0
  have HB1 := Lib.hid (HB0.out.trans (b1.mono HB0.out.size))
  have hs1 : w.heap.size < w1.heap.size := Nat.lt_of_lt_of_le hw0s b1.size
  have HV1 := Lib.hid (HV.out.below HB1.out)
  clear b1 c0 HC hw0s
  simp only [wayF]
  go_wp2_with fail
  go_loop [9, 32] (fun t i => ∃ (j : Nat) (a : Int), j ≤ m ∧ i = .int .i64 j ∧ t = .int .u32 a ∧ 0 ≤ a ∧ a < 4294967296 ∧ Hid (a = foldV 1 z0 (vals.take j))) (fun _ i => m - (intOf i).toNat)
  case atStart => exact ⟨0, _, Nat.zero_le _, rfl, rfl, hz0.1, hz0.2, Lib.hid rfl⟩
  case round =>
    obtain ⟨j, a, hj, rfl, rfl, ha0, ha1, HA⟩ := hrel
    by_cases hlt : j < m
    · obtain ⟨bk, o, v0, rfl, hbg, hvj, hc1⟩ := HV1.out.at_ (k := j) (by rw [HM.out]; exact hlt)
      have hbg1 : bk < w1.heap.size := Nat.lt_trans hbg hs1
      have hv := wrap_val v0
      have hvi := val32_in v0
      have HST := Lib.hid (foldV_take (op := 1) (a := z0) hvj)
      obtain ⟨v, hve⟩ : ∃ v, v = val32 v0 := ⟨_, rfl⟩
      rw [← hve] at hv hvi
      have HVE := Lib.hid hve
      have hst := stepV_in (op := 1) ⟨ha0, ha1⟩ hvi
      have CS := Lib.hid (fun wq : World => (show Calls Tryz.prog 79 #[.int .u32 a, .int .u32 v] wq fun e w' => e = .returned (.int .u32 (stepV 1 a v)) ∧ wq = w' from keep_any a v wq))
      obtain ⟨s, hs⟩ : ∃ s, s = stepV 1 a v := ⟨_, rfl⟩
      rw [← hs] at CS hst
      have HS := Lib.hid hs
      obtain ⟨hst0, hst1⟩ := hst
      clear hvj hve hs
      go_wp2_with (go_at_call 79; refine (CS.out _).mono ?_; rintro e w' ⟨rfl, rfl⟩)
      go_round
      case rel => exact ⟨j + 1, s, by omega, by go_num, rfl, hst0, hst1, Lib.hid (by rw [HST.out, ← HA.out, ← HVE.out, HS.out])⟩
      case measure => simp [intOf]; omega
    · obtain rfl : j = m := by omega
      have hA := HA.out
      rw [List.take_of_length_le (by rw [HM.out]; exact Nat.le_refl _)] at hA
      have HAE := Lib.hid hA
      clear hA
      go_wp2
      go_ret
      exact ⟨by rw [HAE.out]; rfl, by first | exact (HB1.out.alloc (Nat.le_of_lt hs1) _).alloc (by simp; omega) _ | exact HB1.out⟩
set_option maxRecDepth 100000 in
set_option maxHeartbeats 4000000 in
theorem come_2 (arg wk : Int) (inp : List Int) (b kk : Nat) (D : DataW Unit) (A : Option Addr) (m c : Nat) (vals : List Int) (w : World) (h1 : -9223372036854775808 ≤ arg) (h2 : arg ≤ 9223372036854775807) (hM : OwnV w b kk D) (hT : TellsI D inp) (hm : vals.length = m) (hl : m ≤ 1000) (hV : Ints w w.heap.size A vals) :
    Calls Tryz.prog 37 #[.agg #[.int .i64 2, .int .i64 arg, .int .i64 wk], .map (some b), .slice A m c] w fun e w' => e = .returned (.int .i64 (foldV 2 (noneV 2 arg inp) vals)) ∧ Below w.heap.size w w' := by
  have C := ways_any arg inp b kk D (w.alloc (.cells #[.int .i64 2, .int .i64 arg, .int .i64 wk] 46)) h1 h2 (hM.below (below_alloc _)) hT
  have HV := Lib.hid hV
  have HM := Lib.hid hm
  have c0 : (w.alloc (.cells #[.int .i64 2, .int .i64 arg, .int .i64 wk] 46)).cell? ⟨w.heap.size, 0, none⟩ = some (.int .i64 2) := by rw [World.cell?_alloc_at _ _ _ _ rfl]; rfl
  have HB0 : Hid (Below w.heap.size w (w.alloc (.cells #[.int .i64 2, .int .i64 arg, .int .i64 wk] 46))) := Lib.hid (below_alloc _)
  have hz0 := noneV_in 2 arg inp
  have hzd : noneV 2 arg inp = 0 := rfl
  obtain ⟨z0, hz⟩ : ∃ z, z = noneV 2 arg inp := ⟨_, rfl⟩
  obtain ⟨u, hu⟩ : ∃ u, u = inV inp arg := ⟨_, rfl⟩
  obtain ⟨z, hzz⟩ : ∃ z, z = val32 arg := ⟨_, rfl⟩
  unfold waysL at C
  rw [← hz] at hz0 hzd ⊢
  skip
  rw [← hu, ← hzz] at C
  obtain ⟨w0, hw0⟩ : ∃ w0, w0 = w.alloc (.cells #[.int .i64 2, .int .i64 arg, .int .i64 wk] 46) := ⟨_, rfl⟩
  rw [← hw0] at C c0 HB0
  have HC := Lib.hid C
  have HFE := Lib.hid (foldV_in (op := 2) vals hz0)
  have hw0s : w.heap.size < w0.heap.size := by rw [hw0]; simp
  subst hzd
  clear hV hm hM hT C hz hu hzz
  go_enter Tryz.func37, Tryz.ntmps37
  go_wp2_with fail
  rw [← hw0]
  clear hw0
  refine HC.out.mono ?_
  rintro e w1 ⟨rfl, b1⟩
  have k0 := (b1.cell (p := ⟨w.heap.size, 0, none⟩) hw0s).trans c0
  have HB1 := Lib.hid (HB0.out.trans (b1.mono HB0.out.size))
  have hs1 : w.heap.size < w1.heap.size := Nat.lt_of_lt_of_le hw0s b1.size
  have HV1 := Lib.hid (HV.out.below HB1.out)
  clear b1 c0 HC hw0s
  simp only [wayF]
  go_wp2_with fail
  go_loop [9, 32] (fun t i => ∃ (j : Nat) (a : Int), j ≤ m ∧ i = .int .i64 j ∧ t = .int .u32 a ∧ 0 ≤ a ∧ a < 4294967296 ∧ Hid (a = foldV 2 0 (vals.take j))) (fun _ i => m - (intOf i).toNat)
  case atStart => exact ⟨0, _, Nat.zero_le _, rfl, rfl, hz0.1, hz0.2, Lib.hid rfl⟩
  case round =>
    obtain ⟨j, a, hj, rfl, rfl, ha0, ha1, HA⟩ := hrel
    by_cases hlt : j < m
    · obtain ⟨bk, o, v0, rfl, hbg, hvj, hc1⟩ := HV1.out.at_ (k := j) (by rw [HM.out]; exact hlt)
      have hbg1 : bk < w1.heap.size := Nat.lt_trans hbg hs1
      have hv := wrap_val v0
      have hvi := val32_in v0
      have HST := Lib.hid (foldV_take (op := 2) (a := 0) hvj)
      obtain ⟨v, hve⟩ : ∃ v, v = val32 v0 := ⟨_, rfl⟩
      rw [← hve] at hv hvi
      have HVE := Lib.hid hve
      have hst := stepV_in (op := 2) ⟨ha0, ha1⟩ hvi
      have CS := Lib.hid (fun wq : World => (show Calls Tryz.prog 80 #[.int .u32 a, .int .u32 v] wq fun e w' => e = .returned (.int .u32 (stepV 2 a v)) ∧ wq = w' from sum_any8 a v _ (wrap_val _) wq))
      obtain ⟨s, hs⟩ : ∃ s, s = stepV 2 a v := ⟨_, rfl⟩
      rw [← hs] at CS hst
      have HS := Lib.hid hs
      obtain ⟨hst0, hst1⟩ := hst
      clear hvj hve hs
      go_wp2_with (go_at_call 80; refine (CS.out _).mono ?_; rintro e w' ⟨rfl, rfl⟩)
      go_round
      case rel => exact ⟨j + 1, s, by omega, by go_num, rfl, hst0, hst1, Lib.hid (by rw [HST.out, ← HA.out, ← HVE.out, HS.out])⟩
      case measure => simp [intOf]; omega
    · obtain rfl : j = m := by omega
      have hA := HA.out
      rw [List.take_of_length_le (by rw [HM.out]; exact Nat.le_refl _)] at hA
      have HAE := Lib.hid hA
      clear hA
      go_wp2
      go_ret
      exact ⟨by rw [HAE.out]; rfl, by first | exact (HB1.out.alloc (Nat.le_of_lt hs1) _).alloc (by simp; omega) _ | exact HB1.out⟩
set_option maxRecDepth 100000 in
set_option maxHeartbeats 4000000 in
theorem come_3 (arg wk : Int) (inp : List Int) (b kk : Nat) (D : DataW Unit) (A : Option Addr) (m c : Nat) (vals : List Int) (w : World) (h1 : -9223372036854775808 ≤ arg) (h2 : arg ≤ 9223372036854775807) (hM : OwnV w b kk D) (hT : TellsI D inp) (hm : vals.length = m) (hl : m ≤ 1000) (hV : Ints w w.heap.size A vals) :
    Calls Tryz.prog 37 #[.agg #[.int .i64 3, .int .i64 arg, .int .i64 wk], .map (some b), .slice A m c] w fun e w' => e = .returned (.int .i64 (foldV 3 (noneV 3 arg inp) vals)) ∧ Below w.heap.size w w' := by
  have C := ways_any arg inp b kk D (w.alloc (.cells #[.int .i64 3, .int .i64 arg, .int .i64 wk] 46)) h1 h2 (hM.below (below_alloc _)) hT
  have HV := Lib.hid hV
  have HM := Lib.hid hm
  have c0 : (w.alloc (.cells #[.int .i64 3, .int .i64 arg, .int .i64 wk] 46)).cell? ⟨w.heap.size, 0, none⟩ = some (.int .i64 3) := by rw [World.cell?_alloc_at _ _ _ _ rfl]; rfl
  have HB0 : Hid (Below w.heap.size w (w.alloc (.cells #[.int .i64 3, .int .i64 arg, .int .i64 wk] 46))) := Lib.hid (below_alloc _)
  have hz0 := noneV_in 3 arg inp
  have hzd : noneV 3 arg inp = 1 := rfl
  obtain ⟨z0, hz⟩ : ∃ z, z = noneV 3 arg inp := ⟨_, rfl⟩
  obtain ⟨u, hu⟩ : ∃ u, u = inV inp arg := ⟨_, rfl⟩
  obtain ⟨z, hzz⟩ : ∃ z, z = val32 arg := ⟨_, rfl⟩
  unfold waysL at C
  rw [← hz] at hz0 hzd ⊢
  skip
  rw [← hu, ← hzz] at C
  obtain ⟨w0, hw0⟩ : ∃ w0, w0 = w.alloc (.cells #[.int .i64 3, .int .i64 arg, .int .i64 wk] 46) := ⟨_, rfl⟩
  rw [← hw0] at C c0 HB0
  have HC := Lib.hid C
  have HFE := Lib.hid (foldV_in (op := 3) vals hz0)
  have hw0s : w.heap.size < w0.heap.size := by rw [hw0]; simp
  subst hzd
  clear hV hm hM hT C hz hu hzz
  go_enter Tryz.func37, Tryz.ntmps37
  go_wp2_with fail
  rw [← hw0]
  clear hw0
  refine HC.out.mono ?_
  rintro e w1 ⟨rfl, b1⟩
  have k0 := (b1.cell (p := ⟨w.heap.size, 0, none⟩) hw0s).trans c0
  have HB1 := Lib.hid (HB0.out.trans (b1.mono HB0.out.size))
  have hs1 : w.heap.size < w1.heap.size := Nat.lt_of_lt_of_le hw0s b1.size
  have HV1 := Lib.hid (HV.out.below HB1.out)
  clear b1 c0 HC hw0s
  simp only [wayF]
  go_wp2_with fail
  go_loop [9, 32] (fun t i => ∃ (j : Nat) (a : Int), j ≤ m ∧ i = .int .i64 j ∧ t = .int .u32 a ∧ 0 ≤ a ∧ a < 4294967296 ∧ Hid (a = foldV 3 1 (vals.take j))) (fun _ i => m - (intOf i).toNat)
  case atStart => exact ⟨0, _, Nat.zero_le _, rfl, rfl, hz0.1, hz0.2, Lib.hid rfl⟩
  case round =>
    obtain ⟨j, a, hj, rfl, rfl, ha0, ha1, HA⟩ := hrel
    by_cases hlt : j < m
    · obtain ⟨bk, o, v0, rfl, hbg, hvj, hc1⟩ := HV1.out.at_ (k := j) (by rw [HM.out]; exact hlt)
      have hbg1 : bk < w1.heap.size := Nat.lt_trans hbg hs1
      have hv := wrap_val v0
      have hvi := val32_in v0
      have HST := Lib.hid (foldV_take (op := 3) (a := 1) hvj)
      obtain ⟨v, hve⟩ : ∃ v, v = val32 v0 := ⟨_, rfl⟩
      rw [← hve] at hv hvi
      have HVE := Lib.hid hve
      have hst := stepV_in (op := 3) ⟨ha0, ha1⟩ hvi
      have CS := Lib.hid (fun wq : World => (show Calls Tryz.prog 81 #[.int .u32 a, .int .u32 v] wq fun e w' => e = .returned (.int .u32 (stepV 3 a v)) ∧ wq = w' from prod_any8 a v _ (wrap_val _) wq))
      obtain ⟨s, hs⟩ : ∃ s, s = stepV 3 a v := ⟨_, rfl⟩
      rw [← hs] at CS hst
      have HS := Lib.hid hs
      obtain ⟨hst0, hst1⟩ := hst
      clear hvj hve hs
      go_wp2_with (go_at_call 81; refine (CS.out _).mono ?_; rintro e w' ⟨rfl, rfl⟩)
      go_round
      case rel => exact ⟨j + 1, s, by omega, by go_num, rfl, hst0, hst1, Lib.hid (by rw [HST.out, ← HA.out, ← HVE.out, HS.out])⟩
      case measure => simp [intOf]; omega
    · obtain rfl : j = m := by omega
      have hA := HA.out
      rw [List.take_of_length_le (by rw [HM.out]; exact Nat.le_refl _)] at hA
      have HAE := Lib.hid hA
      clear hA
      go_wp2
      go_ret
      exact ⟨by rw [HAE.out]; rfl, by first | exact (HB1.out.alloc (Nat.le_of_lt hs1) _).alloc (by simp; omega) _ | exact HB1.out⟩
set_option maxRecDepth 100000 in
set_option maxHeartbeats 4000000 in
theorem come_4 (arg wk : Int) (inp : List Int) (b kk : Nat) (D : DataW Unit) (A : Option Addr) (m c : Nat) (vals : List Int) (w : World) (h1 : -9223372036854775808 ≤ arg) (h2 : arg ≤ 9223372036854775807) (hM : OwnV w b kk D) (hT : TellsI D inp) (hm : vals.length = m) (hl : m ≤ 1000) (hV : Ints w w.heap.size A vals) :
    Calls Tryz.prog 37 #[.agg #[.int .i64 4, .int .i64 arg, .int .i64 wk], .map (some b), .slice A m c] w fun e w' => e = .returned (.int .i64 (foldV 4 (noneV 4 arg inp) vals)) ∧ Below w.heap.size w w' := by
  have C := ways_any arg inp b kk D (w.alloc (.cells #[.int .i64 4, .int .i64 arg, .int .i64 wk] 46)) h1 h2 (hM.below (below_alloc _)) hT
  have HV := Lib.hid hV
  have HM := Lib.hid hm
  have c0 : (w.alloc (.cells #[.int .i64 4, .int .i64 arg, .int .i64 wk] 46)).cell? ⟨w.heap.size, 0, none⟩ = some (.int .i64 4) := by rw [World.cell?_alloc_at _ _ _ _ rfl]; rfl
  have HB0 : Hid (Below w.heap.size w (w.alloc (.cells #[.int .i64 4, .int .i64 arg, .int .i64 wk] 46))) := Lib.hid (below_alloc _)
  have hz0 := noneV_in 4 arg inp
  have hzd : noneV 4 arg inp = 0 := rfl
  obtain ⟨z0, hz⟩ : ∃ z, z = noneV 4 arg inp := ⟨_, rfl⟩
  obtain ⟨u, hu⟩ : ∃ u, u = inV inp arg := ⟨_, rfl⟩
  obtain ⟨z, hzz⟩ : ∃ z, z = val32 arg := ⟨_, rfl⟩
  unfold waysL at C
  rw [← hz] at hz0 hzd ⊢
  skip
  rw [← hu, ← hzz] at C
  obtain ⟨w0, hw0⟩ : ∃ w0, w0 = w.alloc (.cells #[.int .i64 4, .int .i64 arg, .int .i64 wk] 46) := ⟨_, rfl⟩
  rw [← hw0] at C c0 HB0
  have HC := Lib.hid C
  have HFE := Lib.hid (foldV_in (op := 4) vals hz0)
  have hw0s : w.heap.size < w0.heap.size := by rw [hw0]; simp
  subst hzd
  clear hV hm hM hT C hz hu hzz
  go_enter Tryz.func37, Tryz.ntmps37
  go_wp2_with fail
  rw [← hw0]
  clear hw0
  refine HC.out.mono ?_
  rintro e w1 ⟨rfl, b1⟩
  have k0 := (b1.cell (p := ⟨w.heap.size, 0, none⟩) hw0s).trans c0
  have HB1 := Lib.hid (HB0.out.trans (b1.mono HB0.out.size))
  have hs1 : w.heap.size < w1.heap.size := Nat.lt_of_lt_of_le hw0s b1.size
  have HV1 := Lib.hid (HV.out.below HB1.out)
  clear b1 c0 HC hw0s
  simp only [wayF]
  go_wp2_with fail
  go_loop [9, 32] (fun t i => ∃ (j : Nat) (a : Int), j ≤ m ∧ i = .int .i64 j ∧ t = .int .u32 a ∧ 0 ≤ a ∧ a < 4294967296 ∧ Hid (a = foldV 4 0 (vals.take j))) (fun _ i => m - (intOf i).toNat)
  case atStart => exact ⟨0, _, Nat.zero_le _, rfl, rfl, hz0.1, hz0.2, Lib.hid rfl⟩
  case round =>
    obtain ⟨j, a, hj, rfl, rfl, ha0, ha1, HA⟩ := hrel
    by_cases hlt : j < m
    · obtain ⟨bk, o, v0, rfl, hbg, hvj, hc1⟩ := HV1.out.at_ (k := j) (by rw [HM.out]; exact hlt)
      have hbg1 : bk < w1.heap.size := Nat.lt_trans hbg hs1
      have hv := wrap_val v0
      have hvi := val32_in v0
      have HST := Lib.hid (foldV_take (op := 4) (a := 0) hvj)
      obtain ⟨v, hve⟩ : ∃ v, v = val32 v0 := ⟨_, rfl⟩
      rw [← hve] at hv hvi
      have HVE := Lib.hid hve
      have hst := stepV_in (op := 4) ⟨ha0, ha1⟩ hvi
      have CS := Lib.hid (fun wq : World => (show Calls Tryz.prog 82 #[.int .u32 a, .int .u32 v] wq fun e w' => e = .returned (.int .u32 (stepV 4 a v)) ∧ wq = w' from max_any8 a v wq))
      obtain ⟨s, hs⟩ : ∃ s, s = stepV 4 a v := ⟨_, rfl⟩
      rw [← hs] at CS hst
      have HS := Lib.hid hs
      obtain ⟨hst0, hst1⟩ := hst
      clear hvj hve hs
      go_wp2_with (go_at_call 82; refine (CS.out _).mono ?_; rintro e w' ⟨rfl, rfl⟩)
      go_round
      case rel => exact ⟨j + 1, s, by omega, by go_num, rfl, hst0, hst1, Lib.hid (by rw [HST.out, ← HA.out, ← HVE.out, HS.out])⟩
      case measure => simp [intOf]; omega
    · obtain rfl : j = m := by omega
      have hA := HA.out
      rw [List.take_of_length_le (by rw [HM.out]; exact Nat.le_refl _)] at hA
      have HAE := Lib.hid hA
      clear hA
      go_wp2
      go_ret
      exact ⟨by rw [HAE.out]; rfl, by first | exact (HB1.out.alloc (Nat.le_of_lt hs1) _).alloc (by simp; omega) _ | exact HB1.out⟩
set_option maxRecDepth 100000 in
set_option maxHeartbeats 4000000 in
theorem come_5 (arg wk : Int) (inp : List Int) (b kk : Nat) (D : DataW Unit) (A : Option Addr) (m c : Nat) (vals : List Int) (w : World) (h1 : -9223372036854775808 ≤ arg) (h2 : arg ≤ 9223372036854775807) (hM : OwnV w b kk D) (hT : TellsI D inp) (hm : vals.length = m) (hl : m ≤ 1000) (hV : Ints w w.heap.size A vals) :
    Calls Tryz.prog 37 #[.agg #[.int .i64 5, .int .i64 arg, .int .i64 wk], .map (some b), .slice A m c] w fun e w' => e = .returned (.int .i64 (foldV 5 (noneV 5 arg inp) vals)) ∧ Below w.heap.size w w' := by
  have C := ways_any arg inp b kk D (w.alloc (.cells #[.int .i64 5, .int .i64 arg, .int .i64 wk] 46)) h1 h2 (hM.below (below_alloc _)) hT
  have HV := Lib.hid hV
  have HM := Lib.hid hm
  have c0 : (w.alloc (.cells #[.int .i64 5, .int .i64 arg, .int .i64 wk] 46)).cell? ⟨w.heap.size, 0, none⟩ = some (.int .i64 5) := by rw [World.cell?_alloc_at _ _ _ _ rfl]; rfl
  have HB0 : Hid (Below w.heap.size w (w.alloc (.cells #[.int .i64 5, .int .i64 arg, .int .i64 wk] 46))) := Lib.hid (below_alloc _)
  have hz0 := noneV_in 5 arg inp
  have hzd : noneV 5 arg inp = 7 := rfl
  obtain ⟨z0, hz⟩ : ∃ z, z = noneV 5 arg inp := ⟨_, rfl⟩
  obtain ⟨u, hu⟩ : ∃ u, u = inV inp arg := ⟨_, rfl⟩
  obtain ⟨z, hzz⟩ : ∃ z, z = val32 arg := ⟨_, rfl⟩
  unfold waysL at C
  rw [← hz] at hz0 hzd ⊢
  skip
  rw [← hu, ← hzz] at C
  obtain ⟨w0, hw0⟩ : ∃ w0, w0 = w.alloc (.cells #[.int .i64 5, .int .i64 arg, .int .i64 wk] 46) := ⟨_, rfl⟩
  rw [← hw0] at C c0 HB0
  have HC := Lib.hid C
  have HFE := Lib.hid (foldV_in (op := 5) vals hz0)
  have hw0s : w.heap.size < w0.heap.size := by rw [hw0]; simp
  subst hzd
  clear hV hm hM hT C hz hu hzz
  go_enter Tryz.func37, Tryz.ntmps37
  go_wp2_with fail
  rw [← hw0]
  clear hw0
  refine HC.out.mono ?_
  rintro e w1 ⟨rfl, b1⟩
  have k0 := (b1.cell (p := ⟨w.heap.size, 0, none⟩) hw0s).trans c0
  have HB1 := Lib.hid (HB0.out.trans (b1.mono HB0.out.size))
  have hs1 : w.heap.size < w1.heap.size := Nat.lt_of_lt_of_le hw0s b1.size
  have HV1 := Lib.hid (HV.out.below HB1.out)
  clear b1 c0 HC hw0s
  simp only [wayF]
  go_wp2_with fail
  go_loop [9, 32] (fun t i => ∃ (j : Nat) (a : Int), j ≤ m ∧ i = .int .i64 j ∧ t = .int .u32 a ∧ 0 ≤ a ∧ a < 4294967296 ∧ Hid (a = foldV 5 7 (vals.take j))) (fun _ i => m - (intOf i).toNat)
  case atStart => exact ⟨0, _, Nat.zero_le _, rfl, rfl, hz0.1, hz0.2, Lib.hid rfl⟩
  case round =>
    obtain ⟨j, a, hj, rfl, rfl, ha0, ha1, HA⟩ := hrel
    by_cases hlt : j < m
    · obtain ⟨bk, o, v0, rfl, hbg, hvj, hc1⟩ := HV1.out.at_ (k := j) (by rw [HM.out]; exact hlt)
      have hbg1 : bk < w1.heap.size := Nat.lt_trans hbg hs1
      have hv := wrap_val v0
      have hvi := val32_in v0
      have HST := Lib.hid (foldV_take (op := 5) (a := 7) hvj)
      obtain ⟨v, hve⟩ : ∃ v, v = val32 v0 := ⟨_, rfl⟩
      rw [← hve] at hv hvi
      have HVE := Lib.hid hve
      have hst := stepV_in (op := 5) ⟨ha0, ha1⟩ hvi
      have CS := Lib.hid (fun wq : World => (show Calls Tryz.prog 83 #[.int .u32 a, .int .u32 v] wq fun e w' => e = .returned (.int .u32 (stepV 5 a v)) ∧ wq = w' from mix_any8 a v (val32 (31 * a)) _ (wrap_val _) (mix_r a v) wq))
      obtain ⟨s, hs⟩ : ∃ s, s = stepV 5 a v := ⟨_, rfl⟩
      rw [← hs] at CS hst
      have HS := Lib.hid hs
      obtain ⟨hst0, hst1⟩ := hst
      clear hvj hve hs
      go_wp2_with (go_at_call 83; refine (CS.out _).mono ?_; rintro e w' ⟨rfl, rfl⟩)
      go_round
      case rel => exact ⟨j + 1, s, by omega, by go_num, rfl, hst0, hst1, Lib.hid (by rw [HST.out, ← HA.out, ← HVE.out, HS.out])⟩
      case measure => simp [intOf]; omega
    · obtain rfl : j = m := by omega
      have hA := HA.out
      rw [List.take_of_length_le (by rw [HM.out]; exact Nat.le_refl _)] at hA
      have HAE := Lib.hid hA
      clear hA
      go_wp2
      go_ret
      exact ⟨by rw [HAE.out]; rfl, by first | exact (HB1.out.alloc (Nat.le_of_lt hs1) _).alloc (by simp; omega) _ | exact HB1.out⟩
set_option maxRecDepth 100000 in
set_option maxHeartbeats 4000000 in
theorem come_no (op arg wk : Int) (inp : List Int) (b kk : Nat) (D : DataW Unit) (A : Option Addr) (m c : Nat) (w : World) (h1 : -9223372036854775808 ≤ arg) (h2 : arg ≤ 9223372036854775807) (hM : OwnV w b kk D) (hT : TellsI D inp) (hop : ¬ (0 ≤ op ∧ op ≤ 5)) :
    Calls Tryz.prog 37 #[.agg #[.int .i64 op, .int .i64 arg, .int .i64 wk], .map (some b), .slice A m c] w fun e w' => e = .returned (.int .i64 0) ∧ Below w.heap.size w w' := by
  have C := ways_any arg inp b kk D (w.alloc (.cells #[.int .i64 op, .int .i64 arg, .int .i64 wk] 46)) h1 h2 (hM.below (below_alloc _)) hT
  have c0 : (w.alloc (.cells #[.int .i64 op, .int .i64 arg, .int .i64 wk] 46)).cell? ⟨w.heap.size, 0, none⟩ = some (.int .i64 op) := by rw [World.cell?_alloc_at _ _ _ _ rfl]; rfl
  have HB0 : Hid (Below w.heap.size w (w.alloc (.cells #[.int .i64 op, .int .i64 arg, .int .i64 wk] 46))) := Lib.hid (below_alloc _)
  obtain ⟨u, hu⟩ : ∃ u, u = inV inp arg := ⟨_, rfl⟩
  obtain ⟨z, hzz⟩ : ∃ z, z = val32 arg := ⟨_, rfl⟩
  unfold waysL at C
  rw [← hu, ← hzz] at C
  obtain ⟨w0, hw0⟩ : ∃ w0, w0 = w.alloc (.cells #[.int .i64 op, .int .i64 arg, .int .i64 wk] 46) := ⟨_, rfl⟩
  rw [← hw0] at C c0 HB0
  have HC := Lib.hid C
  have hw0s : w.heap.size < w0.heap.size := by rw [hw0]; simp
  clear hM hT C hu hzz
  have hop2 : op < 0 ∨ (0 ≤ op ∧ 6 ≤ op) := by omega
  clear hop
  rcases hop2 with hop | hop
  · go_enter Tryz.func37, Tryz.ntmps37
    go_wp2_with fail
    rw [← hw0]
    clear hw0
    refine HC.out.mono ?_
    rintro e w1 ⟨rfl, b1⟩
    have k0 := (b1.cell (p := ⟨w.heap.size, 0, none⟩) hw0s).trans c0
    have HB1 := Lib.hid (HB0.out.trans (b1.mono HB0.out.size))
    have hs1 : w.heap.size < w1.heap.size := Nat.lt_of_lt_of_le hw0s b1.size
    clear b1 c0 HC hw0s
    simp only [wayF]
    go_wp2
    go_ret
    exact ⟨rfl, HB1.out.alloc (Nat.le_of_lt hs1) _⟩
  · have hop3 : decide (op < 0) = false := decide_eq_false (by omega)
    have hop4 : decide (6 ≤ op) = true := decide_eq_true hop.2
    go_enter Tryz.func37, Tryz.ntmps37
    go_wp2_with fail
    rw [← hw0]
    clear hw0
    refine HC.out.mono ?_
    rintro e w1 ⟨rfl, b1⟩
    have k0 := (b1.cell (p := ⟨w.heap.size, 0, none⟩) hw0s).trans c0
    have HB1 := Lib.hid (HB0.out.trans (b1.mono HB0.out.size))
    have hs1 : w.heap.size < w1.heap.size := Nat.lt_of_lt_of_le hw0s b1.size
    clear b1 c0 HC hw0s
    simp only [wayF]
    go_wp2
    go_ret
    exact ⟨rfl, HB1.out.alloc (Nat.le_of_lt hs1) _⟩
theorem come_any (op arg wk : Int) (inp : List Int) (b kk : Nat) (D : DataW Unit) (A : Option Addr) (m c : Nat) (vals : List Int) (w : World) (h1 : -9223372036854775808 ≤ arg) (h2 : arg ≤ 9223372036854775807) (hM : OwnV w b kk D) (hT : TellsI D inp) (hm : vals.length = m) (hl : m ≤ 1000) (hV : Ints w w.heap.size A vals) :
    Calls Tryz.prog 37 #[.agg #[.int .i64 op, .int .i64 arg, .int .i64 wk], .map (some b), .slice A m c] w fun e w' => e = .returned (.int .i64 (comeV op arg inp vals)) ∧ Below w.heap.size w w' := by
  unfold comeV
  by_cases h : 0 ≤ op ∧ op ≤ 5
  · rw [if_pos h]
    obtain rfl | rfl | rfl | rfl | rfl | rfl : op = 0 ∨ op = 1 ∨ op = 2 ∨ op = 3 ∨ op = 4 ∨ op = 5 := by omega
    · exact come_0 arg wk inp b kk D A m c vals w h1 h2 hM hT hm hl hV
    · exact come_1 arg wk inp b kk D A m c vals w h1 h2 hM hT hm hl hV
    · exact come_2 arg wk inp b kk D A m c vals w h1 h2 hM hT hm hl hV
    · exact come_3 arg wk inp b kk D A m c vals w h1 h2 hM hT hm hl hV
    · exact come_4 arg wk inp b kk D A m c vals w h1 h2 hM hT hm hl hV
    · exact come_5 arg wk inp b kk D A m c vals w h1 h2 hM hT hm hl hV
  · rw [if_neg h]
    exact come_no op arg wk inp b kk D A m c w h1 h2 hM hT h
end Go.Proofs.YtkmajhbfmdoamaaGreatDoor
