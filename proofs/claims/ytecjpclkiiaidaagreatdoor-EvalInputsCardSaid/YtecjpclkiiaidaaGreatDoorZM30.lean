/- Op of trefoilref08 in the seat YtecjpclkiiaidaaGreatDoor: its contract.
   Op of trefoilref08 in the seat YtecjpclkiiaidaaGreatDoor, way by way (printed by eval/mk_refop.py).
   No statement is proved here. -/
import Derived.Test.YtecjpclkiiaidaaGreatDoorZM27
import Derived.Test.YtecjpclkiiaidaaGreatDoorZM3
set_option linter.unusedSimpArgs false
set_option linter.unusedVariables false
namespace Go.Proofs.YtecjpclkiiaidaaGreatDoor
open Go.RowKit

theorem foldV_keep : ∀ (l : List Int) (a : Int), l.foldl (fun a v => stepV 0 a (val32 v)) a = a
  | [], _ => rfl
  | _ :: l, a => foldV_keep l a
theorem foldV_keep1 : ∀ (l : List Int) (a : Int), foldV 1 a l = a
  | [], _ => rfl
  | _ :: l, a => foldV_keep1 l a
theorem tmod_val (n : Int) : (if n.tmod 4294967296 < 0 then n.tmod 4294967296 + 4294967296 else n.tmod 4294967296) = val32 n := by
  unfold val32
  rw [Int.tmod_eq_emod]
  by_cases h : 0 ≤ n ∨ (4294967296 : Int) ∣ n
  · rw [if_pos h, if_neg (by omega)]
    omega
  · rw [if_neg h, show ((Int.natAbs 4294967296 : Nat) : Int) = 4294967296 from rfl]
    have h2 : n % 4294967296 ≠ 0 := fun e => h (.inr (Int.dvd_of_emod_eq_zero e))
    rw [if_pos (by omega)]
    omega
theorem half_val {a b : Int} (ha : 0 ≤ a ∧ a < 4294967296) (hb : 0 ≤ b ∧ b < 4294967296) : val32 (val32 (a / 65536 * b) % 65536 * 65536 + a % 65536 * b) = (a * b) % 4294967296 := by
  unfold val32
  have e1 : a * b = a / 65536 * b * 65536 + a % 65536 * b := by
    have h := Int.mul_ediv_add_emod a 65536
    have : a * b = (65536 * (a / 65536) + a % 65536) * b := by rw [h]
    rw [this, Int.add_mul]
    congr 1
    rw [Int.mul_comm 65536, Int.mul_assoc, Int.mul_comm 65536, ← Int.mul_assoc]
  rw [e1]
  generalize a / 65536 * b = x
  generalize a % 65536 * b = y
  omega
theorem tmod8_in (n : Int) : -4294967296 < n.tmod 4294967296 ∧ n.tmod 4294967296 < 4294967296 := by
  rw [Int.tmod_eq_emod]
  split
  · omega
  · rw [show ((Int.natAbs 4294967296 : Nat) : Int) = 4294967296 from rfl]
    omega
set_option maxRecDepth 100000 in
theorem round8_any (n : Int) (w : World) : Calls Tryz.prog 39 #[.int .i64 n] w fun e w' => e = .returned (.int .i64 (val32 n)) ∧ w = w' := by
  have h := tmod_val n
  have hb := tmod8_in n
  obtain ⟨v, hv⟩ : ∃ v, v = val32 n := ⟨_, rfl⟩
  rw [← hv] at h ⊢
  have HH := Lib.hid h
  have hw := IntWalk.wrap64_in (n.tmod 4294967296 + 4294967296) ⟨by omega, by omega⟩
  clear h hv hb
  go_enter Tryz.func39, Tryz.ntmps39
  go_wp2
  · go_ret
    rename_i h
    have hh := HH.out
    rw [if_pos h] at hh
    exact ⟨by rw [hw, ← hh]; rfl, rfl⟩
  · go_ret
    rename_i h
    have hh := HH.out
    rw [if_neg (by omega)] at hh
    exact ⟨by rw [← hh]; rfl, rfl⟩
set_option maxRecDepth 100000 in
theorem times8_any (a b : Int) (ha : 0 ≤ a ∧ a < 4294967296) (hb : 0 ≤ b ∧ b < 4294967296) (w : World) : Calls Tryz.prog 40 #[.int .i64 a, .int .i64 b] w fun e w' => e = .returned (.int .i64 ((a * b) % 4294967296)) ∧ w = w' := by
  have h := half_val ha hb
  obtain ⟨v, hv⟩ : ∃ v, v = (a * b) % 4294967296 := ⟨_, rfl⟩
  rw [← hv] at h ⊢
  have hq : a.tdiv 65536 = a / 65536 := Int.tdiv_eq_ediv_of_nonneg ha.1
  have hr : a.tmod 65536 = a % 65536 := Int.tmod_eq_emod_of_nonneg ha.1
  obtain ⟨x, hx⟩ : ∃ x, x = a / 65536 := ⟨_, rfl⟩
  obtain ⟨y, hy⟩ : ∃ y, y = a % 65536 := ⟨_, rfl⟩
  rw [← hx] at hq h
  rw [← hy] at hr h
  have hx2 : 0 ≤ x ∧ x < 65536 := by omega
  have hy2 : 0 ≤ y ∧ y < 65536 := by omega
  obtain ⟨p, hp⟩ : ∃ p, x * b = p := ⟨_, rfl⟩
  obtain ⟨q, hq2⟩ : ∃ q, y * b = q := ⟨_, rfl⟩
  have hp2 : 0 ≤ p ∧ p < 281474976710656 := by
    rw [← hp]
    refine ⟨Int.mul_nonneg hx2.1 hb.1, ?_⟩
    have h1 : x * b ≤ 65535 * b := Int.mul_le_mul_of_nonneg_right (by omega) hb.1
    omega
  have hq3 : 0 ≤ q ∧ q < 281474976710656 := by
    rw [← hq2]
    refine ⟨Int.mul_nonneg hy2.1 hb.1, ?_⟩
    have h1 : y * b ≤ 65535 * b := Int.mul_le_mul_of_nonneg_right (by omega) hb.1
    omega
  rw [hp, hq2] at h
  have HH := Lib.hid h
  clear h hv hx hy
  go_enter Tryz.func40, Tryz.ntmps40
  go_wp2_with fail
  refine (round8_any p w).mono ?_
  rintro e w1 ⟨rfl, rfl⟩
  have hu := val32_in p
  obtain ⟨u, hu2⟩ : ∃ u, u = val32 p := ⟨_, rfl⟩
  rw [← hu2] at hu HH ⊢
  have hur : u.tmod 65536 = u % 65536 := Int.tmod_eq_emod_of_nonneg hu.1
  obtain ⟨z, hz⟩ : ∃ z, z = u % 65536 := ⟨_, rfl⟩
  rw [← hz] at hur HH
  have hz2 : 0 ≤ z ∧ z < 65536 := by omega
  clear hu2 hz
  go_wp2_with fail
  refine (round8_any (z * 65536 + q) w).mono ?_
  rintro e w1 ⟨rfl, rfl⟩
  rw [HH.out]
  go_wp2
  go_ret
  exact ⟨rfl, rfl⟩
end Go.Proofs.YtecjpclkiiaidaaGreatDoor
set_option linter.unusedVariables false
namespace Go.Proofs.YtecjpclkiiaidaaGreatDoor
open Go.RowKit

set_option maxRecDepth 100000 in
set_option maxHeartbeats 4000000 in
theorem rop_0 (arg wk : Int) (Ai : Option Addr) (ni ci : Nat) (inp : List Int) (F : Option Addr) (m d : Nat) (vals : List Int) (w : World) (h1 : -9223372036854775808 ≤ arg) (h2 : arg ≤ 9223372036854775807) (hi : inp.length = ni) (li : ni ≤ 1000) (hI : Ints w w.heap.size Ai inp) (hm : vals.length = m) (lm : m ≤ 1000) (hV : Ints w w.heap.size F vals) :
    Calls Tryz.prog 13 #[.agg #[.int .i64 0, .int .i64 arg, .int .i64 wk], .slice Ai ni ci, .slice F m d] w fun e w' => e = .returned (.int .i64 (foldV 0 (noneV 0 arg inp) vals)) ∧ Below w.heap.size w w' := by
  have hf : foldV 0 (noneV 0 arg inp) vals = noneV 0 arg inp := by
    unfold foldV
    exact foldV_keep vals _
  rw [hf]
  by_cases h0 : arg < 0
  · have hn : noneV 0 arg inp = 0 := by unfold noneV; rw [if_pos rfl, if_neg (by omega)]
    rw [hn]
    have h0d : decide (arg < 0) = true := decide_eq_true h0
    clear hf hn hI hV hi hm
    go_enter Tryz.func13, Tryz.ntmps13
    go_wp2
    go_ret
    exact ⟨rfl, below_alloc _⟩
  · obtain ⟨x, rfl⟩ : ∃ x : Nat, arg = x := ⟨arg.toNat, by omega⟩
    have h0d : decide ((x : Int) < 0) = false := decide_eq_false h0
    by_cases hx : ni ≤ x
    · have hn : noneV 0 x inp = 0 := by
        unfold noneV
        rw [if_pos rfl, if_pos (by omega), Int.toNat_natCast, List.getD_eq_getElem?_getD, List.getElem?_eq_none (by omega)]
        rfl
      rw [hn]
      have h1d : decide ((ni : Int) ≤ (x : Int)) = true := decide_eq_true (by omega)
      have h1e : decide (ni ≤ x) = true := decide_eq_true hx
      clear hf hn hI hV hi hm
      go_enter Tryz.func13, Tryz.ntmps13
      go_wp2
      go_ret
      exact ⟨rfl, below_alloc _⟩
    · have h1d : decide ((ni : Int) ≤ (x : Int)) = false := decide_eq_false (by omega)
      have h1e : decide (ni ≤ x) = false := decide_eq_false hx
      have hxn : x < ni := by omega
      obtain ⟨bk, o, z, rfl, hbg, hzj, hc1⟩ := hI.at_ (k := x) (by rw [hi]; exact hxn)
      have hn : noneV 0 x inp = val32 z := by
        unfold noneV
        rw [if_pos rfl, if_pos (by omega), Int.toNat_natCast, List.getD_eq_getElem?_getD, hzj]
        rfl
      rw [hn]
      clear hf hn hI hV hi hm hzj
      go_enter Tryz.func13, Tryz.ntmps13
      go_wp2_with fail
      refine (round8_any z _).mono ?_
      rintro e w1 ⟨rfl, rfl⟩
      go_wp2
      go_ret
      exact ⟨rfl, below_alloc _⟩
set_option maxRecDepth 100000 in
set_option maxHeartbeats 4000000 in
theorem rop_1 (arg wk : Int) (Ai : Option Addr) (ni ci : Nat) (inp : List Int) (F : Option Addr) (m d : Nat) (vals : List Int) (w : World) (h1 : -9223372036854775808 ≤ arg) (h2 : arg ≤ 9223372036854775807) (hi : inp.length = ni) (li : ni ≤ 1000) (hI : Ints w w.heap.size Ai inp) (hm : vals.length = m) (lm : m ≤ 1000) (hV : Ints w w.heap.size F vals) :
    Calls Tryz.prog 13 #[.agg #[.int .i64 1, .int .i64 arg, .int .i64 wk], .slice Ai ni ci, .slice F m d] w fun e w' => e = .returned (.int .i64 (foldV 1 (noneV 1 arg inp) vals)) ∧ Below w.heap.size w w' := by
  have hf : foldV 1 (noneV 1 arg inp) vals = val32 arg := by
    rw [show noneV 1 arg inp = val32 arg from rfl]
    exact foldV_keep1 vals _
  rw [hf]
  clear hf hI hV hi hm
  go_enter Tryz.func13, Tryz.ntmps13
  go_wp2_with fail
  refine (round8_any arg _).mono ?_
  rintro e w1 ⟨rfl, rfl⟩
  go_wp2
  go_ret
  exact ⟨rfl, below_alloc _⟩
set_option maxRecDepth 100000 in
set_option maxHeartbeats 4000000 in
theorem rop_2 (arg wk : Int) (Ai : Option Addr) (ni ci : Nat) (inp : List Int) (F : Option Addr) (m d : Nat) (vals : List Int) (w : World) (h1 : -9223372036854775808 ≤ arg) (h2 : arg ≤ 9223372036854775807) (hi : inp.length = ni) (li : ni ≤ 1000) (hI : Ints w w.heap.size Ai inp) (hm : vals.length = m) (lm : m ≤ 1000) (hV : Ints w w.heap.size F vals) :
    Calls Tryz.prog 13 #[.agg #[.int .i64 2, .int .i64 arg, .int .i64 wk], .slice Ai ni ci, .slice F m d] w fun e w' => e = .returned (.int .i64 (foldV 2 0 vals)) ∧ Below w.heap.size w w' := by
  have HV := Lib.hid hV
  have HM := Lib.hid hm
  clear hI hi hV hm h1 h2
  go_enter Tryz.func13, Tryz.ntmps13
  go_wp2
  go_loopw [7, 8] (fun g i wr => ∃ (j : Nat) (f : Int), j ≤ m ∧ i = .int .i64 j ∧ g = .int .i64 f ∧ Hid (f = foldV 2 0 (vals.take j)) ∧ wr = w.alloc (.cells #[.int .i64 2, .int .i64 arg, .int .i64 wk] 24)) (fun _ i _ => m - (intOf i).toNat)
  case atStart => exact ⟨0, 0, Nat.zero_le _, rfl, rfl, Lib.hid rfl, rfl⟩
  case round =>
    obtain ⟨j, f, hj, rfl, rfl, HF, rfl⟩ := hrel
    by_cases hlt : j < m
    · obtain ⟨bk, o, z, rfl, hbg, hzj, hc1⟩ := HV.out.at_ (k := j) (by rw [HM.out]; exact hlt)
      have HST := Lib.hid (foldV_take (op := 2) (a := 0) hzj)
      rw [← HF.out] at HST
      have hf2 : 0 ≤ f ∧ f < 4294967296 := by rw [HF.out]; exact foldV_in _ (by decide)
      have hv2 := val32_in z
      obtain ⟨v, hv⟩ : ∃ v, v = val32 z := ⟨_, rfl⟩
      have HVZ := Lib.hid hv
      rw [← hv] at hv2 HST
      clear hzj hv
      go_wp2_with fail
      refine (round8_any z _).mono ?_
      rintro e w1 ⟨rfl, rfl⟩
      rw [← HVZ.out]
      go_wp2_with fail
      refine (round8_any (f + v) _).mono ?_
      rintro e w2 ⟨rfl, rfl⟩
      rw [show val32 (f + v) = stepV 2 f v from rfl]
      clear hc1 hbg
      go_wp2
      go_roundw
      case rel => exact ⟨j + 1, stepV 2 f v, by omega, by go_num, rfl, Lib.hid HST.out.symm, trivial⟩
      case measure => simp [intOf]; omega
    · obtain rfl : m = j := by omega
      have hF := HF.out
      rw [List.take_of_length_le (by rw [HM.out]; exact Nat.le_refl _)] at hF
      have HFF := Lib.hid hF
      clear hF HF
      go_wp2
      go_ret
      exact ⟨by rw [← HFF.out]; rfl, below_alloc _⟩
set_option maxRecDepth 100000 in
set_option maxHeartbeats 4000000 in
theorem rop_3 (arg wk : Int) (Ai : Option Addr) (ni ci : Nat) (inp : List Int) (F : Option Addr) (m d : Nat) (vals : List Int) (w : World) (h1 : -9223372036854775808 ≤ arg) (h2 : arg ≤ 9223372036854775807) (hi : inp.length = ni) (li : ni ≤ 1000) (hI : Ints w w.heap.size Ai inp) (hm : vals.length = m) (lm : m ≤ 1000) (hV : Ints w w.heap.size F vals) :
    Calls Tryz.prog 13 #[.agg #[.int .i64 3, .int .i64 arg, .int .i64 wk], .slice Ai ni ci, .slice F m d] w fun e w' => e = .returned (.int .i64 (foldV 3 1 vals)) ∧ Below w.heap.size w w' := by
  have HV := Lib.hid hV
  have HM := Lib.hid hm
  clear hI hi hV hm h1 h2
  go_enter Tryz.func13, Tryz.ntmps13
  go_wp2
  go_loopw [7, 8] (fun g i wr => ∃ (j : Nat) (f : Int), j ≤ m ∧ i = .int .i64 j ∧ g = .int .i64 f ∧ Hid (f = foldV 3 1 (vals.take j)) ∧ wr = w.alloc (.cells #[.int .i64 3, .int .i64 arg, .int .i64 wk] 24)) (fun _ i _ => m - (intOf i).toNat)
  case atStart => exact ⟨0, 1, Nat.zero_le _, rfl, rfl, Lib.hid rfl, rfl⟩
  case round =>
    obtain ⟨j, f, hj, rfl, rfl, HF, rfl⟩ := hrel
    by_cases hlt : j < m
    · obtain ⟨bk, o, z, rfl, hbg, hzj, hc1⟩ := HV.out.at_ (k := j) (by rw [HM.out]; exact hlt)
      have HST := Lib.hid (foldV_take (op := 3) (a := 1) hzj)
      rw [← HF.out] at HST
      have hf2 : 0 ≤ f ∧ f < 4294967296 := by rw [HF.out]; exact foldV_in _ (by decide)
      have hv2 := val32_in z
      obtain ⟨v, hv⟩ : ∃ v, v = val32 z := ⟨_, rfl⟩
      have HVZ := Lib.hid hv
      rw [← hv] at hv2 HST
      clear hzj hv
      go_wp2_with fail
      refine (round8_any z _).mono ?_
      rintro e w1 ⟨rfl, rfl⟩
      rw [← HVZ.out]
      go_wp2_with fail
      refine (times8_any f v hf2 hv2 _).mono ?_
      rintro e w2 ⟨rfl, rfl⟩
      rw [show (f * v) % 4294967296 = stepV 3 f v from rfl]
      clear hc1 hbg
      go_wp2
      go_roundw
      case rel => exact ⟨j + 1, stepV 3 f v, by omega, by go_num, rfl, Lib.hid HST.out.symm, trivial⟩
      case measure => simp [intOf]; omega
    · obtain rfl : m = j := by omega
      have hF := HF.out
      rw [List.take_of_length_le (by rw [HM.out]; exact Nat.le_refl _)] at hF
      have HFF := Lib.hid hF
      clear hF HF
      go_wp2
      go_ret
      exact ⟨by rw [← HFF.out]; rfl, below_alloc _⟩
set_option maxRecDepth 100000 in
set_option maxHeartbeats 4000000 in
theorem rop_4 (arg wk : Int) (Ai : Option Addr) (ni ci : Nat) (inp : List Int) (F : Option Addr) (m d : Nat) (vals : List Int) (w : World) (h1 : -9223372036854775808 ≤ arg) (h2 : arg ≤ 9223372036854775807) (hi : inp.length = ni) (li : ni ≤ 1000) (hI : Ints w w.heap.size Ai inp) (hm : vals.length = m) (lm : m ≤ 1000) (hV : Ints w w.heap.size F vals) :
    Calls Tryz.prog 13 #[.agg #[.int .i64 4, .int .i64 arg, .int .i64 wk], .slice Ai ni ci, .slice F m d] w fun e w' => e = .returned (.int .i64 (foldV 4 0 vals)) ∧ Below w.heap.size w w' := by
  have HV := Lib.hid hV
  have HM := Lib.hid hm
  clear hI hi hV hm h1 h2
  go_enter Tryz.func13, Tryz.ntmps13
  go_wp2
  go_loopw [7, 8] (fun g i wr => ∃ (j : Nat) (f : Int), j ≤ m ∧ i = .int .i64 j ∧ g = .int .i64 f ∧ Hid (f = foldV 4 0 (vals.take j)) ∧ wr = w.alloc (.cells #[.int .i64 4, .int .i64 arg, .int .i64 wk] 24)) (fun _ i _ => m - (intOf i).toNat)
  case atStart => exact ⟨0, 0, Nat.zero_le _, rfl, rfl, Lib.hid rfl, rfl⟩
  case round =>
    obtain ⟨j, f, hj, rfl, rfl, HF, rfl⟩ := hrel
    by_cases hlt : j < m
    · obtain ⟨bk, o, z, rfl, hbg, hzj, hc1⟩ := HV.out.at_ (k := j) (by rw [HM.out]; exact hlt)
      have HST := Lib.hid (foldV_take (op := 4) (a := 0) hzj)
      rw [← HF.out] at HST
      have hf2 : 0 ≤ f ∧ f < 4294967296 := by rw [HF.out]; exact foldV_in _ (by decide)
      have hv2 := val32_in z
      obtain ⟨v, hv⟩ : ∃ v, v = val32 z := ⟨_, rfl⟩
      have HVZ := Lib.hid hv
      rw [← hv] at hv2 HST
      clear hzj hv
      go_wp2_with fail
      refine (round8_any z _).mono ?_
      rintro e w1 ⟨rfl, rfl⟩
      rw [← HVZ.out]
      have HST2 : Hid (foldV 4 0 (vals.take (j + 1)) = max f v) := HST
      clear hc1 hbg HST
      have HX : Hid ((if f < v then v else f) = foldV 4 0 (vals.take (j + 1))) := Lib.hid (by rw [HST2.out]; split <;> omega)
      have HXM : Hid (max f v = foldV 4 0 (vals.take (j + 1))) := Lib.hid HST2.out.symm
      go_wp2
      go_roundw
      case rel => first
        | exact ⟨j + 1, _, by omega, by go_num, rfl, HX, trivial⟩
        | exact ⟨j + 1, _, by omega, by go_num, rfl, HXM, trivial⟩
      case measure => simp [intOf]; omega
    · obtain rfl : m = j := by omega
      have hF := HF.out
      rw [List.take_of_length_le (by rw [HM.out]; exact Nat.le_refl _)] at hF
      have HFF := Lib.hid hF
      clear hF HF
      go_wp2
      go_ret
      exact ⟨by rw [← HFF.out]; rfl, below_alloc _⟩
set_option maxRecDepth 100000 in
set_option maxHeartbeats 4000000 in
theorem rop_5 (arg wk : Int) (Ai : Option Addr) (ni ci : Nat) (inp : List Int) (F : Option Addr) (m d : Nat) (vals : List Int) (w : World) (h1 : -9223372036854775808 ≤ arg) (h2 : arg ≤ 9223372036854775807) (hi : inp.length = ni) (li : ni ≤ 1000) (hI : Ints w w.heap.size Ai inp) (hm : vals.length = m) (lm : m ≤ 1000) (hV : Ints w w.heap.size F vals) :
    Calls Tryz.prog 13 #[.agg #[.int .i64 5, .int .i64 arg, .int .i64 wk], .slice Ai ni ci, .slice F m d] w fun e w' => e = .returned (.int .i64 (foldV 5 7 vals)) ∧ Below w.heap.size w w' := by
  have HV := Lib.hid hV
  have HM := Lib.hid hm
  clear hI hi hV hm h1 h2
  go_enter Tryz.func13, Tryz.ntmps13
  go_wp2
  go_loopw [7, 8] (fun g i wr => ∃ (j : Nat) (f : Int), j ≤ m ∧ i = .int .i64 j ∧ g = .int .i64 f ∧ Hid (f = foldV 5 7 (vals.take j)) ∧ wr = w.alloc (.cells #[.int .i64 5, .int .i64 arg, .int .i64 wk] 24)) (fun _ i _ => m - (intOf i).toNat)
  case atStart => exact ⟨0, 7, Nat.zero_le _, rfl, rfl, Lib.hid rfl, rfl⟩
  case round =>
    obtain ⟨j, f, hj, rfl, rfl, HF, rfl⟩ := hrel
    by_cases hlt : j < m
    · obtain ⟨bk, o, z, rfl, hbg, hzj, hc1⟩ := HV.out.at_ (k := j) (by rw [HM.out]; exact hlt)
      have HST := Lib.hid (foldV_take (op := 5) (a := 7) hzj)
      rw [← HF.out] at HST
      have hf2 : 0 ≤ f ∧ f < 4294967296 := by rw [HF.out]; exact foldV_in _ (by decide)
      have hv2 := val32_in z
      obtain ⟨v, hv⟩ : ∃ v, v = val32 z := ⟨_, rfl⟩
      have HVZ := Lib.hid hv
      rw [← hv] at hv2 HST
      clear hzj hv
      go_wp2_with fail
      refine (round8_any z _).mono ?_
      rintro e w1 ⟨rfl, rfl⟩
      rw [← HVZ.out]
      go_wp2_with fail
      refine (round8_any (f * 31 + v) _).mono ?_
      rintro e w2 ⟨rfl, rfl⟩
      rw [show val32 (f * 31 + v) = stepV 5 f v by unfold val32 stepV; rw [if_neg (by decide), if_neg (by decide), if_neg (by decide), if_pos rfl, Int.mul_comm]]
      clear hc1 hbg
      go_wp2
      go_roundw
      case rel => exact ⟨j + 1, stepV 5 f v, by omega, by go_num, rfl, Lib.hid HST.out.symm, trivial⟩
      case measure => simp [intOf]; omega
    · obtain rfl : m = j := by omega
      have hF := HF.out
      rw [List.take_of_length_le (by rw [HM.out]; exact Nat.le_refl _)] at hF
      have HFF := Lib.hid hF
      clear hF HF
      go_wp2
      go_ret
      exact ⟨by rw [← HFF.out]; rfl, below_alloc _⟩
set_option maxRecDepth 100000 in
set_option maxHeartbeats 4000000 in
theorem rop_bad (op : Int) (hop : op < 0 ∨ 5 < op) (arg wk : Int) (Ai : Option Addr) (ni ci : Nat) (inp : List Int) (F : Option Addr) (m d : Nat) (vals : List Int) (w : World) (h1 : -9223372036854775808 ≤ arg) (h2 : arg ≤ 9223372036854775807) (hi : inp.length = ni) (li : ni ≤ 1000) (hI : Ints w w.heap.size Ai inp) (hm : vals.length = m) (lm : m ≤ 1000) (hV : Ints w w.heap.size F vals) :
    Calls Tryz.prog 13 #[.agg #[.int .i64 op, .int .i64 arg, .int .i64 wk], .slice Ai ni ci, .slice F m d] w fun e w' => e = .returned (.int .i64 0) ∧ Below w.heap.size w w' := by
  have k0 : (op == 0) = false := by rw [beq_eq_false_iff_ne]; omega
  have k1 : (op == 1) = false := by rw [beq_eq_false_iff_ne]; omega
  clear hI hV hi hm h1 h2
  by_cases h : op < 0
  · have hd : decide (op < 0) = true := decide_eq_true h
    go_enter Tryz.func13, Tryz.ntmps13
    go_wp2
    go_ret
    exact ⟨rfl, below_alloc _⟩
  · have hd : decide (op < 0) = false := decide_eq_false h
    have hd2 : decide (5 < op) = true := decide_eq_true (by omega)
    go_enter Tryz.func13, Tryz.ntmps13
    go_wp2
    go_ret
    exact ⟨rfl, below_alloc _⟩
theorem rop_any (op : Int) (arg wk : Int) (Ai : Option Addr) (ni ci : Nat) (inp : List Int) (F : Option Addr) (m d : Nat) (vals : List Int) (w : World) (h1 : -9223372036854775808 ≤ arg) (h2 : arg ≤ 9223372036854775807) (hi : inp.length = ni) (li : ni ≤ 1000) (hI : Ints w w.heap.size Ai inp) (hm : vals.length = m) (lm : m ≤ 1000) (hV : Ints w w.heap.size F vals) :
    Calls Tryz.prog 13 #[.agg #[.int .i64 op, .int .i64 arg, .int .i64 wk], .slice Ai ni ci, .slice F m d] w fun e w' => e = .returned (.int .i64 (comeV op arg inp vals)) ∧ Below w.heap.size w w' := by
  unfold comeV
  by_cases h : 0 ≤ op ∧ op ≤ 5
  · rw [if_pos h]
    obtain rfl | rfl | rfl | rfl | rfl | rfl : op = 0 ∨ op = 1 ∨ op = 2 ∨ op = 3 ∨ op = 4 ∨ op = 5 := by omega
    · exact rop_0 arg wk Ai ni ci inp F m d vals w h1 h2 hi li hI hm lm hV
    · exact rop_1 arg wk Ai ni ci inp F m d vals w h1 h2 hi li hI hm lm hV
    · exact rop_2 arg wk Ai ni ci inp F m d vals w h1 h2 hi li hI hm lm hV
    · exact rop_3 arg wk Ai ni ci inp F m d vals w h1 h2 hi li hI hm lm hV
    · exact rop_4 arg wk Ai ni ci inp F m d vals w h1 h2 hi li hI hm lm hV
    · exact rop_5 arg wk Ai ni ci inp F m d vals w h1 h2 hi li hI hm lm hV
  · rw [if_neg h]
    exact rop_bad op (by omega) arg wk Ai ni ci inp F m d vals w h1 h2 hi li hI hm lm hV
end Go.Proofs.YtecjpclkiiaidaaGreatDoor
