/- Op of trefoilref08 in the seat YtkmajhbfmdoamaaGreatDoor: its contract.
   Op of trefoilref08 in the seat YtkmajhbfmdoamaaGreatDoor, way by way (printed by eval/mk_refop.py).
   trefoilref08.Finish in the seat YtkmajhbfmdoamaaGreatDoor: its contract (printed by eval/mk_reffin.py).
   No statement is proved here. -/
import Derived.Test.YtkmajhbfmdoamaaGreatDoorZM27
import Derived.Test.YtkmajhbfmdoamaaGreatDoorZM3
import Derived.Test.YtkmajhbfmdoamaaGreatDoorZM36
import Derived.Test.YtkmajhbfmdoamaaGreatDoorZEvalFinish
import Derived.Test.YtkmajhbfmdoamaaGreatDoorZM31
set_option linter.unusedSimpArgs false
set_option linter.unusedVariables false
namespace Go.Proofs.YtkmajhbfmdoamaaGreatDoor
open Go.RowKit

theorem foldV_keep : ∀ (l : List Int) (a : Int), l.foldl (fun a v => stepV 0 a (val32 v)) a = a
  | [], _ => rfl
  | _ :: l, a => foldV_keep l a
theorem foldV_keep1 : ∀ (l : List Int) (a : Int), foldV 1 a l = a
  | [], _ => rfl
  | _ :: l, a => foldV_keep1 l a
theorem tmod_val (n : Int) : (if n.tmod 4294967296 < 0 then n.tmod 4294967296 + 4294967296 else n.tmod 4294967296) = val32 n := by
  unfold val32
  rw [Int.tmod_eq_emod]
  by_cases h : 0 ≤ n ∨ (4294967296 : Int) ∣ n
  · rw [if_pos h, if_neg (by omega)]
    omega
  · rw [if_neg h, show ((Int.natAbs 4294967296 : Nat) : Int) = 4294967296 from rfl]
    have h2 : n % 4294967296 ≠ 0 := fun e => h (.inr (Int.dvd_of_emod_eq_zero e))
    rw [if_pos (by omega)]
    omega
theorem half_val {a b : Int} (ha : 0 ≤ a ∧ a < 4294967296) (hb : 0 ≤ b ∧ b < 4294967296) : val32 (val32 (a / 65536 * b) % 65536 * 65536 + a % 65536 * b) = (a * b) % 4294967296 := by
  unfold val32
  have e1 : a * b = a / 65536 * b * 65536 + a % 65536 * b := by
    have h := Int.mul_ediv_add_emod a 65536
    have : a * b = (65536 * (a / 65536) + a % 65536) * b := by rw [h]
    rw [this, Int.add_mul]
    congr 1
    rw [Int.mul_comm 65536, Int.mul_assoc, Int.mul_comm 65536, ← Int.mul_assoc]
  rw [e1]
  generalize a / 65536 * b = x
  generalize a % 65536 * b = y
  omega
theorem tmod8_in (n : Int) : -4294967296 < n.tmod 4294967296 ∧ n.tmod 4294967296 < 4294967296 := by
  rw [Int.tmod_eq_emod]
  split
  · omega
  · rw [show ((Int.natAbs 4294967296 : Nat) : Int) = 4294967296 from rfl]
    omega
set_option maxRecDepth 100000 in
theorem round8_any (n : Int) (w : World) : Calls Tryz.prog 45 #[.int .i64 n] w fun e w' => e = .returned (.int .i64 (val32 n)) ∧ w = w' := by
  have h := tmod_val n
  have hb := tmod8_in n
  obtain ⟨v, hv⟩ : ∃ v, v = val32 n := ⟨_, rfl⟩
  rw [← hv] at h ⊢
  have HH := Lib.hid h
  have hw := IntWalk.wrap64_in (n.tmod 4294967296 + 4294967296) ⟨by omega, by omega⟩
  clear h hv hb
  go_enter Tryz.func45, Tryz.ntmps45
  go_wp2
  · go_ret
    rename_i h
    have hh := HH.out
    rw [if_pos h] at hh
    exact ⟨by rw [hw, ← hh]; rfl, rfl⟩
  · go_ret
    rename_i h
    have hh := HH.out
    rw [if_neg (by omega)] at hh
    exact ⟨by rw [← hh]; rfl, rfl⟩
set_option maxRecDepth 100000 in
theorem times8_any (a b : Int) (ha : 0 ≤ a ∧ a < 4294967296) (hb : 0 ≤ b ∧ b < 4294967296) (w : World) : Calls Tryz.prog 46 #[.int .i64 a, .int .i64 b] w fun e w' => e = .returned (.int .i64 ((a * b) % 4294967296)) ∧ w = w' := by
  have h := half_val ha hb
  obtain ⟨v, hv⟩ : ∃ v, v = (a * b) % 4294967296 := ⟨_, rfl⟩
  rw [← hv] at h ⊢
  have hq : a.tdiv 65536 = a / 65536 := Int.tdiv_eq_ediv_of_nonneg ha.1
  have hr : a.tmod 65536 = a % 65536 := Int.tmod_eq_emod_of_nonneg ha.1
  obtain ⟨x, hx⟩ : ∃ x, x = a / 65536 := ⟨_, rfl⟩
  obtain ⟨y, hy⟩ : ∃ y, y = a % 65536 := ⟨_, rfl⟩
  rw [← hx] at hq h
  rw [← hy] at hr h
  have hx2 : 0 ≤ x ∧ x < 65536 := by omega
  have hy2 : 0 ≤ y ∧ y < 65536 := by omega
  obtain ⟨p, hp⟩ : ∃ p, x * b = p := ⟨_, rfl⟩
  obtain ⟨q, hq2⟩ : ∃ q, y * b = q := ⟨_, rfl⟩
  have hp2 : 0 ≤ p ∧ p < 281474976710656 := by
    rw [← hp]
    refine ⟨Int.mul_nonneg hx2.1 hb.1, ?_⟩
    have h1 : x * b ≤ 65535 * b := Int.mul_le_mul_of_nonneg_right (by omega) hb.1
    omega
  have hq3 : 0 ≤ q ∧ q < 281474976710656 := by
    rw [← hq2]
    refine ⟨Int.mul_nonneg hy2.1 hb.1, ?_⟩
    have h1 : y * b ≤ 65535 * b := Int.mul_le_mul_of_nonneg_right (by omega) hb.1
    omega
  rw [hp, hq2] at h
  have HH := Lib.hid h
  clear h hv hx hy
  go_enter Tryz.func46, Tryz.ntmps46
  go_wp2_with fail
  refine (round8_any p w).mono ?_
  rintro e w1 ⟨rfl, rfl⟩
  have hu := val32_in p
  obtain ⟨u, hu2⟩ : ∃ u, u = val32 p := ⟨_, rfl⟩
  rw [← hu2] at hu HH ⊢
  have hur : u.tmod 65536 = u % 65536 := Int.tmod_eq_emod_of_nonneg hu.1
  obtain ⟨z, hz⟩ : ∃ z, z = u % 65536 := ⟨_, rfl⟩
  rw [← hz] at hur HH
  have hz2 : 0 ≤ z ∧ z < 65536 := by omega
  clear hu2 hz
  go_wp2_with fail
  refine (round8_any (z * 65536 + q) w).mono ?_
  rintro e w1 ⟨rfl, rfl⟩
  rw [HH.out]
  go_wp2
  go_ret
  exact ⟨rfl, rfl⟩
end Go.Proofs.YtkmajhbfmdoamaaGreatDoor
set_option linter.unusedVariables false
namespace Go.Proofs.YtkmajhbfmdoamaaGreatDoor
open Go.RowKit

set_option maxRecDepth 100000 in
set_option maxHeartbeats 4000000 in
theorem rop8_0 (arg wk : Int) (Ai : Option Addr) (ni ci : Nat) (inp : List Int) (F : Option Addr) (m d : Nat) (vals : List Int) (w : World) (hi : inp.length = ni) (li : ni ≤ 1000) (hI : Ints w w.heap.size Ai inp) (hm : vals.length = m) (lm : m ≤ 1000) (hV : Ints w w.heap.size F vals) :
    Calls Tryz.prog 29 #[.agg #[.int .i64 0, .int .i64 arg, .int .i64 wk], .slice Ai ni ci, .slice F m d] w fun e w' => e = .returned (.int .i64 (foldV 0 (noneV 0 arg inp) vals)) ∧ Below w.heap.size w w' := by
  have hf : foldV 0 (noneV 0 arg inp) vals = noneV 0 arg inp := by
    unfold foldV
    exact foldV_keep vals _
  rw [hf]
  by_cases h0 : arg < 0
  · have hn : noneV 0 arg inp = 0 := by unfold noneV; rw [if_pos rfl, if_neg (by omega)]
    rw [hn]
    have h0d : decide (arg < 0) = true := decide_eq_true h0
    clear hf hn hI hV hi hm
    go_enter Tryz.func29, Tryz.ntmps29
    go_wp2
    go_ret
    exact ⟨rfl, below_alloc _⟩
  · obtain ⟨x, rfl⟩ : ∃ x : Nat, arg = x := ⟨arg.toNat, by omega⟩
    have h0d : decide ((x : Int) < 0) = false := decide_eq_false h0
    by_cases hx : ni ≤ x
    · have hn : noneV 0 x inp = 0 := by
        unfold noneV
        rw [if_pos rfl, if_pos (by omega), Int.toNat_natCast, List.getD_eq_getElem?_getD, List.getElem?_eq_none (by omega)]
        rfl
      rw [hn]
      have h1d : decide ((ni : Int) ≤ (x : Int)) = true := decide_eq_true (by omega)
      have h1e : decide (ni ≤ x) = true := decide_eq_true hx
      clear hf hn hI hV hi hm
      go_enter Tryz.func29, Tryz.ntmps29
      go_wp2
      go_ret
      exact ⟨rfl, below_alloc _⟩
    · have h1d : decide ((ni : Int) ≤ (x : Int)) = false := decide_eq_false (by omega)
      have h1e : decide (ni ≤ x) = false := decide_eq_false hx
      have hxn : x < ni := by omega
      obtain ⟨bk, o, z, rfl, hbg, hzj, hc1⟩ := hI.at_ (k := x) (by rw [hi]; exact hxn)
      have hn : noneV 0 x inp = val32 z := by
        unfold noneV
        rw [if_pos rfl, if_pos (by omega), Int.toNat_natCast, List.getD_eq_getElem?_getD, hzj]
        rfl
      rw [hn]
      clear hf hn hI hV hi hm hzj
      go_enter Tryz.func29, Tryz.ntmps29
      go_wp2_with fail
      refine (round8_any z _).mono ?_
      rintro e w1 ⟨rfl, rfl⟩
      go_wp2
      go_ret
      exact ⟨rfl, below_alloc _⟩
set_option maxRecDepth 100000 in
set_option maxHeartbeats 4000000 in
theorem rop8_1 (arg wk : Int) (Ai : Option Addr) (ni ci : Nat) (inp : List Int) (F : Option Addr) (m d : Nat) (vals : List Int) (w : World) (hi : inp.length = ni) (li : ni ≤ 1000) (hI : Ints w w.heap.size Ai inp) (hm : vals.length = m) (lm : m ≤ 1000) (hV : Ints w w.heap.size F vals) :
    Calls Tryz.prog 29 #[.agg #[.int .i64 1, .int .i64 arg, .int .i64 wk], .slice Ai ni ci, .slice F m d] w fun e w' => e = .returned (.int .i64 (foldV 1 (noneV 1 arg inp) vals)) ∧ Below w.heap.size w w' := by
  have hf : foldV 1 (noneV 1 arg inp) vals = val32 arg := by
    rw [show noneV 1 arg inp = val32 arg from rfl]
    exact foldV_keep1 vals _
  rw [hf]
  clear hf hI hV hi hm
  go_enter Tryz.func29, Tryz.ntmps29
  go_wp2_with fail
  refine (round8_any arg _).mono ?_
  rintro e w1 ⟨rfl, rfl⟩
  go_wp2
  go_ret
  exact ⟨rfl, below_alloc _⟩
set_option maxRecDepth 100000 in
set_option maxHeartbeats 4000000 in
theorem rop8_2 (arg wk : Int) (Ai : Option Addr) (ni ci : Nat) (inp : List Int) (F : Option Addr) (m d : Nat) (vals : List Int) (w : World) (hi : inp.length = ni) (li : ni ≤ 1000) (hI : Ints w w.heap.size Ai inp) (hm : vals.length = m) (lm : m ≤ 1000) (hV : Ints w w.heap.size F vals) :
    Calls Tryz.prog 29 #[.agg #[.int .i64 2, .int .i64 arg, .int .i64 wk], .slice Ai ni ci, .slice F m d] w fun e w' => e = .returned (.int .i64 (foldV 2 0 vals)) ∧ Below w.heap.size w w' := by
  have HV := Lib.hid hV
  have HM := Lib.hid hm
  clear hI hi hV hm
  go_enter Tryz.func29, Tryz.ntmps29
  go_wp2
  go_loopw [7, 8] (fun g i wr => ∃ (j : Nat) (f : Int), j ≤ m ∧ i = .int .i64 j ∧ g = .int .i64 f ∧ Hid (f = foldV 2 0 (vals.take j)) ∧ wr = w.alloc (.cells #[.int .i64 2, .int .i64 arg, .int .i64 wk] 46)) (fun _ i _ => m - (intOf i).toNat)
  case atStart => exact ⟨0, 0, Nat.zero_le _, rfl, rfl, Lib.hid rfl, rfl⟩
  case round =>
    obtain ⟨j, f, hj, rfl, rfl, HF, rfl⟩ := hrel
    by_cases hlt : j < m
    · obtain ⟨bk, o, z, rfl, hbg, hzj, hc1⟩ := HV.out.at_ (k := j) (by rw [HM.out]; exact hlt)
      have HST := Lib.hid (foldV_take (op := 2) (a := 0) hzj)
      rw [← HF.out] at HST
      have hf2 : 0 ≤ f ∧ f < 4294967296 := by rw [HF.out]; exact foldV_in _ (by decide)
      have hv2 := val32_in z
      obtain ⟨v, hv⟩ : ∃ v, v = val32 z := ⟨_, rfl⟩
      have HVZ := Lib.hid hv
      rw [← hv] at hv2 HST
      clear hzj hv
      go_wp2_with fail
      refine (round8_any z _).mono ?_
      rintro e w1 ⟨rfl, rfl⟩
      rw [← HVZ.out]
      go_wp2_with fail
      refine (round8_any (f + v) _).mono ?_
      rintro e w2 ⟨rfl, rfl⟩
      rw [show val32 (f + v) = stepV 2 f v from rfl]
      clear hc1 hbg
      go_wp2
      go_roundw
      case rel => exact ⟨j + 1, stepV 2 f v, by omega, by go_num, rfl, Lib.hid HST.out.symm, trivial⟩
      case measure => simp [intOf]; omega
    · obtain rfl : m = j := by omega
      have hF := HF.out
      rw [List.take_of_length_le (by rw [HM.out]; exact Nat.le_refl _)] at hF
      have HFF := Lib.hid hF
      clear hF HF
      go_wp2
      go_ret
      exact ⟨by rw [← HFF.out]; rfl, below_alloc _⟩
set_option maxRecDepth 100000 in
set_option maxHeartbeats 4000000 in
theorem rop8_3 (arg wk : Int) (Ai : Option Addr) (ni ci : Nat) (inp : List Int) (F : Option Addr) (m d : Nat) (vals : List Int) (w : World) (hi : inp.length = ni) (li : ni ≤ 1000) (hI : Ints w w.heap.size Ai inp) (hm : vals.length = m) (lm : m ≤ 1000) (hV : Ints w w.heap.size F vals) :
    Calls Tryz.prog 29 #[.agg #[.int .i64 3, .int .i64 arg, .int .i64 wk], .slice Ai ni ci, .slice F m d] w fun e w' => e = .returned (.int .i64 (foldV 3 1 vals)) ∧ Below w.heap.size w w' := by
  have HV := Lib.hid hV
  have HM := Lib.hid hm
  clear hI hi hV hm
  go_enter Tryz.func29, Tryz.ntmps29
  go_wp2
  go_loopw [7, 8] (fun g i wr => ∃ (j : Nat) (f : Int), j ≤ m ∧ i = .int .i64 j ∧ g = .int .i64 f ∧ Hid (f = foldV 3 1 (vals.take j)) ∧ wr = w.alloc (.cells #[.int .i64 3, .int .i64 arg, .int .i64 wk] 46)) (fun _ i _ => m - (intOf i).toNat)
  case atStart => exact ⟨0, 1, Nat.zero_le _, rfl, rfl, Lib.hid rfl, rfl⟩
  case round =>
    obtain ⟨j, f, hj, rfl, rfl, HF, rfl⟩ := hrel
    by_cases hlt : j < m
    · obtain ⟨bk, o, z, rfl, hbg, hzj, hc1⟩ := HV.out.at_ (k := j) (by rw [HM.out]; exact hlt)
      have HST := Lib.hid (foldV_take (op := 3) (a := 1) hzj)
      rw [← HF.out] at HST
      have hf2 : 0 ≤ f ∧ f < 4294967296 := by rw [HF.out]; exact foldV_in _ (by decide)
      have hv2 := val32_in z
      obtain ⟨v, hv⟩ : ∃ v, v = val32 z := ⟨_, rfl⟩
      have HVZ := Lib.hid hv
      rw [← hv] at hv2 HST
      clear hzj hv
      go_wp2_with fail
      refine (round8_any z _).mono ?_
      rintro e w1 ⟨rfl, rfl⟩
      rw [← HVZ.out]
      go_wp2_with fail
      refine (times8_any f v hf2 hv2 _).mono ?_
      rintro e w2 ⟨rfl, rfl⟩
      rw [show (f * v) % 4294967296 = stepV 3 f v from rfl]
      clear hc1 hbg
      go_wp2
      go_roundw
      case rel => exact ⟨j + 1, stepV 3 f v, by omega, by go_num, rfl, Lib.hid HST.out.symm, trivial⟩
      case measure => simp [intOf]; omega
    · obtain rfl : m = j := by omega
      have hF := HF.out
      rw [List.take_of_length_le (by rw [HM.out]; exact Nat.le_refl _)] at hF
      have HFF := Lib.hid hF
      clear hF HF
      go_wp2
      go_ret
      exact ⟨by rw [← HFF.out]; rfl, below_alloc _⟩
set_option maxRecDepth 100000 in
set_option maxHeartbeats 4000000 in
theorem rop8_4 (arg wk : Int) (Ai : Option Addr) (ni ci : Nat) (inp : List Int) (F : Option Addr) (m d : Nat) (vals : List Int) (w : World) (hi : inp.length = ni) (li : ni ≤ 1000) (hI : Ints w w.heap.size Ai inp) (hm : vals.length = m) (lm : m ≤ 1000) (hV : Ints w w.heap.size F vals) :
    Calls Tryz.prog 29 #[.agg #[.int .i64 4, .int .i64 arg, .int .i64 wk], .slice Ai ni ci, .slice F m d] w fun e w' => e = .returned (.int .i64 (foldV 4 0 vals)) ∧ Below w.heap.size w w' := by
  have HV := Lib.hid hV
  have HM := Lib.hid hm
  clear hI hi hV hm
  go_enter Tryz.func29, Tryz.ntmps29
  go_wp2
  go_loopw [7, 8] (fun g i wr => ∃ (j : Nat) (f : Int), j ≤ m ∧ i = .int .i64 j ∧ g = .int .i64 f ∧ Hid (f = foldV 4 0 (vals.take j)) ∧ wr = w.alloc (.cells #[.int .i64 4, .int .i64 arg, .int .i64 wk] 46)) (fun _ i _ => m - (intOf i).toNat)
  case atStart => exact ⟨0, 0, Nat.zero_le _, rfl, rfl, Lib.hid rfl, rfl⟩
  case round =>
    obtain ⟨j, f, hj, rfl, rfl, HF, rfl⟩ := hrel
    by_cases hlt : j < m
    · obtain ⟨bk, o, z, rfl, hbg, hzj, hc1⟩ := HV.out.at_ (k := j) (by rw [HM.out]; exact hlt)
      have HST := Lib.hid (foldV_take (op := 4) (a := 0) hzj)
      rw [← HF.out] at HST
      have hf2 : 0 ≤ f ∧ f < 4294967296 := by rw [HF.out]; exact foldV_in _ (by decide)
      have hv2 := val32_in z
      obtain ⟨v, hv⟩ : ∃ v, v = val32 z := ⟨_, rfl⟩
      have HVZ := Lib.hid hv
      rw [← hv] at hv2 HST
      clear hzj hv
      go_wp2_with fail
      refine (round8_any z _).mono ?_
      rintro e w1 ⟨rfl, rfl⟩
      rw [← HVZ.out]
      have HST2 : Hid (foldV 4 0 (vals.take (j + 1)) = max f v) := HST
      clear hc1 hbg HST
      have HX : Hid ((if f < v then v else f) = foldV 4 0 (vals.take (j + 1))) := Lib.hid (by rw [HST2.out]; split <;> omega)
      have HXM : Hid (max f v = foldV 4 0 (vals.take (j + 1))) := Lib.hid HST2.out.symm
      go_wp2
      go_roundw
      case rel => first
        | exact ⟨j + 1, _, by omega, by go_num, rfl, HX, trivial⟩
        | exact ⟨j + 1, _, by omega, by go_num, rfl, HXM, trivial⟩
      case measure => simp [intOf]; omega
    · obtain rfl : m = j := by omega
      have hF := HF.out
      rw [List.take_of_length_le (by rw [HM.out]; exact Nat.le_refl _)] at hF
      have HFF := Lib.hid hF
      clear hF HF
      go_wp2
      go_ret
      exact ⟨by rw [← HFF.out]; rfl, below_alloc _⟩
set_option maxRecDepth 100000 in
set_option maxHeartbeats 4000000 in
theorem rop8_5 (arg wk : Int) (Ai : Option Addr) (ni ci : Nat) (inp : List Int) (F : Option Addr) (m d : Nat) (vals : List Int) (w : World) (hi : inp.length = ni) (li : ni ≤ 1000) (hI : Ints w w.heap.size Ai inp) (hm : vals.length = m) (lm : m ≤ 1000) (hV : Ints w w.heap.size F vals) :
    Calls Tryz.prog 29 #[.agg #[.int .i64 5, .int .i64 arg, .int .i64 wk], .slice Ai ni ci, .slice F m d] w fun e w' => e = .returned (.int .i64 (foldV 5 7 vals)) ∧ Below w.heap.size w w' := by
  have HV := Lib.hid hV
  have HM := Lib.hid hm
  clear hI hi hV hm
  go_enter Tryz.func29, Tryz.ntmps29
  go_wp2
  go_loopw [7, 8] (fun g i wr => ∃ (j : Nat) (f : Int), j ≤ m ∧ i = .int .i64 j ∧ g = .int .i64 f ∧ Hid (f = foldV 5 7 (vals.take j)) ∧ wr = w.alloc (.cells #[.int .i64 5, .int .i64 arg, .int .i64 wk] 46)) (fun _ i _ => m - (intOf i).toNat)
  case atStart => exact ⟨0, 7, Nat.zero_le _, rfl, rfl, Lib.hid rfl, rfl⟩
  case round =>
    obtain ⟨j, f, hj, rfl, rfl, HF, rfl⟩ := hrel
    by_cases hlt : j < m
    · obtain ⟨bk, o, z, rfl, hbg, hzj, hc1⟩ := HV.out.at_ (k := j) (by rw [HM.out]; exact hlt)
      have HST := Lib.hid (foldV_take (op := 5) (a := 7) hzj)
      rw [← HF.out] at HST
      have hf2 : 0 ≤ f ∧ f < 4294967296 := by rw [HF.out]; exact foldV_in _ (by decide)
      have hv2 := val32_in z
      obtain ⟨v, hv⟩ : ∃ v, v = val32 z := ⟨_, rfl⟩
      have HVZ := Lib.hid hv
      rw [← hv] at hv2 HST
      clear hzj hv
      go_wp2_with fail
      refine (round8_any z _).mono ?_
      rintro e w1 ⟨rfl, rfl⟩
      rw [← HVZ.out]
      go_wp2_with fail
      refine (round8_any (f * 31 + v) _).mono ?_
      rintro e w2 ⟨rfl, rfl⟩
      rw [show val32 (f * 31 + v) = stepV 5 f v by unfold val32 stepV; rw [if_neg (by decide), if_neg (by decide), if_neg (by decide), if_pos rfl, Int.mul_comm]]
      clear hc1 hbg
      go_wp2
      go_roundw
      case rel => exact ⟨j + 1, stepV 5 f v, by omega, by go_num, rfl, Lib.hid HST.out.symm, trivial⟩
      case measure => simp [intOf]; omega
    · obtain rfl : m = j := by omega
      have hF := HF.out
      rw [List.take_of_length_le (by rw [HM.out]; exact Nat.le_refl _)] at hF
      have HFF := Lib.hid hF
      clear hF HF
      go_wp2
      go_ret
      exact ⟨by rw [← HFF.out]; rfl, below_alloc _⟩
set_option maxRecDepth 100000 in
set_option maxHeartbeats 4000000 in
theorem rop8_bad (op : Int) (hop : op < 0 ∨ 5 < op) (arg wk : Int) (Ai : Option Addr) (ni ci : Nat) (inp : List Int) (F : Option Addr) (m d : Nat) (vals : List Int) (w : World) (hi : inp.length = ni) (li : ni ≤ 1000) (hI : Ints w w.heap.size Ai inp) (hm : vals.length = m) (lm : m ≤ 1000) (hV : Ints w w.heap.size F vals) :
    Calls Tryz.prog 29 #[.agg #[.int .i64 op, .int .i64 arg, .int .i64 wk], .slice Ai ni ci, .slice F m d] w fun e w' => e = .returned (.int .i64 0) ∧ Below w.heap.size w w' := by
  have k0 : (op == 0) = false := by rw [beq_eq_false_iff_ne]; omega
  have k1 : (op == 1) = false := by rw [beq_eq_false_iff_ne]; omega
  clear hI hV hi hm
  by_cases h : op < 0
  · have hd : decide (op < 0) = true := decide_eq_true h
    go_enter Tryz.func29, Tryz.ntmps29
    go_wp2
    go_ret
    exact ⟨rfl, below_alloc _⟩
  · have hd : decide (op < 0) = false := decide_eq_false h
    have hd2 : decide (5 < op) = true := decide_eq_true (by omega)
    go_enter Tryz.func29, Tryz.ntmps29
    go_wp2
    go_ret
    exact ⟨rfl, below_alloc _⟩
theorem rop8_any (op : Int) (arg wk : Int) (Ai : Option Addr) (ni ci : Nat) (inp : List Int) (F : Option Addr) (m d : Nat) (vals : List Int) (w : World) (hi : inp.length = ni) (li : ni ≤ 1000) (hI : Ints w w.heap.size Ai inp) (hm : vals.length = m) (lm : m ≤ 1000) (hV : Ints w w.heap.size F vals) :
    Calls Tryz.prog 29 #[.agg #[.int .i64 op, .int .i64 arg, .int .i64 wk], .slice Ai ni ci, .slice F m d] w fun e w' => e = .returned (.int .i64 (comeV op arg inp vals)) ∧ Below w.heap.size w w' := by
  unfold comeV
  by_cases h : 0 ≤ op ∧ op ≤ 5
  · rw [if_pos h]
    obtain rfl | rfl | rfl | rfl | rfl | rfl : op = 0 ∨ op = 1 ∨ op = 2 ∨ op = 3 ∨ op = 4 ∨ op = 5 := by omega
    · exact rop8_0 arg wk Ai ni ci inp F m d vals w hi li hI hm lm hV
    · exact rop8_1 arg wk Ai ni ci inp F m d vals w hi li hI hm lm hV
    · exact rop8_2 arg wk Ai ni ci inp F m d vals w hi li hI hm lm hV
    · exact rop8_3 arg wk Ai ni ci inp F m d vals w hi li hI hm lm hV
    · exact rop8_4 arg wk Ai ni ci inp F m d vals w hi li hI hm lm hV
    · exact rop8_5 arg wk Ai ni ci inp F m d vals w hi li hI hm lm hV
  · rw [if_neg h]
    exact rop8_bad op (by omega) arg wk Ai ni ci inp F m d vals w hi li hI hm lm hV
end Go.Proofs.YtkmajhbfmdoamaaGreatDoor
set_option linter.unusedVariables false
set_option linter.unusedSimpArgs false
namespace Go.Proofs.YtkmajhbfmdoamaaGreatDoor
open Go Go.RowKit

def PhiFc (w0 wC : World) (A : Option Addr) (c : Nat) (F : Option Addr) (d : Nat) (D : List Bool) (V : List Int) : Nat → Value → World → Prop
  | 0, v, w => NewRow 4 w wC.heap.size v
  | 1, v, w => v = .pointer (some ⟨w0.heap.size + 1, 0, none⟩)
  | 2, v, w => v = .slice A D.length c
  | 3, v, w => OwnZ w wC.heap.size v D
  | 4, v, w => NewRow 3 w wC.heap.size v
  | 5, v, w => v = .pointer (some ⟨w0.heap.size + 1, 1, none⟩)
  | 6, v, w => v = .slice F V.length d
  | 7, v, w => OwnI w wC.heap.size v V
  | 8, v, w => ∃ A' c' F' d', v = .agg #[.slice A' D.length c', .slice F' V.length d'] ∧ OwnZ w wC.heap.size (.slice A' D.length c') D ∧ OwnI w wC.heap.size (.slice F' V.length d') V
  | 9, v, w => ∃ g, v = .pointer (some ⟨g, 0, none⟩) ∧ w.heap[g]? = some (.cells #[.slice none 0 0, .slice none 0 0] 31 (0, 0)) ∧ wC.heap.size ≤ g
  | 10, v, w => True
  | _, _, _ => True
theorem phiFc_below (w0 wC : World) (A : Option Addr) (c : Nat) (F : Option Addr) (d : Nat) (D : List Bool) (V : List Int) : ∀ kq v w w', PhiFc w0 wC A c F d D V kq v w → Below w.heap.size w w' → PhiFc w0 wC A c F d D V kq v w' := by
  intro kq v w w' h hb
  match kq, h with
  | 0, h => exact NewRow.below h hb
  | 1, h => exact h
  | 2, h => exact h
  | 3, h => exact own_below h hb
  | 4, h => exact NewRow.below h hb
  | 5, h => exact h
  | 6, h => exact h
  | 7, h => exact own_below h hb
  | 8, h => exact h.imp fun A h => h.imp fun c h => h.imp fun F h => h.imp fun d ⟨e, h1, h2⟩ => ⟨e, own_below h1 hb, own_below h2 hb⟩
  | 9, h => exact h.imp fun g ⟨e, h1, h2⟩ => ⟨e, by rw [hb.block _ (Array.getElem?_eq_some_iff.1 h1).1]; exact h1, h2⟩
  | 10, h => exact h
  | kq + 11, h => exact trivial
def PhiFv (w0 : World) (vL : Value) (F : Option Addr) (m d : Nat) (A2 : Option Addr) (k c2 i bA oA bF oF yN : Nat) (u : Int) : Nat → Value → World → Prop
  | 0, v, w => v = vL
  | 1, v, w => v = .pointer (some ⟨w0.heap.size + 1, 1, none⟩)
  | 2, v, w => v = .slice F m d
  | 3, v, w => v = .slice A2 k c2
  | 4, v, w => v = .int .i64 (i : Int)
  | 5, v, w => v = .pointer (some ⟨bA, oA + i, none⟩)
  | 6, v, w => v = .int .i64 (yN : Int)
  | 7, v, w => v = .pointer (some ⟨bF, oF + yN, none⟩)
  | 8, v, w => v = .int .i64 u
  | 9, v, w => OwnX 3 vL.ownBlock [.int .i64 u] v w
  | _, _, _ => True
theorem phiFv_below (w0 : World) (vL : Value) (F : Option Addr) (m d : Nat) (A2 : Option Addr) (k c2 i bA oA bF oF yN : Nat) (u : Int) : ∀ kq v w w', PhiFv w0 vL F m d A2 k c2 i bA oA bF oF yN u kq v w → Below w.heap.size w w' → PhiFv w0 vL F m d A2 k c2 i bA oA bF oF yN u kq v w' := by
  intro kq v w w' h hb
  match kq, h with
  | 0, h => exact h
  | 1, h => exact h
  | 2, h => exact h
  | 3, h => exact h
  | 4, h => exact h
  | 5, h => exact h
  | 6, h => exact h
  | 7, h => exact h
  | 8, h => exact h
  | 9, h => exact OwnX.rx (u := 3) (base := 0) h (.inl hb)
  | kq + 10, h => exact trivial
def PhiFo (w0 : World) (g gV m d' j : Nat) (P' : Option Addr) (np pc bP oP : Nat) (p1 p2 p3 : Int) (Ai : Option Addr) (ni ci : Nat) (vL : Value) (v0 : Int) : Nat → Value → World → Prop
  | 0, v, w => v = .pointer (some ⟨g, 1, none⟩)
  | 1, v, w => v = .slice (some ⟨gV, 0, none⟩) m d'
  | 2, v, w => v = .int .i64 (j : Int)
  | 3, v, w => v = .pointer (some ⟨w0.heap.size, 2, none⟩)
  | 4, v, w => v = .slice P' np pc
  | 5, v, w => v = .int .i64 (j : Int)
  | 6, v, w => v = .pointer (some ⟨bP, oP + j * 3, none⟩)
  | 7, v, w => v = .agg #[.int .i64 p1, .int .i64 p2, .int .i64 p3]
  | 8, v, w => v = .slice Ai ni ci
  | 9, v, w => v = vL
  | 10, v, w => v = .int .i64 v0
  | 11, v, w => v = .pointer (some ⟨gV, 0 + j, none⟩)
  | 12, v, w => True
  | _, _, _ => True
theorem phiFo_below (w0 : World) (g gV m d' j : Nat) (P' : Option Addr) (np pc bP oP : Nat) (p1 p2 p3 : Int) (Ai : Option Addr) (ni ci : Nat) (vL : Value) (v0 : Int) : ∀ kq v w w', PhiFo w0 g gV m d' j P' np pc bP oP p1 p2 p3 Ai ni ci vL v0 kq v w → Below w.heap.size w w' → PhiFo w0 g gV m d' j P' np pc bP oP p1 p2 p3 Ai ni ci vL v0 kq v w' := by
  intro kq v w w' h hb
  match kq, h with
  | 0, h => exact h
  | 1, h => exact h
  | 2, h => exact h
  | 3, h => exact h
  | 4, h => exact h
  | 5, h => exact h
  | 6, h => exact h
  | 7, h => exact h
  | 8, h => exact h
  | 9, h => exact h
  | 10, h => exact h
  | 11, h => exact h
  | 12, h => exact h
  | kq + 13, h => exact trivial
/-- The values when the first k parts have been looked at. -/
def setP (T : Task) (inp V : List Int) (x k : Nat) : List Int := (List.range k).foldl (fun U j => if lasN T.futures j = x then U.set j (partV T inp V j) else U) V
theorem setP_succ (T : Task) (inp V : List Int) (x k : Nat) : setP T inp V x (k + 1) = if lasN T.futures k = x then (setP T inp V x k).set k (partV T inp V k) else setP T inp V x k := by
  unfold setP
  rw [List.range_succ, List.foldl_append, List.foldl_cons, List.foldl_nil]
theorem setP_len (T : Task) (inp V : List Int) (x : Nat) : ∀ k, (setP T inp V x k).length = V.length
  | 0 => rfl
  | k + 1 => by
    rw [setP_succ]
    split
    · rw [List.length_set, setP_len T inp V x k]
    · exact setP_len T inp V x k
theorem lasN_lt' (fs : List (Int × Int × Int)) {a b : Nat} (h : a < b) : lasN fs a < lasN fs b := by
  have h1 := firN_mono fs (show a + 1 ≤ b by omega)
  have h2 := lasN_eq fs a
  have h3 := nst_pos fs b
  have h4 : lasN fs b + 1 = firN fs b + nst fs b := by unfold lasN; omega
  omega
theorem setP_other (T : Task) (inp V : List Int) (x : Nat) : ∀ k, (∀ j, j < k → lasN T.futures j ≠ x) → setP T inp V x k = V
  | 0, _ => rfl
  | k + 1, h => by
    rw [setP_succ, if_neg (h k (Nat.lt_succ_self k))]
    exact setP_other T inp V x k fun j hj => h j (by omega)
theorem setP_at (T : Task) (inp V : List Int) {j0 : Nat} : ∀ k, j0 < k → setP T inp V (lasN T.futures j0) k = V.set j0 (partV T inp V j0)
  | 0, h => by omega
  | k + 1, h => by
    rw [setP_succ]
    by_cases hk : k = j0
    · subst hk
      rw [if_pos rfl, setP_other T inp V _ k fun j hj => Nat.ne_of_lt (lasN_lt' _ hj)]
    · rw [if_neg (Nat.ne_of_gt (lasN_lt' _ (show j0 < k by omega)))]
      exact setP_at T inp V k (by omega)
theorem setP_all (T : Task) (inp V : List Int) {x : Nat} (hx : x < (lowP T).length) : setP T inp V x T.parts.length = settleV T inp V x := by
  by_cases h : ∃ j0, j0 < T.parts.length ∧ lasN T.futures j0 = x
  · obtain ⟨j0, hj, rfl⟩ := h
    rw [setP_at T inp V _ hj, settle_last T inp V hj]
  · rw [setP_other T inp V x _ fun j hj e => h ⟨j, hj, e⟩, settle_no T inp V hx fun j hj e => h ⟨j, hj, e.symm⟩]
/-- In the middle of Finish's inner loop: the list of values, of the round's own; what was told to be taken. -/
structure FvS (w5 : World) (vL : Value) (zs : List Int) (A2 : Option Addr) (fl : List Int) (y : World) : Prop where
  own : OwnI y w5.heap.size vL zs
  bel : Below w5.heap.size w5 y
  fd : ∀ (k : Nat) (z : Int), fl[k]? = some z → ∃ bA oA, A2 = some ⟨bA, oA, none⟩ ∧ bA < y.heap.size ∧ vL.ownBlock ≠ some bA ∧ y.cell? ⟨bA, oA + k, none⟩ = some (.int .i64 z)
theorem FvS.next {w5 y z : World} {vL : Value} {zs : List Int} {A2 : Option Addr} {fl : List Int} (h : FvS w5 vL zs A2 fl y) (hb : Below y.heap.size y z) : FvS w5 vL zs A2 fl z :=
  ⟨own_below h.own hb, h.bel.trans (hb.mono h.bel.size), fun k u hk => by
    obtain ⟨bA, oA, e, hlt, hne, hc⟩ := h.fd k u hk
    exact ⟨bA, oA, e, Nat.lt_of_lt_of_le hlt hb.size, hne, (hb.cell hlt).trans hc⟩⟩
theorem fv_push {w5 y : World} {vL v : Value} {zs : List Int} {A2 : Option Addr} {fl : List Int} {u : Int} {n : Nat} (h : FvS w5 vL zs A2 fl y) (hx : OwnX 3 vL.ownBlock [.int .i64 u] v y) (hn : zs.length = n) (hl : n ≤ 1000) :
    ∃ v' w', (Builtin.append_ #[28, 28] 28 #[vL, v]).run Tryz.prog y = .ok v' w' ∧ ∃ Fz dz, v' = .slice Fz (n + 1) dz ∧ FvS w5 (.slice Fz (n + 1) dz) (zs ++ [u]) A2 fl w' := by
  subst hn
  obtain ⟨u', w2, hr, ⟨Fz, dz, rfl, how⟩, hrb, hat⟩ := ownX_append (tl := 28) Tryz.underlying28 int_cell_info rfl (by omega) (by omega) h.own hx rfl (by simp [Value.oneCell']) hl h.bel.size
  refine ⟨_, w2, hr, Fz, dz, rfl, row_ownI how rfl, h.bel.trans (hrb.below h.bel.size), fun k z hk => ?_⟩
  obtain ⟨bA, oA, e, hlt, hne, hc⟩ := h.fd k z hk
  refine ⟨bA, oA, e, Nat.lt_of_lt_of_le hlt hrb.size, fun e2 => ?_, (cell_same (hrb.far hlt hne)).trans hc⟩
  rcases hat bA e2 with h3 | h3
  · exact hne h3
  · omega
theorem fv_start {w5 w6 w7 : World} {A2 : Option Addr} {fl : List Int} (h6 : w6 = w5.alloc (.cells #[] 3)) (hb : Below w6.heap.size w6 w7) (hI : Ints w7 w7.heap.size A2 fl) : FvS w5 (.slice (some ⟨w5.heap.size, 0, none⟩) 0 0) [] A2 fl w7 := by
  have hr : w6.heap[w5.heap.size]? = some (.cells #[] 3 (0, 0)) := by rw [h6]; exact heap_alloc_new w5 _
  have hb6 : Below w5.heap.size w5 w6 := by rw [h6]; exact below_alloc _
  have hr7 : w7.heap[w5.heap.size]? = some (.cells #[] 3 (0, 0)) := by rw [hb.block _ (Array.getElem?_eq_some_iff.1 hr).1]; exact hr
  refine ⟨own_below (ownI_fresh hr (Nat.le_refl _)) hb, hb6.trans (hb.mono hb6.size), fun k z hk => ?_⟩
  obtain ⟨bA, oA, z', e, hlt, hz, hc⟩ := hI.at_ (k := k) (List.getElem?_eq_some_iff.mp hk).1
  rw [hk] at hz
  obtain rfl := Option.some.inj hz
  refine ⟨bA, oA, e, hlt, fun e2 => ?_, hc⟩
  have e3 : w5.heap.size = bA := Option.some.inj e2
  subst e3
  rw [cell_of_row _ _ _ _ _ _ hr7] at hc
  simp at hc
theorem rfeeds8 {s : Sh} {T : Task} {w : World} (x : Int) (h : IsD w s T) : Calls Tryz.prog 28 #[s.arg T.period T.deadline, .int .i64 x] w (GotInts (feedsL T.edges T.futures x) w) :=
  dfeeds_any x T.edges T.futures w h.t.he (by have := h.few.ne; have := h.t.he; omega) h.t.hf (by have := h.few.nf; have := h.t.hf; omega) h.t.edges h.t.futures
section
variable {s : Sh} {T : Task} {A : Option Addr} {c : Nat} {F : Option Addr} {d : Nat} {D : List Bool} {V : List Int} {inp : List Int} {Ai : Option Addr} {ni ci : Nat}
set_option maxRecDepth 100000 in
set_option maxHeartbeats 64000000 in
theorem rfinish8_any (w0 : World) (node : Int) (hD : IsD w0 s T) (hM : IsM w0 A D.length c F V.length d D V) (hI : Ints w0 w0.heap.size Ai inp) (hi : inp.length = ni) (li : ni ≤ 1000) :
    Calls Tryz.prog 9 #[s.arg T.period T.deadline, .slice Ai ni ci, .agg #[.slice A D.length c, .slice F V.length d], .int .i64 node] w0 (GotFin T inp D V node w0) := by
  obtain ⟨i0, hi0, hz0, hz1, hz2⟩ := info_parts5 int_cell_info
  obtain ⟨j0, hj0, hy0, hy1, hy2⟩ := info_parts5 bool_cell_info
  have HPL := Lib.hid hD.t.hp
  have HS := Lib.hid (BxMR.start hD hM 31 #[.slice none 0 0, .slice none 0 0])
  have HI := Lib.hid hI
  have HNI := Lib.hid hi
  have HCZ := Lib.hid (fun h : MemOk T D V => chkM_zero.mpr h)
  have HCN := Lib.hid (fun h : ¬ MemOk T D V => fun e => h (chkM_zero.mp e))
  have HFN : Hid (¬ MemOk T D V → finE T D V node = chkM T D V) := Lib.hid fun h => by unfold finE; rw [if_neg h]
  have HFY : Hid (MemOk T D V → finE T D V node = if node < 0 ∨ (D.length : Int) ≤ node then 81 else if D.getD node.toNat false = true then 82 else if waitB (lowE T) D node.toNat = true then 83 else 0) := Lib.hid fun h => by unfold finE; rw [if_pos h]
  have hn4 := hM.ln
  have hm4 := hM.lm
  have hnp4 : s.np ≤ 400 := by have h1 := hD.few.np; have h2 := hD.t.hp; omega
  obtain ⟨P', np, pc, E', ne, ec, Fu, nf, fc, R', nr, rc⟩ := s
  simp only at hnp4 HPL
  have CR := Lib.hid (fun W (h1 : IsD W (⟨P', np, pc, E', ne, ec, Fu, nf, fc, R', nr, rc⟩ : Sh) T) (h2 : IsM W A D.length c F V.length d D V) => rcheck8_any W h1 h2)
  obtain ⟨wB, hwB⟩ : ∃ wB, wB = ((w0.alloc (.cells #[.int .i64 T.period, .int .i64 T.deadline, .slice P' np pc, .slice E' ne ec, .slice Fu nf fc, .slice R' nr rc] 27)).alloc (.cells #[.slice A D.length c, .slice F V.length d] 31)).alloc (.cells #[.slice none 0 0, .slice none 0 0] 31) := ⟨_, rfl⟩
  simp only at HS
  rw [← hwB] at HS
  have HW := Lib.hid hwB
  obtain ⟨r, hr⟩ : ∃ r, r = chkM T D V := ⟨_, rfl⟩
  rw [← hr] at CR HCZ HCN HFN
  obtain ⟨n, hn⟩ : ∃ n, D.length = n := ⟨_, rfl⟩
  have HN := Lib.hid hn
  clear hD hM hI hi hwB hr hn
  go_enter Tryz.func9, Tryz.ntmps9
  go_wp2_with fail
  rw [← HW.out]
  clear HW
  refine (CR.out _ HS.out.b.isd HS.out.b.mem).mono ?_
  rintro e w1 ⟨rfl, b1⟩
  have S1 := HS.out.next b1
  have HS1 := Lib.hid S1
  have HI1 := Lib.hid ((HI.out.below S1.b.bel).more S1.b.bel.size)
  have hr2 := S1.r
  have hlt1 := S1.lt
  have q0 := S1.b.m0
  have y0 := cell_of_row w1 (w0.heap.size + 1 + 1) 0 _ _ _ hr2
  have y1 := cell_of_row w1 (w0.heap.size + 1 + 1) 1 _ _ _ hr2
  simp at y0 y1
  have z0 := frozen_of_row w1 (w0.heap.size + 1 + 1) 0 _ _ hr2
  have z1 := frozen_of_row w1 (w0.heap.size + 1 + 1) 1 _ _ hr2
  have HEND := Lib.hid (load_mem (row_set2 hr2 (.slice none 0 0) (.slice none 0 0)))
  have HBB := Lib.hid (S1.b.bel.trans (below_set2 (w := w1) (B := w0.heap.size) (g := w0.heap.size + 1 + 1) (by omega) (.slice none 0 0) (.slice none 0 0)))
  clear b1 CR HS hr2 S1 HI
  by_cases hok : MemOk T D V
  · have hr0 := HCZ.out hok
    subst hr0
    have HFE := Lib.hid (HFY.out hok)
    have HOK := Lib.hid hok
    clear HCZ HCN HFN HFY
    by_cases h1 : node < 0
    · have HF1 : Hid (finE T D V node = 81) := Lib.hid (by rw [HFE.out, if_pos (.inl h1)])
      clear HFE
      go_wp2
      refine bodyPost_ret (v := .tuple #[.agg #[.slice none 0 0, .slice none 0 0], .int .i64 81]) ?_ rfl (fin_bad HF1.out (by decide) HBB.out)
      rw [results_row_tmp1 (p := 8) (u := 9) rfl _ _ (w0.heap.size + 1 + 1) _ rfl HEND.out]
      rfl
    · obtain ⟨x, rfl⟩ : ∃ x : Nat, node = x := ⟨node.toNat, by omega⟩
      rw [Int.toNat_natCast] at HFE
      have h1d : decide ((x : Int) < 0) = false := decide_eq_false h1
      by_cases h2 : D.length ≤ x
      · have HF1 : Hid (finE T D V x = 81) := Lib.hid (by rw [HFE.out, if_pos (.inr (by omega))])
        have h2d : decide ((D.length : Int) ≤ (x : Int)) = true := decide_eq_true (by omega)
        have h2e : decide (D.length ≤ x) = true := decide_eq_true h2
        clear HFE
        go_wp2
        refine bodyPost_ret (v := .tuple #[.agg #[.slice none 0 0, .slice none 0 0], .int .i64 81]) ?_ rfl (fin_bad HF1.out (by decide) HBB.out)
        rw [results_row_tmp1 (p := 8) (u := 9) rfl _ _ (w0.heap.size + 1 + 1) _ rfl HEND.out]
        rfl
      · have h2d : decide ((D.length : Int) ≤ (x : Int)) = false := decide_eq_false (by omega)
        have h2e : decide (D.length ≤ x) = false := decide_eq_false h2
        have hx : x < D.length := by omega
        rw [if_neg (by omega)] at HFE
        obtain ⟨bd, od, z, hAe, hbd, hzd, hcd⟩ := HS1.out.b.mem.bools.at2 (k := x) hx
        have HZ : Hid (D.getD x false = z) := Lib.hid (by rw [List.getD_eq_getElem?_getD, hzd]; rfl)
        rw [hAe] at q0
        have CI := ris_any w1 x HS1.out.b.isd HS1.out.b.mem HOK.out hx
        obtain ⟨y, hy⟩ : ∃ y, waitB (lowE T) D x = y := ⟨_, rfl⟩
        rw [hy, HZ.out, hAe] at CI
        have HCI := Lib.hid CI
        have HY := Lib.hid hy
        clear hzd hy hbd CI
        cases z with
        | true =>
          have HF1 : Hid (finE T D V x = 82) := Lib.hid (by rw [HFE.out, if_pos HZ.out])
          clear HFE
          go_wp2
          refine bodyPost_ret (v := .tuple #[.agg #[.slice none 0 0, .slice none 0 0], .int .i64 82]) ?_ rfl (fin_bad HF1.out (by decide) HBB.out)
          rw [results_row_tmp1 (p := 8) (u := 9) rfl _ _ (w0.heap.size + 1 + 1) _ rfl HEND.out]
          rfl
        | false =>
          rw [if_neg (by rw [HZ.out]; decide)] at HFE
          have q1 := HS1.out.b.m1
          obtain ⟨c0, c1, c2, c3, c4, c5⟩ := HS1.out.b.cd
          simp only at c2 c3 c4 c5
          go_wp2_with fail
          refine HCI.out.mono ?_
          rintro e wC ⟨rfl, bC⟩
          have SC := HS1.out.next bC
          have HSC := Lib.hid SC
          have HIC := Lib.hid ((HI1.out.below bC).more bC.size)
          have hr2 := SC.r
          have hltC := SC.lt
          clear q0 q1 y0 y1 z0 z1 HEND HBB HCI c0 c1 c2 c3 c4 c5 bC hcd HS1 HI1
          have y0 := cell_of_row wC (w0.heap.size + 1 + 1) 0 _ _ _ hr2
          have y1 := cell_of_row wC (w0.heap.size + 1 + 1) 1 _ _ _ hr2
          simp at y0 y1
          have z0 := frozen_of_row wC (w0.heap.size + 1 + 1) 0 _ _ hr2
          have z1 := frozen_of_row wC (w0.heap.size + 1 + 1) 1 _ _ hr2
          cases y with
          | true =>
            have HEND := Lib.hid (load_mem (row_set2 hr2 (.slice none 0 0) (.slice none 0 0)))
            have HBB := Lib.hid (SC.b.bel.trans (below_set2 (w := wC) (B := w0.heap.size) (g := w0.heap.size + 1 + 1) (by omega) (.slice none 0 0) (.slice none 0 0)))
            have HF1 : Hid (finE T D V x = 83) := Lib.hid (by rw [HFE.out, if_pos HY.out])
            clear HFE hr2 SC
            go_wp2
            refine bodyPost_ret (v := .tuple #[.agg #[.slice none 0 0, .slice none 0 0], .int .i64 83]) ?_ rfl (fin_bad HF1.out (by decide) HBB.out)
            rw [results_row_tmp1 (p := 8) (u := 9) rfl _ _ (w0.heap.size + 1 + 1) _ rfl HEND.out]
            rfl
          | false =>
            have HF1 : Hid (finE T D V x = 0) := Lib.hid (by rw [HFE.out, if_neg (by rw [HY.out]; decide)])
            clear HFE hr2 SC y0 y1 z0 z1
            go_wp2_with fail
            refine wp_region_stored 10 [45, 46, 47, 48, 49, 50, 51, 52, 53, 11, 1000] [] (by kernel_rfl) (by kernel_rfl) (by intro d hd; simp at hd ⊢; omega) (fun y => BxMR w0 (⟨P', np, pc, E', ne, ec, Fu, nf, fc, R', nr, rc⟩ : Sh) T A D.length c F V.length d D V 31 #[.slice none 0 0, .slice none 0 0] y ∧ Below wC.heap.size wC y) (PhiFc w0 wC A c F d D V) (fun f y => ∃ g A' c' F' d', f 11 = .pointer (some ⟨g, 0, none⟩) ∧ y.heap[g]? = some (.cells #[.slice A' D.length c', .slice F' V.length d'] 31 (0, 0)) ∧ OwnZ y wC.heap.size (.slice A' D.length c') D ∧ OwnI y wC.heap.size (.slice F' V.length d') V ∧ Below wC.heap.size wC y)
              (fun x y h hb => ⟨h.1.next hb, h.2.trans (hb.mono h.2.size)⟩) (phiFc_below w0 wC A c F d D V) (⟨HSC.out.next (Below.refl _ _).drew, (Below.refl _ _).drew⟩) ?hstep ?hpure ?hstore ?htheta ?hend
            case hstep =>
              intro kq o hkp hkS ho a w hI hA hd K hK
              obtain ⟨ρ, hρ⟩ : ∃ ρ, a.eval = ρ := ⟨_, rfl⟩
              rw [hρ] at hA hd
              match kq, hkp, hkS, ho with
              | 0, _, _, ho =>
                have hoo := Option.some.inj ho
                subst hoo
                exact fx_make hK hρ (.slice (some ⟨w.heap.size, 0, none⟩) 0 0) (w.alloc (.cells #[] 4)) (by simp [execOp, go_sem]) (newRow_here _ w _ hI.2.size) (below_alloc _)
              | 1, _, _, ho =>
                have hoo := Option.some.inj ho
                subst hoo
                exact fx_val hK hρ _ (by have h := hA.tmp 6 (by decide); simp [execOp, h, go_sem]) rfl
              | 2, _, _, ho =>
                have hoo := Option.some.inj ho
                subst hoo
                have f1 : (ρ (.tmp 46)) = .pointer (some ⟨w0.heap.size + 1, 0, none⟩) := hd ⟨1, .data⟩ (by simp) (by rfl)
                exact fx_val hK hρ (.slice A D.length c) (by have h0 := hI.1.b.m0; simp [execOp, f1, h0, go_sem]) rfl
              | 3, _, _, ho =>
                have hoo := Option.some.inj ho
                subst hoo
                have f0 : NewRow 4 w wC.heap.size (ρ (.tmp 45)) := hd ⟨0, .data⟩ (by simp) (by rfl)
                have f2 : (ρ (.tmp 47)) = .slice A D.length c := hd ⟨2, .data⟩ (by simp) (by rfl)
                obtain ⟨g, e0, hg, hgl⟩ := f0
                obtain ⟨v', w2, hr, how, hb⟩ := fresh_append (P := Tryz.prog) w 29 29 4 j0 (.bool false) 1 1 Tryz.underlying29 hj0 hy0 hy1 hy2 rfl (by omega) wC.heap.size g hg hgl hI.2.size A D.length c (boolsV D) (by simp [boolsV]) hI.1.b.mem.hA (fun ad e => by have q := hI.1.b.mem.bools; rw [e] at q; exact q.cells) (bools_oneCell D) (by unfold maxLen; omega) (by omega)
                exact fx_make hK hρ v' w2 (by simp [execOp, resolve, invoke, builtin, e0, f2, hr, Result.andThen]) how hb
              | 4, _, _, ho =>
                have hoo := Option.some.inj ho
                subst hoo
                exact fx_make hK hρ (.slice (some ⟨w.heap.size, 0, none⟩) 0 0) (w.alloc (.cells #[] 3)) (by simp [execOp, go_sem]) (newRow_here _ w _ hI.2.size) (below_alloc _)
              | 5, _, _, ho =>
                have hoo := Option.some.inj ho
                subst hoo
                exact fx_val hK hρ _ (by have h := hA.tmp 6 (by decide); simp [execOp, h, go_sem]) rfl
              | 6, _, _, ho =>
                have hoo := Option.some.inj ho
                subst hoo
                have f5 : (ρ (.tmp 50)) = .pointer (some ⟨w0.heap.size + 1, 1, none⟩) := hd ⟨5, .data⟩ (by simp) (by rfl)
                exact fx_val hK hρ (.slice F V.length d) (by have h0 := hI.1.b.m1; simp [execOp, f5, h0, go_sem]) rfl
              | 7, _, _, ho =>
                have hoo := Option.some.inj ho
                subst hoo
                have f4 : NewRow 3 w wC.heap.size (ρ (.tmp 49)) := hd ⟨4, .data⟩ (by simp) (by rfl)
                have f6 : (ρ (.tmp 51)) = .slice F V.length d := hd ⟨6, .data⟩ (by simp) (by rfl)
                obtain ⟨g, e0, hg, hgl⟩ := f4
                obtain ⟨v', w2, hr, how, hb⟩ := fresh_append (P := Tryz.prog) w 28 28 3 i0 (.int .i64 0) 1 8 Tryz.underlying28 hi0 hz0 hz1 hz2 rfl (by omega) wC.heap.size g hg hgl hI.2.size F V.length d (intsV V) (by simp [intsV]) hI.1.b.mem.hF (fun ad e => by have q := hI.1.b.mem.ints; rw [e] at q; exact q.cells) (oneCell_ints V) (by unfold maxLen; omega) (by omega)
                exact fx_make hK hρ v' w2 (by simp [execOp, resolve, invoke, builtin, e0, f6, hr, Result.andThen]) how hb
              | 8, _, _, ho =>
                have hoo := Option.some.inj ho
                subst hoo
                have f3 : OwnZ w wC.heap.size (ρ (.tmp 48)) D := hd ⟨3, .data⟩ (by simp) (by rfl)
                have f7 : OwnI w wC.heap.size (ρ (.tmp 52)) V := hd ⟨7, .data⟩ (by simp) (by rfl)
                obtain ⟨A1, a1, g3, _⟩ := f3.bools
                obtain ⟨A2, a2, g7, _⟩ := OwnI.slice f7
                rw [g3] at f3
                rw [g7] at f7
                exact fx_val hK hρ (.agg #[.slice A1 D.length a1, .slice A2 V.length a2]) (by simp [execOp, g3, g7, go_sem]) ⟨_, _, _, _, rfl, f3, f7⟩
              | 9, _, _, ho =>
                have hoo := Option.some.inj ho
                subst hoo
                exact fx_make hK hρ (.pointer (some ⟨w.heap.size, 0, none⟩)) (w.alloc (.cells #[.slice none 0 0, .slice none 0 0] 31)) (by simp [execOp, go_sem]) ⟨_, rfl, heap_alloc_new w _, hI.2.size⟩ (below_alloc _)
              | 10, hkp, _, _ => exact absurd rfl hkp
              | kq + 11, _, _, ho => simp at ho
            case hpure =>
              intro kq o hkS ho ρ w hA hd
              exact absurd hkS (by simp)
            case hstore =>
              intro o ho a w hI hA hF K hK
              have hoo := Option.some.inj ho
              subst hoo
              have f8 : PhiFc w0 wC A c F d D V 8 (a.eval (.tmp 53)) w := hF 8 (by decide) (by decide) (by decide)
              have f9 : PhiFc w0 wC A c F d D V 9 (a.eval (.tmp 11)) w := hF 9 (by decide) (by decide) (by decide)
              obtain ⟨A', c', F', d', q8, o2, o5⟩ := f8
              obtain ⟨g, q9, hgg, hgl⟩ := f9
              have hbel := hI.2
              refine ox_store2 (g := g) (u := .slice A' D.length c') (v := .slice F' V.length d') rfl rfl q9 q8 ⟨_, _, _, _, _, _, rfl, rfl⟩ hgg ?_
              have hoth : ∀ k, k ≠ g → ((w.setCell ⟨g, 0, none⟩ (.slice A' D.length c')).setCell ⟨g, 1, none⟩ (.slice F' V.length d')).heap[k]? = w.heap[k]? := fun k hk => by rw [heap_setCell_other _ _ _ _ hk, heap_setCell_other _ _ _ _ hk]
              exact hK _ ⟨g, A', c', F', d', q9, row_set2 hgg _ _, other_own o2 hgg (by decide) hoth, other_own o5 hgg (by decide) hoth, (hbel.setCell hgl _).setCell hgl _⟩
            case htheta =>
              intro f g w h hT
              obtain ⟨gg, A', c', F', d', h1, h2⟩ := hT
              exact ⟨gg, A', c', F', d', by rw [← h1]; exact (h 9 (by decide) (by decide) (by decide)).symm, h2⟩
            case hend =>
              intro vals xw hT hF
              obtain ⟨g, A', c', F', d', q11, hgg, hOD, hOV, hb4⟩ := hT
              have hm0 : 0 < V.length := by
                have h1 := HOK.out.hV
                have h2 := HOK.out.low.1.few
                unfold ManyT at h2
                omega
              obtain ⟨ad, rfl⟩ : ∃ ad, A' = some ad := by
                cases A' with
                | some ad => exact ⟨ad, rfl⟩
                | none =>
                  rcases hOD.2 with ⟨e1, _⟩ | ⟨g, cap, cur, e1, _⟩
                  · injection e1 with _ e2 _
                    omega
                  · injection e1 with e1 _ _
                    cases e1
              obtain ⟨av, rfl⟩ : ∃ ad, F' = some ad := by
                cases F' with
                | some ad => exact ⟨ad, rfl⟩
                | none =>
                  rcases hOV.2 with ⟨e1, _⟩ | ⟨g, cap, cur, e1, _⟩
                  · injection e1 with _ e2 _
                    omega
                  · injection e1 with e1 _ _
                    cases e1
              obtain ⟨gD, rfl, hDl, hDr⟩ := own_rowC hOD
              obtain ⟨gV, rfl, hVl, hVr⟩ := own_rowC hOV
              have hST : StM wC gD gV D V xw := ⟨hb4, hDl, hVl, hDr, hVr⟩
              have hnD : g ≠ gD := fun e => by
                subst e
                obtain ⟨tl, h⟩ := hDr
                rw [hgg] at h
                injection h with h
                injection h with _ h _
                exact absurd h (by decide)
              have hnV : g ≠ gV := fun e => by
                subst e
                obtain ⟨tl, h⟩ := hVr
                rw [hgg] at h
                injection h with h
                injection h with _ h _
                exact absurd h (by decide)
              have g0 := cell_of_row xw g 0 _ _ _ hgg
              simp at g0
              have k0 := hST.rD.cell (boolsV_at hx)
              have k1 := hST.rD.frozen x
              have HNE := Lib.hid (And.intro hnD hnV)
              have HS4 : Hid (StM wC gD gV (D.set x true) V (xw.setCell ⟨gD, x, none⟩ (.bool true)) ∧ (xw.setCell ⟨gD, x, none⟩ (.bool true)).heap[g]? = some (.cells #[.slice (some ⟨gD, 0, none⟩) D.length c', .slice (some ⟨gV, 0, none⟩) V.length d'] 31 (0, 0))) := Lib.hid ⟨hST.setD hx true, by rw [heap_setCell_other _ _ _ _ hnD]; exact hgg⟩
              clear hF hOD hOV hb4 hST hDr hVr hgg hDl hVl hnD hnV hm0
              simp only [fillA, fillL, List.contains_cons, List.contains_nil, Nat.reduceBEq, Bool.or_false, Bool.false_or, Bool.or_true, Bool.true_or, cond_true, cond_false, Nat.zero_add, Nat.reduceAdd]
              rw [q11]
              clear q11
              go_wp2
              go_loopw [12] (fun pv wr => ∃ (j : Nat) (U : List Int), j ≤ np ∧ pv = .int .i64 (j : Int) ∧ Hid (U = setP T inp V x j) ∧ Hid (StM wC gD gV (D.set x true) U wr ∧ wr.heap[g]? = some (.cells #[.slice (some ⟨gD, 0, none⟩) D.length c', .slice (some ⟨gV, 0, none⟩) V.length d'] 31 (0, 0)))) (fun pv _ => np - (intOf pv).toNat)
              case atStart => exact ⟨0, V, Nat.zero_le _, rfl, Lib.hid rfl, HS4⟩
              case round =>
                obtain ⟨j, U, hj, rfl, HU, HB⟩ := hrel
                clear HS4
                have SJ := HSC.out.next HB.out.1.bel
                have q0 := SJ.b.m0
                have q1 := SJ.b.m1
                obtain ⟨c0, c1, c2, c3, c4, c5⟩ := SJ.b.cd
                simp only at c2 c3 c4 c5
                by_cases hlt : j < np
                · have hjp : j < T.parts.length := by rw [HPL.out]; exact hlt
                  have HJP := Lib.hid hjp
                  have CF := Lib.hid (rfinal_any wr j SJ.b.isd HOK.out.low.1 hjp)
                  have hls : lasN T.futures j ≤ 100000 := by
                    have h1 := lasN_lt (T := T) hjp
                    have h2 := HOK.out.hD
                    omega
                  obtain ⟨la, hla⟩ : ∃ k, k = lasN T.futures j := ⟨_, rfl⟩
                  rw [← hla] at CF hls
                  have HLA := Lib.hid hla
                  clear hla SJ hjp
                  go_wp2_with fail
                  refine CF.out.mono ?_
                  rintro e w5 ⟨rfl, b5⟩
                  have HB5 : Hid (StM wC gD gV (D.set x true) U w5 ∧ w5.heap[g]? = some (.cells #[.slice (some ⟨gD, 0, none⟩) D.length c', .slice (some ⟨gV, 0, none⟩) V.length d'] 31 (0, 0))) := Lib.hid ⟨HB.out.1.next b5, by rw [b5.block _ (Array.getElem?_eq_some_iff.1 HB.out.2).1]; exact HB.out.2⟩
                  have S5 := HSC.out.next HB5.out.1.bel
                  have HSM5 := Lib.hid S5
                  clear b5 CF HB q0 q1 c0 c1 c2 c3 c4 c5
                  by_cases he : la = x
                  · have hb : ((la : Int) != (x : Int)) = false := by simp [he]
                    have HLX := Lib.hid he
                    clear he
                    obtain ⟨c0, c1, c2, c3, c4, c5⟩ := S5.b.cd
                    obtain ⟨w6, hw6⟩ : ∃ w6, w6 = w5.alloc (.cells #[] 3) := ⟨_, rfl⟩
                    have hb6 : Below w5.heap.size w5 w6 := by rw [hw6]; exact below_alloc _
                    obtain ⟨p0, p1', p2', p3', p4', p5'⟩ := (S5.b.next hb6).cd
                    have CFD := rfeeds8 (j : Int) (S5.b.next hb6).isd
                    rw [hw6] at p0 p1' p2' p3' p4' p5'
                    simp only at p2' p3' p4' p5'
                    have HCFD := Lib.hid CFD
                    have HW6 := Lib.hid hw6
                    have HFL : Hid ((feedsL T.edges T.futures (j : Int)).length ≤ 800) := Lib.hid (by
                      have h1 := feedsL_len8 T.edges T.futures (j : Int)
                      have h2 := S5.b.isd.few.ne
                      have h3 := S5.b.isd.few.nf
                      omega)
                    obtain ⟨fl, hfl⟩ : ∃ l, l = feedsL T.edges T.futures (j : Int) := ⟨_, rfl⟩
                    rw [← hfl] at HCFD HFL
                    have HFD := Lib.hid hfl
                    obtain ⟨k, hk⟩ : ∃ k, fl.length = k := ⟨_, rfl⟩
                    have HK := Lib.hid hk
                    have hk4 : k ≤ 800 := by rw [← hk]; exact HFL.out
                    clear hk hfl CFD S5 hb6 hw6 c0 c1 c2 c3 c4 c5
                    go_wp2_with fail
                    rw [← HW6.out]
                    refine HCFD.out.mono ?_
                    rintro e w7 ⟨A2, c2, rfl, hI2, b7⟩
                    rw [HK.out]
                    have HS7 := Lib.hid (fv_start HW6.out b7 hI2)
                    clear hI2 b7 p0 p1' p2' p3' p4' p5' HCFD HW6
                    have CX : Hid (∀ y, Below w5.heap.size w5 y → BxM w0 (⟨P', np, pc, E', ne, ec, Fu, nf, fc, R', nr, rc⟩ : Sh) T A D.length c F V.length d D V y) := Lib.hid (fun y h => HSM5.out.b.next h)
                    go_wp2
                    go_loopw [13, 15] (fun lv iv wr => ∃ (i : Nat) (vL : Value) (zs : List Int), i ≤ k ∧ vL = lv ∧ iv = .int .i64 (i : Int) ∧ Hid (zs = (fl.take i).map fun y => V.getD y.toNat 0) ∧ Hid (FvS w5 vL zs A2 fl wr)) (fun _ iv _ => k - (intOf iv).toNat)
                    case atStart => exact ⟨0, _, [], Nat.zero_le _, rfl, rfl, Lib.hid (by simp), HS7⟩
                    case round =>
                      obtain ⟨i, vL, zs, hi, rfl, rfl, HZS, HB2⟩ := hrel
                      clear HS7
                      have HZL : Hid (zs.length = i ∧ i ≤ 1000) := Lib.hid ⟨by rw [HZS.out, List.length_map, List.length_take, HK.out]; omega, by omega⟩
                      by_cases hik : i < k
                      · obtain ⟨z, hz⟩ : ∃ z, fl[i]? = some z := ⟨_, List.getElem?_eq_getElem (by rw [HK.out]; exact hik)⟩
                        obtain ⟨bA, oA, hEA, _, _, _⟩ := HB2.out.fd i z hz
                        obtain ⟨yN, hyN, hyp, _⟩ := feeds_way HOK.out.low.1 HJP.out (by rw [← HFD.out]; exact List.mem_of_getElem? hz)
                        subst hyN
                        have hyV : yN < V.length := by rw [HOK.out.hV]; exact hyp
                        have HEA := Lib.hid hEA
                        have HC1 : Hid (∀ y, FvS w5 vL zs A2 fl y → y.cell? ⟨bA, oA + i, none⟩ = some (.int .i64 (yN : Int))) := Lib.hid (fun y h => by
                          obtain ⟨bA', oA', e, _, _, hc⟩ := h.fd i _ hz
                          rw [hEA] at e
                          injection e with e
                          injection e with e1 e2
                          subst e1 e2
                          exact hc)
                        obtain ⟨bF, oF, u, hEF, _, hu, _⟩ := HSM5.out.b.mem.ints.at_ (k := yN) hyV
                        have HEF := Lib.hid hEF
                        have HC2 : Hid (∀ y, Below w5.heap.size w5 y → y.cell? ⟨bF, oF + yN, none⟩ = some (.int .i64 u)) := Lib.hid (fun y h => ints_at7 (by have := (CX.out y h).mem.ints; rw [hEF] at this; exact this) hu)
                        have HZ2 : Hid (zs ++ [u] = (fl.take (i + 1)).map fun y => V.getD y.toNat 0) := Lib.hid (by
                          rw [HZS.out, List.take_add_one, hz, List.map_append]
                          simp only [Option.toList, List.map_cons, List.map_nil, Int.toNat_natCast]
                          rw [List.getD_eq_getElem?_getD, hu]
                          rfl)
                        clear hz hEA hEF hu hyp
                        go_wp2_with fail
                        refine wp_region_pushed [80, 81, 82, 83, 84, 85, 86, 87, 88, 89] 90 13 (by kernel_rfl) (by kernel_rfl) (by intro d hd; simp at hd ⊢; omega) ⟨_, rfl, fun ρ w => by simp [execOp, go_sem]⟩ (FvS w5 vL zs A2 fl) (PhiFv w0 vL F V.length d A2 k c2 i bA oA bF oF yN u) (fun v y => ∃ Fz dz, v = .slice Fz (i + 1) dz ∧ FvS w5 (.slice Fz (i + 1) dz) (zs ++ [u]) A2 fl y)
                          (fun x y h hb => h.next hb) (phiFv_below w0 vL F V.length d A2 k c2 i bA oA bF oF yN u) (HB2.out.next (Below.refl _ _).drew) ?hstep ?hpush ?hend
                        case hstep =>
                          intro kq o hkl ho a w hI hA hd K hK
                          obtain ⟨ρ, hρ⟩ : ∃ ρ, a.eval = ρ := ⟨_, rfl⟩
                          rw [hρ] at hA hd
                          match kq, hkl, ho with
                          | 0, _, ho =>
                            have hoo := Option.some.inj ho
                            subst hoo
                            exact fx_val hK hρ (vL) (by have h := hA.tmp 13 (by decide); simp [execOp, h, go_sem]) rfl
                          | 1, _, ho =>
                            have hoo := Option.some.inj ho
                            subst hoo
                            exact fx_val hK hρ _ (by have h := hA.tmp 6 (by decide); simp [execOp, h, go_sem]) rfl
                          | 2, _, ho =>
                            have hoo := Option.some.inj ho
                            subst hoo
                            have f1 : (ρ (.tmp 81)) = .pointer (some ⟨w0.heap.size + 1, 1, none⟩) := hd ⟨1, .data⟩ (by simp) (by rfl)
                            exact fx_val hK hρ (.slice F V.length d) (by have h0 := (CX.out w hI.bel).m1; simp [execOp, f1, h0, go_sem]) rfl
                          | 3, _, ho =>
                            have hoo := Option.some.inj ho
                            subst hoo
                            exact fx_val hK hρ (.slice A2 k c2) (by have h := hA.tmp 14 (by decide); simp [execOp, h, go_sem]) rfl
                          | 4, _, ho =>
                            have hoo := Option.some.inj ho
                            subst hoo
                            exact fx_val hK hρ (.int .i64 (i : Int)) (by have h := hA.tmp 15 (by decide); simp [execOp, h, go_sem]) rfl
                          | 5, _, ho =>
                            have hoo := Option.some.inj ho
                            subst hoo
                            have f3 : (ρ (.tmp 83)) = .slice A2 k c2 := hd ⟨3, .data⟩ (by simp) (by rfl)
                            have f4 : (ρ (.tmp 84)) = .int .i64 (i : Int) := hd ⟨4, .data⟩ (by simp) (by rfl)
                            exact fx_val hK hρ _ (idx_eq rfl (f3.trans (congrArg (fun A => Value.slice A k c2) HEA.out)) f4 hik) rfl
                          | 6, _, ho =>
                            have hoo := Option.some.inj ho
                            subst hoo
                            have f5 : (ρ (.tmp 85)) = .pointer (some ⟨bA, oA + i, none⟩) := hd ⟨5, .data⟩ (by simp) (by rfl)
                            exact fx_val hK hρ (.int .i64 (yN : Int)) (by have h0 := HC1.out w hI; simp [execOp, f5, h0, go_sem]) rfl
                          | 7, _, ho =>
                            have hoo := Option.some.inj ho
                            subst hoo
                            have f2 : (ρ (.tmp 82)) = .slice F V.length d := hd ⟨2, .data⟩ (by simp) (by rfl)
                            have f6 : (ρ (.tmp 86)) = .int .i64 (yN : Int) := hd ⟨6, .data⟩ (by simp) (by rfl)
                            exact fx_val hK hρ _ (idx_eq rfl (f2.trans (congrArg (fun A => Value.slice A V.length d) HEF.out)) f6 hyV) rfl
                          | 8, _, ho =>
                            have hoo := Option.some.inj ho
                            subst hoo
                            have f7 : (ρ (.tmp 87)) = .pointer (some ⟨bF, oF + yN, none⟩) := hd ⟨7, .data⟩ (by simp) (by rfl)
                            exact fx_val hK hρ (.int .i64 u) (by have h0 := HC2.out w hI.bel; simp [execOp, f7, h0, go_sem]) rfl
                          | 9, _, ho =>
                            have hoo := Option.some.inj ho
                            subst hoo
                            have f8 : (ρ (.tmp 88)) = .int .i64 u := hd ⟨8, .data⟩ (by simp) (by rfl)
                            exact fx_make hK hρ (.slice (some ⟨w.heap.size, 0, none⟩) 1 1) (w.alloc (.cells #[.int .i64 u] 3)) (by simp [execOp, f8, go_sem]) ⟨_, rfl, heap_alloc_new w _, fun e => by have := (row_lt hI.own _ e).2.1; omega⟩ (below_alloc _)
                          | kq + 10, hkl, _ => exact absurd hkl (by simp)
                        case hpush =>
                          intro o ho ρ w hI hA hF
                          have hoo := Option.some.inj ho
                          subst hoo
                          have fe : ρ (.tmp 80) = vL := hF 0 (by decide)
                          have fx : OwnX 3 vL.ownBlock [.int .i64 u] (ρ (.tmp 89)) w := hF 9 (by decide)
                          obtain ⟨v', w', hr, hG⟩ := fv_push hI fx HZL.out.1 HZL.out.2
                          exact ⟨v', w', by simp [execOp, resolve, invoke, builtin, fe, hr, Result.andThen], hG⟩
                        case hend =>
                          intro vals xw hT he
                          obtain ⟨Fz, dz, e3, hG3⟩ := hT
                          rw [e3] at he
                          have B8 := Lib.hid hG3
                          clear hG3 e3 HB2
                          simp only [List.cons_append, List.nil_append, fillA, fillL, List.contains_cons, List.contains_nil, Nat.reduceBEq, Bool.or_false, Bool.false_or, Bool.or_true, Bool.true_or, cond_true, cond_false, Nat.zero_add, Nat.reduceAdd]
                          rw [he]
                          clear he
                          go_wp2
                          go_roundw
                          case rel => exact ⟨i + 1, _, _, hik, rfl, by go_num, HZ2, B8⟩
                          case measure => simp [intOf]; omega
                      · obtain rfl : k = i := by omega
                        have HZA : Hid (zs = feedV T V j) := Lib.hid (by
                          rw [HZS.out, List.take_of_length_le (by rw [HK.out]; exact Nat.le_refl _), HFD.out]
                          rfl)
                        obtain ⟨Az, cz, hvL, _⟩ := OwnI.slice HB2.out.own
                        rw [HZL.out.1] at hvL
                        subst hvL
                        obtain ⟨bP, oP, p1, p2, p3, hEP, hbP, hpt, e1, e2, e3⟩ := HSM5.out.b.isd.t.parts.at_ (k := j) HJP.out
                        have HEP : Hid (P' = some ⟨bP, oP, none⟩) := Lib.hid hEP
                        have HCP : Hid (∀ y, Below w5.heap.size w5 y → y.cell? ⟨bP, oP + j * 3, none⟩ = some (.int .i64 p1) ∧ y.cell? ⟨bP, oP + j * 3 + 1, none⟩ = some (.int .i64 p2) ∧ y.cell? ⟨bP, oP + j * 3 + 2, none⟩ = some (.int .i64 p3)) := Lib.hid (fun y h => ⟨(h.cell hbP).trans e1, (h.cell hbP).trans e2, (h.cell hbP).trans e3⟩)
                        have hjV : j < V.length := by rw [HOK.out.hV]; exact HJP.out
                        have HUL : Hid (U.length = V.length) := Lib.hid (by rw [HU.out, setP_len])
                        obtain ⟨v0, hv0⟩ : ∃ v, v = comeV p1 p2 inp zs := ⟨_, rfl⟩
                        have HU2 : Hid (U.set j v0 = setP T inp V x (j + 1)) := Lib.hid (by
                          have hpa : partAt T j = (p1, p2, p3) := by unfold partAt; rw [List.getD_eq_getElem?_getD, hpt]; rfl
                          rw [setP_succ, if_pos (by rw [← HLA.out]; exact HLX.out), HU.out, hv0, HZA.out]
                          unfold partV
                          rw [hpa])
                        have COP : Hid (∀ y, FvS w5 (.slice Az k cz) zs A2 fl y → Calls Tryz.prog 29 #[.agg #[.int .i64 p1, .int .i64 p2, .int .i64 p3], .slice Ai ni ci, .slice Az k cz] y fun e w' => e = .returned (.int .i64 v0) ∧ Below y.heap.size y w') := Lib.hid (fun y h => by
                          rw [hv0]
                          have hb : Below wC.heap.size wC y := HB5.out.1.bel.trans (h.bel.mono HB5.out.1.bel.size)
                          exact rop8_any p1 p2 p3 Ai ni ci inp Az k cz zs y HNI.out li ((HIC.out.below hb).more hb.size) HZL.out.1 HZL.out.2 (OwnI.ints h.own))
                        have HSX : Hid (∀ y, Below w5.heap.size w5 y → StM wC gD gV (D.set x true) U y ∧ y.heap[g]? = some (.cells #[.slice (some ⟨gD, 0, none⟩) D.length c', .slice (some ⟨gV, 0, none⟩) V.length d'] 31 (0, 0))) := Lib.hid (fun y h => ⟨HB5.out.1.next h, by rw [h.block _ (Array.getElem?_eq_some_iff.1 HB5.out.2).1]; exact HB5.out.2⟩)
                        have HG1 : Hid (∀ y, Below w5.heap.size w5 y → y.cell? ⟨g, 1, none⟩ = some (.slice (some ⟨gV, 0, none⟩) V.length d')) := Lib.hid (fun y h => by rw [cell_of_row _ _ _ _ _ _ (HSX.out y h).2]; rfl)
                        clear hEP hbP hpt e1 e2 e3 hv0 hb
                        go_wp2_with fail
                        refine wp_region_stored 12 [91, 92, 93, 94, 95, 96, 97, 98, 99, 100, 101, 102, 1000] [] (by kernel_rfl) (by kernel_rfl) (by intro d hd; simp at hd ⊢; omega) (FvS w5 (.slice Az k cz) zs A2 fl) (PhiFo w0 g gV V.length d' j P' np pc bP oP p1 p2 p3 Ai ni ci (.slice Az k cz) v0) (fun _ y => StM wC gD gV (D.set x true) (U.set j v0) y ∧ y.heap[g]? = some (.cells #[.slice (some ⟨gD, 0, none⟩) D.length c', .slice (some ⟨gV, 0, none⟩) V.length d'] 31 (0, 0)))
                          (fun x y h hb => h.next hb) (phiFo_below w0 g gV V.length d' j P' np pc bP oP p1 p2 p3 Ai ni ci (.slice Az k cz) v0) (HB2.out.next (Below.refl _ _).drew) ?hstep ?hpure ?hstore ?htheta ?hend
                        case hstep =>
                          intro kq o hkp hkS ho a w hI hA hd K hK
                          obtain ⟨ρ, hρ⟩ : ∃ ρ, a.eval = ρ := ⟨_, rfl⟩
                          rw [hρ] at hA hd
                          match kq, hkp, hkS, ho with
                          | 0, _, _, ho =>
                            have hoo := Option.some.inj ho
                            subst hoo
                            exact fx_val hK hρ _ (by have h := hA.tmp 11 (by decide); simp [execOp, h, go_sem]) rfl
                          | 1, _, _, ho =>
                            have hoo := Option.some.inj ho
                            subst hoo
                            have f0 : (ρ (.tmp 91)) = .pointer (some ⟨g, 1, none⟩) := hd ⟨0, .data⟩ (by simp) (by rfl)
                            exact fx_val hK hρ (.slice (some ⟨gV, 0, none⟩) V.length d') (by have h0 := (HG1.out w hI.bel); simp [execOp, f0, h0, go_sem]) rfl
                          | 2, _, _, ho =>
                            have hoo := Option.some.inj ho
                            subst hoo
                            exact fx_val hK hρ (.int .i64 (j : Int)) (by have h := hA.tmp 12 (by decide); simp [execOp, h, go_sem]) rfl
                          | 3, _, _, ho =>
                            have hoo := Option.some.inj ho
                            subst hoo
                            exact fx_val hK hρ _ (by have h := hA.tmp 4 (by decide); simp [execOp, h, go_sem]) rfl
                          | 4, _, _, ho =>
                            have hoo := Option.some.inj ho
                            subst hoo
                            have f3 : (ρ (.tmp 94)) = .pointer (some ⟨w0.heap.size, 2, none⟩) := hd ⟨3, .data⟩ (by simp) (by rfl)
                            exact fx_val hK hρ (.slice P' np pc) (by have h0 := (CX.out w hI.bel).cd.2.2.1; simp [execOp, f3, h0, go_sem]) rfl
                          | 5, _, _, ho =>
                            have hoo := Option.some.inj ho
                            subst hoo
                            exact fx_val hK hρ (.int .i64 (j : Int)) (by have h := hA.tmp 12 (by decide); simp [execOp, h, go_sem]) rfl
                          | 6, _, _, ho =>
                            have hoo := Option.some.inj ho
                            subst hoo
                            have f4 : (ρ (.tmp 95)) = .slice P' np pc := hd ⟨4, .data⟩ (by simp) (by rfl)
                            have f5 : (ρ (.tmp 96)) = .int .i64 (j : Int) := hd ⟨5, .data⟩ (by simp) (by rfl)
                            exact fx_val hK hρ _ (idx_eqP8 rfl (f4.trans (congrArg (fun A => Value.slice A np pc) HEP.out)) f5 hlt) rfl
                          | 7, _, _, ho =>
                            have hoo := Option.some.inj ho
                            subst hoo
                            have f6 : (ρ (.tmp 97)) = .pointer (some ⟨bP, oP + j * 3, none⟩) := hd ⟨6, .data⟩ (by simp) (by rfl)
                            exact fx_val hK hρ (.agg #[.int .i64 p1, .int .i64 p2, .int .i64 p3]) (by have h0 := (HCP.out w hI.bel).1; have h1 := (HCP.out w hI.bel).2.1; have h2 := (HCP.out w hI.bel).2.2; simp [execOp, f6, h0, h1, h2, go_sem]) rfl
                          | 8, _, _, ho =>
                            have hoo := Option.some.inj ho
                            subst hoo
                            exact fx_val hK hρ (.slice Ai ni ci) (by have h := hA.tmp 1 (by decide); simp [execOp, h, go_sem]) rfl
                          | 9, _, _, ho =>
                            have hoo := Option.some.inj ho
                            subst hoo
                            exact fx_val hK hρ (.slice Az k cz) (by have h := hA.tmp 13 (by decide); simp [execOp, h, go_sem]) rfl
                          | 10, _, _, ho =>
                            have hoo := Option.some.inj ho
                            subst hoo
                            have f7 : (ρ (.tmp 98)) = .agg #[.int .i64 p1, .int .i64 p2, .int .i64 p3] := hd ⟨7, .data⟩ (by simp) (by rfl)
                            have f8 : (ρ (.tmp 99)) = .slice Ai ni ci := hd ⟨8, .data⟩ (by simp) (by rfl)
                            have f9 : (ρ (.tmp 100)) = .slice Az k cz := hd ⟨9, .data⟩ (by simp) (by rfl)
                            exact fx_call hK hρ 29 _ _ #[.agg #[.int .i64 p1, .int .i64 p2, .int .i64 p3], .slice Ai ni ci, .slice Az k cz] rfl (by simp only [List.map_toArray, List.map_cons, List.map_nil, hA.const, f7, f8, f9]) (eg_of Tryz.func29 (by kernel_rfl) rfl) ((COP.out w hI).mono fun e w' ⟨he, hb⟩ => ⟨_, he, rfl, hb⟩)
                          | 11, _, _, ho =>
                            have hoo := Option.some.inj ho
                            subst hoo
                            have f1 : (ρ (.tmp 92)) = .slice (some ⟨gV, 0, none⟩) V.length d' := hd ⟨1, .data⟩ (by simp) (by rfl)
                            have f2 : (ρ (.tmp 93)) = .int .i64 (j : Int) := hd ⟨2, .data⟩ (by simp) (by rfl)
                            exact fx_val hK hρ _ (idx_eq rfl f1 f2 hjV) rfl
                          | 12, hkp, _, _ => exact absurd rfl hkp
                          | kq + 13, _, _, ho => simp at ho
                        case hpure =>
                          intro kq o hkS ho ρ w hA hd
                          exact absurd hkS (by simp)
                        case hstore =>
                          intro o ho a w hI hA hF K hK
                          have hoo := Option.some.inj ho
                          subst hoo
                          have f10 : a.eval (.tmp 101) = .int .i64 v0 := hF 10 (by decide) (by decide) (by decide)
                          have f11 : a.eval (.tmp 102) = .pointer (some ⟨gV, 0 + j, none⟩) := hF 11 (by decide) (by decide) (by decide)
                          rw [Nat.zero_add] at f11
                          obtain ⟨hS, hrg⟩ := HSX.out w hI.bel
                          refine ox_store1 rfl rfl f11 f10 (hS.rV.cell (intsV_at (by rw [HUL.out]; exact hjV))) (hS.rV.frozen j) ?_
                          exact hK _ ⟨hS.setV (by rw [HUL.out]; exact hjV) v0, by rw [heap_setCell_other _ _ _ _ HNE.out.2]; exact hrg⟩
                        case htheta =>
                          intro f g w h hT
                          exact hT
                        case hend =>
                          intro vals xw hT hF
                          have HT := Lib.hid hT
                          clear hT hF HB2
                          simp only [fillA, fillL, List.contains_cons, List.contains_nil, Nat.reduceBEq, Bool.or_false, Bool.false_or, Bool.or_true, Bool.true_or, cond_true, cond_false, Nat.zero_add, Nat.reduceAdd]
                          go_wp2
                          go_roundw
                          case rel => exact ⟨j + 1, U.set j v0, hlt, by go_num, HU2, HT⟩
                          case measure => simp [intOf]; omega
                  · have hb : ((la : Int) != (x : Int)) = true := by simp; omega
                    have HU2 : Hid (U = setP T inp V x (j + 1)) := Lib.hid (by rw [setP_succ, if_neg (by rw [← HLA.out]; exact he), HU.out])
                    clear S5 HSM5
                    go_wp2
                    go_roundw
                    case rel => exact ⟨j + 1, U, hlt, by go_num, HU2, HB5⟩
                    case measure => simp [intOf]; omega
                · obtain rfl : np = j := by omega
                  have HUF : Hid (U = settleV T inp V x) := Lib.hid (by rw [HU.out, ← HPL.out]; exact setP_all T inp V (by rw [← HOK.out.hD]; exact hx))
                  have HRR := Lib.hid SJ.r
                  have HSE := Lib.hid HB.out.1
                  have g0 := cell_of_row wr _ 0 _ _ _ HB.out.2
                  have g1 := cell_of_row wr _ 1 _ _ _ HB.out.2
                  have y0 := cell_of_row wr _ 0 _ _ _ SJ.r
                  have y1 := cell_of_row wr _ 1 _ _ _ SJ.r
                  have z0 := frozen_of_row wr _ 0 _ _ SJ.r
                  have z1 := frozen_of_row wr _ 1 _ _ SJ.r
                  simp at g0 g1 y0 y1
                  have HBL := Lib.hid SJ.b.bel
                  clear SJ HB hlt hj
                  go_wp2
                  have hend := load_mem (row_set2 HRR.out (.slice (some ⟨gD, 0, none⟩) D.length c') (.slice (some ⟨gV, 0, none⟩) V.length d'))
                  have hlD := HSE.out.leD
                  have hlV := HSE.out.leV
                  have hok2 : ∀ k, k ≠ w0.heap.size + 1 + 1 → ((wr.setCell ⟨w0.heap.size + 1 + 1, 0, none⟩ (.slice (some ⟨gD, 0, none⟩) D.length c')).setCell ⟨w0.heap.size + 1 + 1, 1, none⟩ (.slice (some ⟨gV, 0, none⟩) V.length d')).heap[k]? = wr.heap[k]? := fun k hk => by rw [heap_setCell_other _ _ _ _ hk, heap_setCell_other _ _ _ _ hk]
                  refine bodyPost_ret (v := .tuple #[.agg #[.slice (some ⟨gD, 0, none⟩) D.length c', .slice (some ⟨gV, 0, none⟩) V.length d'], .int .i64 0]) ?_ rfl ⟨⟨_, _, _, _, _, _, by rw [HF1.out], ?_⟩, ?_⟩
                  · rw [results_row_tmp1 (p := 8) (u := 9) rfl _ _ (w0.heap.size + 1 + 1) _ rfl hend]
                    rfl
                  · unfold finD finV
                    rw [if_pos HF1.out, if_pos HF1.out, Int.toNat_natCast, ← HUF.out]
                    exact rows_isM (HSE.out.rD.same (hok2 _ (by omega))) (HSE.out.rV.same (hok2 _ (by omega))) (by rw [List.length_set]) (by rw [HUF.out, settleV_len]) hn4 hm4
                  · exact HBL.out.trans (below_set2 (by omega) _ _)
  · have hr0 := HCN.out hok
    have HFE := Lib.hid (HFN.out hok)
    have hb : (r != 0) = true := bne_iff_ne.mpr hr0
    have HR0 := Lib.hid hr0
    clear hok HCZ HCN HFN HFY hr0
    go_wp2
    refine bodyPost_ret (v := .tuple #[.agg #[.slice none 0 0, .slice none 0 0], .int .i64 r]) ?_ rfl (fin_bad HFE.out HR0.out HBB.out)
    rw [results_row_tmp1 (p := 8) (u := 9) rfl _ _ (w0.heap.size + 1 + 1) _ rfl HEND.out]
    rfl
end
end Go.Proofs.YtkmajhbfmdoamaaGreatDoor
