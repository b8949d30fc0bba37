/- crc.More and crc.Sum in the seat YtjngnejmgfncnaaDoor: their contracts. No statement is proved here. -/
import Derived.Test.YtjngnejmgfncnaaDoorCrcStep
set_option linter.unusedVariables false
namespace Go.Proofs.YtjngnejmgfncnaaDoor
open Go.RowKit

theorem run_snoc (n : Nat) (l : List UInt8) (j : Nat) (h : j < l.length) : run n (l.take (j + 1)) = up (run n (l.take j)) l[j].toNat := by
  rw [List.take_add_one, List.getElem?_eq_getElem h, run_append]
  rfl
theorem ones_xor (x : Nat) (hx : x < 4294967296) : bits .xor .u32 IntKind.u32.max (x : Int) = ((x ^^^ 4294967295 : Nat) : Int) := by
  rw [show IntKind.u32.max = ((4294967295 : Nat) : Int) by decide, u32_xor_nat _ _ (by omega) hx, Nat.xor_comm]
theorem ones_xor' (x : Nat) (hx : x < 4294967296) : bits .xor .u32 4294967295 (x : Int) = ((x ^^^ 4294967295 : Nat) : Int) := by
  rw [show (4294967295 : Int) = ((4294967295 : Nat) : Int) from rfl, u32_xor_nat _ _ (by omega) hx, Nat.xor_comm]
set_option maxRecDepth 100000 in
set_option maxHeartbeats 1000000 in
theorem more_any (x : Nat) (s : ByteArray) (w : World) (hx : x < 4294967296) (hs : s.size ≤ 9223372036854775807) (hT : Tab w) :
    Calls Tryd.prog 16 #[.int .u32 x, .string s] w fun e w' => e = .returned (.int .u32 (more x s.data.toList : Nat)) ∧ w = w' := by
  have HT := Lib.hid hT
  have HS : Hid (s.data.toList.length = s.size) := Lib.hid rfl
  have h0 := ones_xor x hx
  have h0' := ones_xor' x hx
  have hy : x ^^^ 4294967295 < 4294967296 := xor_lt hx (by omega)
  have HM : Hid (more x s.data.toList = run (x ^^^ 4294967295) s.data.toList ^^^ 4294967295) := Lib.hid rfl
  obtain ⟨y, hye⟩ : ∃ y, y = x ^^^ 4294967295 := ⟨_, rfl⟩
  rw [← hye] at h0 h0' hy HM
  clear hT hye
  go_enter Tryd.func16, Tryd.ntmps16
  go_wp2
  go_loop [5, 11] (fun n i => ∃ j q : Nat, j ≤ s.size ∧ i = .int .i64 j ∧ q < 4294967296 ∧ Hid (q = run y (s.data.toList.take j)) ∧ n = .int .u32 q) (fun _ i => s.size - (intOf i).toNat)
  case atStart => exact ⟨0, y, Nat.zero_le _, rfl, hy, Lib.hid rfl, rfl⟩
  case round =>
    obtain ⟨j, q, hj, rfl, hq, hqe, rfl⟩ := hrel
    by_cases hlt : j < s.size
    · have hb := s[j].toNat_lt
      have hxx := u32_xor_nat q s[j].toNat hq (by omega)
      have hz : q ^^^ s[j].toNat < 4294967296 := xor_lt hq (by omega)
      have HU := Lib.hid (show st4 (st4 (q ^^^ s[j].toNat)) = run y (s.data.toList.take (j + 1)) by
        rw [run_snoc _ _ _ (by rw [HS.out]; exact hlt), ← hqe.out]
        rfl)
      have C1 := Lib.hid (fun W => step_any (q ^^^ s[j].toNat) W hz)
      have C2 := Lib.hid (fun W => step_any (st4 (q ^^^ s[j].toNat)) W (st4_lt hz))
      obtain ⟨z, hze⟩ : ∃ z, z = st4 (st4 (q ^^^ s[j].toNat)) := ⟨_, rfl⟩
      have hzl : z < 4294967296 := hze ▸ st4_lt (st4_lt hz)
      rw [← hze] at HU C2
      clear hze
      go_wp2_with fail
      refine (C1.out _ HT.out).mono ?_
      rintro e w1 ⟨rfl, rfl⟩
      go_wp2_with fail
      refine (C2.out _ HT.out).mono ?_
      rintro e w1 ⟨rfl, rfl⟩
      go_wp2
      go_round
      case rel => exact ⟨j + 1, z, by omega, by go_num, hzl, HU, rfl⟩
      case measure => simp [intOf]; omega
    · obtain rfl : j = s.size := by omega
      have hl : s.data.toList.take s.size = s.data.toList := List.take_of_length_le (by rw [HS.out]; omega)
      have h1 := ones_xor q hq
      have h1' := ones_xor' q hq
      rw [hl] at hqe
      rw [← hqe.out] at HM
      go_wp2
      go_ret
      exact ⟨by rw [HM.out]; rfl, rfl⟩
theorem sum_any (s : ByteArray) (w : World) (hs : s.size ≤ 9223372036854775807) (hT : Tab w) :
    Calls Tryd.prog 10 #[.string s] w fun e w' => e = .returned (.int .u32 (crc s.data.toList : Nat)) ∧ w = w' := by
  have C := Lib.hid (fun W => more_any 0 s W (by omega) hs)
  rw [show more 0 s.data.toList = crc s.data.toList from by unfold more crc; rw [Nat.zero_xor]] at C
  go_enter Tryd.func10, Tryd.ntmps10
  go_wp2_with fail
  refine (C.out _ hT).mono ?_
  rintro e w1 ⟨rfl, rfl⟩
  go_wp2
  go_ret
  exact ⟨rfl, rfl⟩
end Go.Proofs.YtjngnejmgfncnaaDoor
