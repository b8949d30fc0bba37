/- The contract of the document's own Sum of layer 3 (trefoilref03) in the seat YtjngnejmgfncnaaDoor. No statement is proved here. -/
import Derived.Test.YtjngnejmgfncnaaDoorCrcMore
set_option linter.unusedVariables false
namespace Go.Proofs.YtjngnejmgfncnaaDoor
open Go.RowKit

def sts : Nat → Nat → Nat
  | 0, n => n
  | k + 1, n => st (sts k n)
theorem sts_8 (n : Nat) : sts 8 n = st8 n := rfl
theorem sts_lt {n : Nat} (h : n < 4294967296) : ∀ k, sts k n < 4294967296
  | 0 => h
  | k + 1 => st_lt (sts_lt h k)
set_option maxRecDepth 100000 in
set_option maxHeartbeats 1000000 in
theorem rsum_any (s : ByteArray) (w : World) (hs : s.size ≤ 9223372036854775807) :
    Calls Tryd.prog 11 #[.string s] w fun e w' => e = .returned (.int .u32 (crc s.data.toList : Nat)) ∧ w = w' := by
  have HS : Hid (s.data.toList.length = s.size) := Lib.hid rfl
  have HM : Hid (crc s.data.toList = run 4294967295 s.data.toList ^^^ 4294967295) := Lib.hid rfl
  go_enter Tryd.func11, Tryd.ntmps11
  go_wp2
  go_loop [3, 4] (fun n i => ∃ j q : Nat, j ≤ s.size ∧ i = .int .i64 j ∧ q < 4294967296 ∧ Hid (q = run 4294967295 (s.data.toList.take j)) ∧ n = .int .u32 q) (fun _ i => s.size - (intOf i).toNat)
  case atStart => exact ⟨0, 4294967295, Nat.zero_le _, rfl, by omega, Lib.hid rfl, rfl⟩
  case round =>
    obtain ⟨j, q, hj, rfl, hq, hqe, rfl⟩ := hrel
    by_cases hlt : j < s.size
    · have hb := s[j].toNat_lt
      have hxx := u32_xor_nat q s[j].toNat hq (by omega)
      have hz : q ^^^ s[j].toNat < 4294967296 := xor_lt hq (by omega)
      have HU := Lib.hid (show sts 8 (q ^^^ s[j].toNat) = run 4294967295 (s.data.toList.take (j + 1)) by
        rw [run_snoc _ _ _ (by rw [HS.out]; exact hlt), ← hqe.out]
        rfl)
      obtain ⟨z, hze⟩ : ∃ z, z = q ^^^ s[j].toNat := ⟨_, rfl⟩
      rw [← hze] at HU hz hxx
      clear hze
      go_wp2
      go_loop [3, 5] (fun n i => ∃ k p : Nat, k ≤ 8 ∧ i = .int .i64 k ∧ p < 4294967296 ∧ Hid (p = sts k z) ∧ n = .int .u32 p) (fun _ i => 8 - (intOf i).toNat)
      case atStart => exact ⟨0, z, Nat.zero_le _, rfl, hz, Lib.hid rfl, rfl⟩
      case round =>
        obtain ⟨k, p, hk, rfl, hp, hpe, rfl⟩ := hrel
        by_cases hk8 : k < 8
        · have HP : Hid (st p = sts (k + 1) z) := Lib.hid (by rw [hpe.out]; rfl)
          have hpl := st_lt hp
          by_cases ho : p % 2 = 1
          · have hx2 : bits .xor .u32 ((p : Int) / 2) 3988292384 = ((p / 2 ^^^ 3988292384 : Nat) : Int) := u32_xor_nat (p / 2) 3988292384 (by omega) (by omega)
            have e1 : st p = p / 2 ^^^ 3988292384 := by unfold st; rw [if_pos ho]
            rw [e1] at HP hpl
            clear e1
            go_wp2
            go_round
            case rel => exact ⟨k + 1, _, by omega, by go_num, hpl, HP, rfl⟩
            case measure => simp [intOf]; omega
          · have e1 : st p = p / 2 := by unfold st; rw [if_neg ho]
            rw [e1] at HP hpl
            clear e1
            go_wp2
            go_round
            case rel => exact ⟨k + 1, _, by omega, by go_num, hpl, HP, rfl⟩
            case measure => simp [intOf]; omega
        · obtain rfl : k = 8 := by omega
          rw [← hpe.out] at HU
          go_wp2
          go_round
          case rel => exact ⟨j + 1, p, by omega, by go_num, hp, HU, rfl⟩
          case measure => simp [intOf]; omega
    · obtain rfl : j = s.size := by omega
      have hl : s.data.toList.take s.size = s.data.toList := List.take_of_length_le (by rw [HS.out]; omega)
      have h1 : bits .xor .u32 (q : Int) 4294967295 = ((q ^^^ 4294967295 : Nat) : Int) := u32_xor_nat q 4294967295 hq (by omega)
      rw [hl] at hqe
      rw [← hqe.out] at HM
      go_wp2
      go_ret
      exact ⟨by rw [HM.out]; rfl, rfl⟩
end Go.Proofs.YtjngnejmgfncnaaDoor
