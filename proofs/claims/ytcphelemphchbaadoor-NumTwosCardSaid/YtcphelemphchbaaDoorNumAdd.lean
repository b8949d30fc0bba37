/- The contract of num.Add in the seat YtcphelemphchbaaDoor: the sum of all, or the first error. No statement is proved here. -/
import Derived.Test.YtcphelemphchbaaDoorNumFirst
namespace Go.Proofs.YtcphelemphchbaaDoor
open Go.RowKit

set_option maxHeartbeats 400000 in
theorem add_any (A : Option Addr) (cap : Nat) (zs : List Int) (w : World) (hl : zs.length ≤ 1099511627775) (hI : Ints w w.heap.size A zs) :
    Calls Tryd.prog 11 #[.slice A zs.length cap] w fun e w' => e = .returned (.tuple #[.int .i64 (addS zs), .int .i64 (addE zs)]) ∧ Below w.heap.size w w' := by
  have C := Lib.hid (first_any A cap zs w hl hI)
  obtain ⟨len, hlen⟩ : ∃ len, len = zs.length := ⟨_, rfl⟩
  rw [← hlen] at hl ⊢
  by_cases h : ff zs = 0
  · rw [h, ← hlen] at C
    have HL := Lib.hid hlen
    have HI := Lib.hid hI
    have HF := Lib.hid h
    clear h hI hlen
    go_enter Tryd.func11, Tryd.ntmps11
    go_wp2_with fail
    refine C.out.mono ?_
    rintro e w1 ⟨rfl, hb⟩
    have HI1 := Lib.hid (HI.out.below hb)
    clear C HI
    go_wp2_with fail
    go_loop [5, 15] (fun s i => ∃ k : Nat, k ≤ len ∧ i = .int .i64 k ∧ 0 ≤ total (zs.take k) ∧ total (zs.take k) ≤ 1099511627775 ∧ s = .int .i64 (total (zs.take k))) (fun _ i => len - (intOf i).toNat)
    case atStart => exact ⟨0, Nat.zero_le _, rfl, by simp [total], by simp [total], rfl⟩
    case round =>
      obtain ⟨k, hk, rfl, ht0, ht1, rfl⟩ := hrel
      by_cases hlt : k < len
      · obtain ⟨b, off, z, rfl, hbg, hz, hcell⟩ := HI1.out.at_ (by rw [← HL.out]; exact hlt)
        obtain ⟨z0, z1⟩ := ff_mem HF.out hz
        have HS := Lib.hid (total_step hz)
        clear hz
        obtain ⟨t, ht⟩ : ∃ t, t = total (zs.take k) := ⟨_, rfl⟩
        rw [← ht] at ht0 ht1 HS ⊢
        have HT := Lib.hid ht
        clear ht
        by_cases hover : 1099511627775 < t + z
        · go_wp2
          go_ret2
          have h9 : 1099511627775 < total zs := by
            have h8 := total_prefix (k + 1) HF.out
            rw [HS.out] at h8
            omega
          exact ⟨by rw [addS_over HF.out h9, addE_over HF.out h9]; rfl, hb⟩
        · go_wp2
          go_round
          case rel => exact ⟨k + 1, by omega, by go_num, by rw [HS.out]; omega, by rw [HS.out]; omega, by rw [HS.out]⟩
          case measure => simp [intOf]; omega
      · have hkl : k = len := by omega
        subst hkl
        have e1 : zs.take k = zs := by rw [HL.out, List.take_length]
        rw [e1] at ht1 ⊢
        have HT := Lib.hid ht1
        clear e1 ht0 ht1
        obtain ⟨t, ht⟩ : ∃ t, t = total zs := ⟨_, rfl⟩
        rw [← ht]
        have HT2 := Lib.hid ht
        clear ht
        go_wp2
        go_ret2
        exact ⟨by rw [addS_fine HF.out HT.out, addE_fine HF.out HT.out, ← HT2.out]; rfl, hb⟩
  · rw [addS_bad h, addE_bad h]
    rw [← hlen] at C
    obtain ⟨c, hc⟩ : ∃ c, c = ff zs := ⟨_, rfl⟩
    rw [← hc] at C h ⊢
    have hb : (c != 0) = true := by simpa using h
    clear h hc hI hlen
    go_enter Tryd.func11, Tryd.ntmps11
    go_wp2_with fail
    refine C.out.mono ?_
    rintro e w' ⟨rfl, hbel⟩
    go_wp2
    go_ret2
    exact ⟨rfl, hbel⟩
end Go.Proofs.YtcphelemphchbaaDoor
