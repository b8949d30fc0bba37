/- The contracts of the document's own Check, All, Add and Two of layer 1 (trefoilref01) in the seat YtcphelemphchbaaDoor. No statement is proved here. -/
import Derived.Test.YtcphelemphchbaaDoorChecked
import Derived.Test.YtcphelemphchbaaDoorMem
import Derived.Test.YtcphelemphchbaaDoorNumMath
import Derived.KernelRfl
namespace Go.Proofs.YtcphelemphchbaaDoor
open Go.RowKit

theorem rcheck_any (n : Int) (w : World) : Calls Tryd.prog 20 #[.int .i64 n] w fun e w' => e = .returned (.int .i64 (chk n)) ∧ w = w' := by
  by_cases h1 : n < 0
  · rw [chk_low h1]
    go_enter Tryd.func20, Tryd.ntmps20
    go_wp2
    go_ret
    exact ⟨rfl, rfl⟩
  · by_cases h2 : 1099511627775 < n
    · rw [chk_high h2]
      go_enter Tryd.func20, Tryd.ntmps20
      go_wp2
      go_ret
      exact ⟨rfl, rfl⟩
    · rw [chk_ok (by omega) (by omega)]
      go_enter Tryd.func20, Tryd.ntmps20
      go_wp2
      go_ret
      exact ⟨rfl, rfl⟩

theorem all_any (B : Nat) (A : Option Addr) (cap : Nat) (zs : List Int) (w : World) (hl : zs.length ≤ 1099511627775) (hI : Ints w B A zs) :
    Calls Tryd.prog 22 #[.slice A zs.length cap] w fun e w' => e = .returned (.int .i64 (ff zs)) ∧ w = w' := by
  obtain ⟨len, hlen⟩ : ∃ len, len = zs.length := ⟨_, rfl⟩
  rw [← hlen] at hl ⊢
  have HL := Lib.hid hlen
  have HI := Lib.hid hI
  clear hI hlen
  go_enter Tryd.func22, Tryd.ntmps22
  go_wp2
  go_loop [3] (fun i => ∃ k : Nat, k ≤ len ∧ i = .int .i64 k ∧ Hid (ff (zs.take k) = 0)) (fun i => len - (intOf i).toNat)
  case atStart => exact ⟨0, Nat.zero_le _, rfl, Lib.hid rfl⟩
  case round =>
    obtain ⟨k, hk, rfl, hff⟩ := hrel
    by_cases hlt : k < len
    · obtain ⟨b, off, z, rfl, hbg, hz, hcell⟩ := HI.out.at_ (by rw [← HL.out]; exact hlt)
      have HZ := Lib.hid hz
      clear hz
      by_cases hc : chk z = 0
      · have C := Lib.hid (rcheck_any z w)
        rw [hc] at C
        have HC := Lib.hid hc
        clear hc
        go_wp2_with (go_at_call 20; refine C.out.mono ?_; rintro e w' ⟨rfl, rfl⟩)
        go_round
        case rel => exact ⟨k + 1, by omega, by go_num, Lib.hid (by rw [ff_step HZ.out hff.out, HC.out])⟩
        case measure => simp [intOf]; omega
      · have C := Lib.hid (rcheck_any z w)
        have e1 := Lib.hid (ff_early HZ.out hff.out hc)
        obtain ⟨c, hcc⟩ : ∃ c, c = chk z := ⟨_, rfl⟩
        rw [← hcc] at C hc e1
        have hb : (c != 0) = true := by simpa using hc
        clear hcc hc
        go_wp2_with (go_at_call 20; refine C.out.mono ?_; rintro e w' ⟨rfl, rfl⟩)
        go_ret
        exact ⟨by rw [e1.out]; rfl, rfl⟩
    · have hkl : k = len := by omega
      subst hkl
      go_wp2
      go_ret
      have e1 : ff zs = 0 := by
        have := hff.out
        rwa [HL.out, List.take_length] at this
      exact ⟨by rw [e1]; rfl, rfl⟩

theorem radd_any (B : Nat) (A : Option Addr) (cap : Nat) (zs : List Int) (w : World) (hl : zs.length ≤ 1099511627775) (hI : Ints w B A zs) :
    Calls Tryd.prog 12 #[.slice A zs.length cap] w fun e w' => e = .returned (.tuple #[.int .i64 (addS zs), .int .i64 (addE zs)]) ∧ w = w' := by
  have C := Lib.hid (all_any B A cap zs w hl hI)
  obtain ⟨len, hlen⟩ : ∃ len, len = zs.length := ⟨_, rfl⟩
  rw [← hlen] at hl ⊢
  by_cases h : ff zs = 0
  · rw [h, ← hlen] at C
    have HL := Lib.hid hlen
    have HI := Lib.hid hI
    have HF := Lib.hid h
    clear h hI hlen
    go_enter Tryd.func12, Tryd.ntmps12
    go_wp2_with (go_at_call 22; refine C.out.mono ?_; rintro e w' ⟨rfl, rfl⟩)
    go_loop [4, 5] (fun s i => ∃ k : Nat, k ≤ len ∧ i = .int .i64 k ∧ 0 ≤ total (zs.take k) ∧ total (zs.take k) ≤ 1099511627775 ∧ s = .int .i64 (1099511627775 - total (zs.take k))) (fun _ i => len - (intOf i).toNat)
    case atStart => exact ⟨0, Nat.zero_le _, rfl, by simp [total], by simp [total], rfl⟩
    case round =>
      obtain ⟨k, hk, rfl, ht0, ht1, rfl⟩ := hrel
      by_cases hlt : k < len
      · obtain ⟨b, off, z, rfl, hbg, hz, hcell⟩ := HI.out.at_ (by rw [← HL.out]; exact hlt)
        obtain ⟨z0, z1⟩ := ff_mem HF.out hz
        have HS := Lib.hid (total_step hz)
        clear hz
        obtain ⟨t, ht⟩ : ∃ t, t = total (zs.take k) := ⟨_, rfl⟩
        rw [← ht] at ht0 ht1 HS ⊢
        have HT := Lib.hid ht
        clear ht
        by_cases hover : 1099511627775 - t < z
        · go_wp2
          go_ret2
          have h9 : 1099511627775 < total zs := by
            have h8 := total_prefix (k + 1) HF.out
            rw [HS.out] at h8
            omega
          exact ⟨by rw [addS_over HF.out h9, addE_over HF.out h9]; rfl, rfl⟩
        · go_wp2
          go_round
          case rel => exact ⟨k + 1, by omega, by go_num, by rw [HS.out]; omega, by rw [HS.out]; omega, by rw [HS.out]; go_num⟩
          case measure => simp [intOf]; omega
      · have hkl : k = len := by omega
        subst hkl
        have e1 : zs.take k = zs := by rw [HL.out, List.take_length]
        rw [e1] at ht0 ht1 ⊢
        have HT := Lib.hid ht1
        clear e1
        obtain ⟨t, ht⟩ : ∃ t, t = total zs := ⟨_, rfl⟩
        rw [← ht] at ht0 ht1 ⊢
        have HT2 := Lib.hid ht
        clear ht
        go_wp2
        go_ret2
        exact ⟨by rw [addS_fine HF.out HT.out, addE_fine HF.out HT.out, ← HT2.out]; simp; omega, rfl⟩
  · rw [addS_bad h, addE_bad h]
    rw [← hlen] at C
    obtain ⟨c, hc⟩ : ∃ c, c = ff zs := ⟨_, rfl⟩
    rw [← hc] at C h ⊢
    have hb : (c != 0) = true := by simpa using h
    clear h hc hI hlen
    go_enter Tryd.func12, Tryd.ntmps12
    go_wp2_with (go_at_call 22; refine C.out.mono ?_; rintro e w' ⟨rfl, rfl⟩)
    go_ret2
    exact ⟨rfl, rfl⟩
end Go.Proofs.YtcphelemphchbaaDoor
