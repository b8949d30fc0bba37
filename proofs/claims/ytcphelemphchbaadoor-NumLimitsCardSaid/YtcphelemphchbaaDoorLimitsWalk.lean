/- The walk of NumLimits in the seat YtcphelemphchbaaDoor: at any numbers it answers true. No statement is proved here. -/
import Derived.Test.YtcphelemphchbaaDoorTellsWalk
namespace Go.Proofs.YtcphelemphchbaaDoor
open Go.RowKit

theorem add_at (A : Option Addr) (cap len : Nat) (ys : List Int) (t f : Int) (ht : t = addS ys) (hf : f = addE ys) (hlen : len = ys.length) (hl : len ≤ 60) (W : World) (h : Ints W W.heap.size A ys) :
    Calls Tryd.prog 11 #[.slice A len cap] W fun e w' => e = .returned (.tuple #[.int .i64 t, .int .i64 f]) ∧ Below W.heap.size W w' := by
  subst hlen ht hf
  exact add_any A cap ys W (by omega) h

set_option maxHeartbeats 2000000 in
theorem limits_short (A : Option Addr) (cap : Nat) (zs : List Int) (w : World) (hl : zs.length ≤ 60) (hI : Ints w w.heap.size A zs) (hT : Tab64 w) (hA : A = none → cap = 0) (hcap : zs.length ≤ cap)
    (s e : Int) (hs : addS zs = s) (he : addE zs = e) (hcase : (e == 0) = false ∧ (e != 0) = true ∧ (s == 0) = true ∨ (e == 0) = true ∧ (e != 0) = false ∧ chk s = 0)
    (hpre : Hid ((e == 0) = true → ∀ i : Nat, addE (zs.take i) = 0 ∧ addS (zs.take i) ≤ s)) :
    Calls Tryd.prog 8 #[.slice A zs.length cap] w fun e w' => e = .returned (.bool true) ∧ Below w.heap.size w w' := by
  obtain ⟨i0, hi0, hz0, hz1, hz2⟩ := info_parts int_info
  obtain ⟨len, hlen⟩ : ∃ len, len = zs.length := ⟨_, rfl⟩
  have CA := Lib.hid (fun A cap W h => hlen ▸ hs ▸ he ▸ add_any A cap zs W (by omega) h)
  rw [← hlen] at hl hcap ⊢
  have HL := Lib.hid hlen
  have HI := Lib.hid hI
  have HT := Lib.hid hT
  have HA := Lib.hid hA
  clear hlen hI hT hA hs he
  go_enter Tryd.func8, Tryd.ntmps8
  go_wp2_with fail
  refine (awake_any _ HT.out).mono ?_
  rintro e' w1 ⟨rfl, b1⟩
  have HI1 := Lib.hid (HI.out.below b1)
  have HB1 := Lib.hid b1
  clear b1
  go_wp2_with (at_builtin; refine wpList_copied rfl _ _ _ rfl 3 i0 _ Tryd.underlying22 hi0 hz0 hz1 hz2 rfl w1 _ A cap len zs HL.out (by omega) HI1.out HB1.out.size HA.out rfl rfl ?_; intro A2 c2 w2 HI2 HB2; (have HI2' := Lib.hid HI2); (have HB2' := Lib.hid HB2); clear HI2 HB2)
  refine (CA.out A2 c2 w2 HI2'.out).mono ?_
  rintro e' w3 ⟨rfl, b3⟩
  have HB3 := Lib.hid (HB1.out.trans ((HB2'.out.trans (b3.mono HB2'.out.size)).mono HB1.out.size))
  clear b3 CA HB2' HI2' HI1 HB1
  go_wp2_with fail
  go_loopw [5] (fun i wr => ∃ k : Nat, k ≤ len ∧ i = .int .i64 k ∧ Hid (Below w.heap.size w wr)) (fun i _ => len - (intOf i).toNat)
  case atStart => exact ⟨0, Nat.zero_le _, rfl, HB3⟩
  case round =>
    obtain ⟨k, hk, rfl, hbel⟩ := hrel
    by_cases hlt : k < len
    · obtain ⟨b, off, z, rfl, hbg, hz, hcell⟩ := HI.out.at_ (by rw [← HL.out]; exact hlt)
      clear hz hcell hbg
      have HIk := Lib.hid ((HI.out.below hbel.out).take k)
      obtain ⟨ys, hys⟩ : ∃ ys, ys = zs.take k := ⟨_, rfl⟩
      have HLk : Hid (k = ys.length) := Lib.hid (by rw [hys, List.length_take, ← HL.out]; omega)
      rw [← hys] at HIk
      rcases hcase with ⟨n1, n2, n3⟩ | ⟨n1, n2, n3⟩
      · obtain ⟨t, ht⟩ : ∃ t, t = addS ys := ⟨_, rfl⟩
        obtain ⟨f, hf⟩ : ∃ f, f = addE ys := ⟨_, rfl⟩
        have CK := Lib.hid (fun A cap W h => add_at A cap k ys t f ht hf HLk.out (by omega) W h)
        clear ht hf hys
        go_wp2_with (at_builtin; refine wpList_copied rfl _ _ _ rfl 3 i0 _ Tryd.underlying22 hi0 hz0 hz1 hz2 rfl wr _ (some ⟨b, off, none⟩) cap k ys HLk.out (by omega) HIk.out hbel.out.size (fun h => by cases h) rfl rfl ?_; intro A3 c3 w4 HI4 HB4; (have HI4' := Lib.hid HI4); (have HB4' := Lib.hid HB4); clear HI4 HB4)
        refine (CK.out A3 c3 w4 HI4'.out).mono ?_
        rintro e' w5 ⟨rfl, b5⟩
        have HB5 := Lib.hid (hbel.out.trans ((HB4'.out.trans (b5.mono HB4'.out.size)).mono hbel.out.size))
        clear b5
        cases hf11 : (f == 11)
        all_goals
          go_wp2
          go_roundw
          case rel => exact ⟨k + 1, by omega, by go_num, HB5⟩
          case measure => simp [intOf]; omega
      · obtain ⟨p1, p2⟩ := hpre.out n1 k
        rw [← hys] at p1 p2
        obtain ⟨t, ht⟩ : ∃ t, t = addS ys := ⟨_, rfl⟩
        rw [← ht] at p2
        have CK := Lib.hid (fun A cap W h => add_at A cap k ys t 0 ht p1.symm HLk.out (by omega) W h)
        clear ht hys p1
        go_wp2_with (at_builtin; refine wpList_copied rfl _ _ _ rfl 3 i0 _ Tryd.underlying22 hi0 hz0 hz1 hz2 rfl wr _ (some ⟨b, off, none⟩) cap k ys HLk.out (by omega) HIk.out hbel.out.size (fun h => by cases h) rfl rfl ?_; intro A3 c3 w4 HI4 HB4; (have HI4' := Lib.hid HI4); (have HB4' := Lib.hid HB4); clear HI4 HB4)
        refine (CK.out A3 c3 w4 HI4'.out).mono ?_
        rintro e' w5 ⟨rfl, b5⟩
        have HB5 := Lib.hid (hbel.out.trans ((HB4'.out.trans (b5.mono HB4'.out.size)).mono hbel.out.size))
        clear b5
        go_wp2
        go_roundw
        case rel => exact ⟨k + 1, by omega, by go_num, HB5⟩
        case measure => simp [intOf]; omega
    · rcases hcase with ⟨n1, n2, n3⟩ | ⟨n1, n2, n3⟩
      · go_wp2
        go_ret
        exact ⟨rfl, hbel.out⟩
      · have CC := Lib.hid (check_any s wr)
        rw [n3] at CC
        clear n3
        go_wp2_with (go_at_call 19; refine CC.out.mono ?_; rintro e' w' ⟨rfl, rfl⟩)
        go_ret
        exact ⟨rfl, hbel.out⟩

theorem limits_long (A : Option Addr) (cap len : Nat) (w : World) (hl : 60 < len) (hm : len ≤ 9223372036854775807) (hT : Tab64 w) :
    Calls Tryd.prog 8 #[.slice A len cap] w fun e w' => e = .returned (.bool true) ∧ Below w.heap.size w w' := by
  have HT := Lib.hid hT
  clear hT
  go_enter Tryd.func8, Tryd.ntmps8
  go_wp2_with fail
  refine (awake_any _ HT.out).mono ?_
  rintro e w1 ⟨rfl, b1⟩
  have HB1 := Lib.hid b1
  clear b1
  have HT1 := Lib.hid (HT.out.below HB1.out HT.out.lt)
  go_wp2_with fail
  refine (awake_any _ HT1.out).mono ?_
  rintro e w2 ⟨rfl, b2⟩
  have HB2 := Lib.hid (HB1.out.trans (b2.mono HB1.out.size))
  clear b2
  go_wp2_with fail
  go_ret
  exact ⟨rfl, HB2.out⟩

theorem addE_nought {zs : List Int} (h : addE zs = 0) : ff zs = 0 ∧ total zs ≤ 1099511627775 := by
  by_cases h1 : ff zs = 0
  · by_cases h2 : 1099511627775 < total zs
    · rw [addE_over h1 h2] at h; omega
    · exact ⟨h1, by omega⟩
  · rw [addE_bad h1] at h; exact absurd h h1
theorem walk_NumLimits (w : World) (A : Option Addr) (cap len : Nat) (zs : List Int) (hlen : zs.length = len) (hm : len ≤ 9223372036854775807) (hI : Ints w w.heap.size A zs) (hA : A = none → cap = 0) (hcap : len ≤ cap) (hT : Tab64 w) :
    Calls Tryd.prog 8 #[.slice A len cap] w fun e w' => e = .returned (.bool true) ∧ Below w.heap.size w w' := by
  by_cases h : len ≤ 60
  · subst hlen
    refine limits_short A cap zs w h hI hT hA hcap _ _ rfl rfl ?_ (Lib.hid fun he i => ?_)
    · by_cases he : addE zs = 0
      · obtain ⟨h1, h2⟩ := addE_nought he
        refine .inr ⟨by simpa using he, by simpa using he, ?_⟩
        rw [addS_fine h1 h2]
        exact chk_ok (total_pos h1) h2
      · refine .inl ⟨by simpa using he, by simpa using he, ?_⟩
        by_cases h1 : ff zs = 0
        · by_cases h2 : 1099511627775 < total zs
          · rw [addS_over h1 h2]; rfl
          · exact absurd (addE_fine h1 (by omega)) he
        · rw [addS_bad h1]; rfl
    · obtain ⟨h1, h2⟩ := addE_nought (by simpa using he)
      have h3 := ff_prefix i h1
      have h4 := total_prefix i h1
      rw [addE_fine h3 (by omega), addS_fine h3 (by omega), addS_fine h1 h2]
      exact ⟨rfl, h4⟩
  · exact limits_long A cap len w (by omega) hm hT
end Go.Proofs.YtcphelemphchbaaDoor
