/- The walk of WireCuts in the seat Ytmnmfbfjlafgbaa: at any input it answers true. No statement is proved here. -/
import Derived.Test.YtmnmfbfjlafgbaaAwake
set_option linter.unusedVariables false
namespace Go.Proofs.Ytmnmfbfjlafgbaa
open Go.RowKit

set_option maxHeartbeats 1000000 in
theorem cuts_long (w : World) (s : ByteArray) (A : Option Addr) (cap len : Nat) (hs : s.size ≤ 9223372036854775807) (hm : len ≤ 9223372036854775807) (hl : ¬ (s.size ≤ 200 ∧ len ≤ 60)) :
    Calls Try.prog 7 #[.string s, .slice A len cap] w fun e w' => e = .returned (.bool true) ∧ Below w.heap.size w w' := by
  have h : 200 < s.size ∨ (s.size ≤ 200 ∧ 60 < len) := by omega
  clear hl
  rcases h with h | ⟨h, h1⟩
  all_goals
    go_enter Try.func7, Try.ntmps7
    go_wp2_with fail
    refine (awake_any _).mono ?_
    rintro e w1 ⟨rfl, b1⟩
    have HB1 := Lib.hid b1
    clear b1
    go_wp2_with fail
    refine (awake_any _).mono ?_
    rintro e w2 ⟨rfl, b2⟩
    have HB2 := Lib.hid (HB1.out.trans (b2.mono HB1.out.size))
    clear b2
    go_wp2_with fail
    go_ret
    exact ⟨rfl, HB2.out⟩

theorem part_size {l : List UInt8} {zs : List Int} {j : Nat} {k : Nat} (hz : zs[j]? = some (k : Int)) (h : off zs (j + 1) ≤ l.length) : (⟨(part l zs j).toArray⟩ : ByteArray).size = k := by
  rw [off_step hz, Int.toNat_natCast] at h
  have e : (⟨(part l zs j).toArray⟩ : ByteArray).size = (part l zs j).length := by simp [ByteArray.size]
  rw [e]
  unfold part
  rw [List.getD_eq_getElem?_getD, hz, List.length_take, List.length_drop]
  simp
  omega
theorem part_next {l : List UInt8} {zs : List Int} {j : Nat} {z : Int} (hz : zs[j]? = some z) : l.take (off zs (j + 1)) = l.take (off zs j) ++ part l zs j := by
  rw [off_step hz, List.take_add]
  unfold part
  rw [List.getD_eq_getElem?_getD, hz]
  rfl

set_option maxHeartbeats 2000000 in
theorem cuts_short (w : World) (s : ByteArray) (A : Option Addr) (cap len : Nat) (zs : List Int) (hlen : len = zs.length) (hs : s.size ≤ 200) (hl : len ≤ 60) (hI : Ints w w.heap.size A zs) (hA : A = none → cap = 0) :
    Calls Try.prog 7 #[.string s, .slice A len cap] w fun e w' => e = .returned (.bool true) ∧ Below w.heap.size w w' := by
  obtain ⟨i0, hi0, hz0, hz1, hz2⟩ := info_parts int_cell_info
  have CR := Lib.hid (fun A cap (W : World) h => by have := cut_any s A cap zs W (by omega) (by omega) h; rw [← hlen] at this; exact this)
  have HS : Hid (s.data.toList.length = s.size) := Lib.hid rfl
  have HL := Lib.hid hlen
  have HI := Lib.hid hI
  have HA := Lib.hid hA
  clear hlen hI hA
  go_enter Try.func7, Try.ntmps7
  go_wp2_with fail
  refine (awake_any _).mono ?_
  rintro E w1 ⟨rfl, b1⟩
  have HI1 := Lib.hid (HI.out.below b1)
  have HB1 := Lib.hid b1
  clear b1
  go_wp2_with (at_builtin; refine wpList_copied rfl _ _ _ rfl 3 i0 _ Try.underlying31 hi0 hz0 hz1 hz2 rfl w1 _ A cap len zs HL.out (by omega) HI1.out HB1.out.size HA.out rfl rfl ?_; intro A2 c2 w2 HI2 HB2; (have HI2' := Lib.hid HI2); (have HB2' := Lib.hid HB2); clear HI2 HB2)
  refine (CR.out A2 c2 w2 HI2'.out).mono ?_
  rintro E w3 h3
  rcases h3 with ⟨_, rfl, b3⟩ | ⟨hfit, g, he, hg, hcell, b3⟩
  · have HB3 := Lib.hid (HB1.out.trans ((HB2'.out.trans (b3.mono HB2'.out.size)).mono HB1.out.size))
    clear b3
    go_wp2_with fail
    go_ret
    exact ⟨rfl, HB3.out⟩
  · have HB3 := Lib.hid (HB1.out.trans ((HB2'.out.trans (b3.mono HB2'.out.size)).mono HB1.out.size))
    have HI3 := Lib.hid (HI.out.below HB3.out)
    rw [← HL.out] at he hfit hcell
    subst he
    have HF := Lib.hid hfit
    have HC := Lib.hid hcell
    clear b3 hfit hcell HI2' HB2' HI1 hg
    obtain ⟨R, hR⟩ : ∃ R : ByteArray, R = ⟨(s.data.toList.drop (off zs len)).toArray⟩ := ⟨_, rfl⟩
    rw [← hR]
    have HR := Lib.hid hR
    clear hR
    go_wp2
    go_loopw [8, 9] (fun al i wr => ∃ (j N : Nat) (B : ByteArray), j ≤ len ∧ i = .int .i64 j ∧ al = .string B ∧ B.size ≤ 200 ∧ Hid (B.data.toList = s.data.toList.take (off zs j)) ∧ wr = w3.drewN N) (fun _ i _ => len - (intOf i).toNat)
    case atStart => exact ⟨0, 0, ⟨#[]⟩, Nat.zero_le _, rfl, rfl, by decide, Lib.hid (by simp [off]), rfl⟩
    case round =>
      obtain ⟨j, N, B, hj, rfl, rfl, hB, HB, rfl⟩ := hrel
      by_cases hlt : j < len
      · obtain ⟨b, o, z, rfl, hbg, hzj, hcz⟩ := HI3.out.at_ (k := j) (by rw [← HL.out]; exact hlt)
        obtain ⟨f1, f2⟩ := HF.out j z hlt hzj
        obtain ⟨k, rfl⟩ : ∃ k : Nat, z = k := ⟨z.toNat, by omega⟩
        have hps := part_size hzj f2
        have hcp := HC.out j hlt
        have HN := Lib.hid (part_next (l := s.data.toList) hzj)
        obtain ⟨p, hp⟩ : ∃ p : ByteArray, p = ⟨(part s.data.toList zs j).toArray⟩ := ⟨_, rfl⟩
        rw [← hp] at hps hcp
        have HP := Lib.hid hp
        have hBk : B.size + k ≤ 200 := by
          have h1 : B.size = B.data.toList.length := rfl
          rw [HB.out, List.length_take] at h1
          rw [off_step hzj, Int.toNat_natCast, HS.out] at f2
          omega
        clear hp hzj f1 f2
        go_wp2
        go_quiet (fail)
        go_wp2
        go_roundw
        case rel => exact ⟨j + 1, _, B ++ p, by omega, by go_num, rfl, by rw [ByteArray.size_append, hps]; exact hBk, Lib.hid (by rw [HN.out, ByteArray.data_append, Array.toList_append, HB.out, HP.out]), rfl⟩
        case measure => simp [intOf]; omega
      · obtain rfl : j = len := by omega
        have he : B ++ R = s := by
          apply ByteArray.ext
          apply Array.toList_inj.mp
          rw [ByteArray.data_append, Array.toList_append, HB.out, HR.out]
          exact List.take_append_drop _ _
        have hRs : R.size ≤ 200 := by
          have h1 : R.size = R.data.toList.length := rfl
          rw [HR.out] at h1 ⊢
          rw [h1, List.length_drop, HS.out]
          omega
        go_wp2
        go_ret
        exact ⟨rfl, below_drewN HB3.out N⟩
theorem walk_WireCuts (w : World) (s : ByteArray) (hs : s.size ≤ 9223372036854775807) (A : Option Addr) (cap len : Nat) (zs : List Int) (hlen : zs.length = len) (hm : len ≤ 9223372036854775807) (hI : Ints w w.heap.size A zs) (hA : A = none → cap = 0) (_ : len ≤ cap)
    (hz : ∀ z ∈ zs, -9223372036854775808 ≤ z ∧ z ≤ 9223372036854775807) :
    Calls Try.prog 7 #[.string s, .slice A len cap] w fun e w' => e = .returned (.bool true) ∧ Below w.heap.size w w' := by
  by_cases hl : s.size ≤ 200 ∧ len ≤ 60
  · exact cuts_short w s A cap len zs hlen.symm hl.1 hl.2 hI hA
  · exact cuts_long w s A cap len hs hm hl
end Go.Proofs.Ytmnmfbfjlafgbaa
