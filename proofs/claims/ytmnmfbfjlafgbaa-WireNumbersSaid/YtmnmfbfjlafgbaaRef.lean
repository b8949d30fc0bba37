/- The contracts of the document's own Wide, Put and Get of layer 2 (trefoilref02) in the seat Ytmnmfbfjlafgbaa. No statement is proved here. -/
import Derived.Test.YtmnmfbfjlafgbaaChecked
import Derived.WalkKit
import Derived.Below
import Derived.KernelRfl
import Derived.Handy
import Derived.Test.YtmnmfbfjlafgbaaMath
namespace Go.Proofs.Ytmnmfbfjlafgbaa
open Go.RowKit Go.Lib

theorem rwide_any (k : Int) (w : World) : Calls Try.prog 21 #[.int .i64 k] w fun e w' => e = .returned (.bool (wide k)) ∧ w = w' := by
  by_cases h1 : k = 1
  · subst h1
    go_enter Try.func21, Try.ntmps21
    go_wp2
    go_ret
    exact ⟨rfl, rfl⟩
  by_cases h2 : k = 2
  · subst h2
    go_enter Try.func21, Try.ntmps21
    go_wp2
    go_ret
    exact ⟨rfl, rfl⟩
  by_cases h3 : k = 4
  · subst h3
    go_enter Try.func21, Try.ntmps21
    go_wp2
    go_ret
    exact ⟨rfl, rfl⟩
  by_cases h4 : k = 8
  · subst h4
    go_enter Try.func21, Try.ntmps21
    go_wp2
    go_ret
    exact ⟨rfl, rfl⟩
  have e1 : (k == 1) = false := by simpa using h1
  have e2 : (k == 2) = false := by simpa using h2
  have e3 : (k == 4) = false := by simpa using h3
  have e4 : (k == 8) = false := by simpa using h4
  have hw : wide k = false := by simp [wide, e1, e2, e3, e4]
  rw [hw]
  clear h1 h2 h3 h4 hw
  go_enter Try.func21, Try.ntmps21
  go_wp2
  go_ret
  exact ⟨rfl, rfl⟩
theorem rwide_yes {k : Int} (h : wide k = true) (w : World) : Calls Try.prog 21 #[.int .i64 k] w fun e w' => e = .returned (.bool true) ∧ w = w' := h ▸ rwide_any k w
theorem rwide_no {k : Int} (h : wide k = false) (w : World) : Calls Try.prog 21 #[.int .i64 k] w fun e w' => e = .returned (.bool false) ∧ w = w' := h ▸ rwide_any k w

/-- One byte as a string. -/
theorem conv1 (w : World) (a : Int) (t : TypeId) : (convert 42 9 (.slice (some ⟨w.heap.size, 0, none⟩) 1 1)).run Try.prog (w.alloc (.cells #[.int .u8 a] t)) = .ok (.string (strOfNums [a])) (w.alloc (.cells #[.int .u8 a] t)) :=
  run_convert_bytes_arg _ 42 5 Try.underlying42 Try.underlying5 w.heap.size 0 1 1 [a] rfl (fun i hi => by
    rw [World.cell?_alloc_at _ _ _ _ rfl, Nat.zero_add]
    match i, hi with
    | 0, _ => rfl) 9 Try.underlying9

theorem str_snoc (j n q : Nat) (h : q = n / 256 ^ j) : (⟨(Lib.leBytes j n).toArray⟩ : ByteArray) ++ strOfNums [(q : Int) % 256] = ⟨(Lib.leBytes (j + 1) n).toArray⟩ := by
  rw [leBytes_snoc, ← h]
  apply ByteArray.ext
  rw [ByteArray.data_append]
  simp [strOfNums, ofNat_toNat]
theorem rput_loop (n m : Nat) (w : World) (hw : wide m = true) (hn : n ≤ 9223372036854775807) :
    Calls Try.prog 11 #[.int .i64 n, .int .i64 m] w fun e w' => e = .returned (.tuple #[.string ⟨(putL n m).toArray⟩, .int .i64 (putE n m)]) ∧ Below w.heap.size w w' := by
  have C := Lib.hid (fun W => rwide_yes hw W)
  obtain ⟨P, hP⟩ := pow_of hw
  have hm : m ≤ 8 ∧ ((256 ^ m : Nat) : Int) = P := by
    obtain ⟨m', h, h1, h8, e⟩ := hP.nat
    obtain rfl : m = m' := by omega
    exact ⟨h8, e⟩
  obtain ⟨h8, hPe⟩ := hm
  have HF := Lib.hid (fits_iff (n := n) hP)
  have HE := Lib.hid hPe
  have HW := Lib.hid hw
  clear hP hw hPe
  go_enter Try.func11, Try.ntmps11
  go_wp2_with fail
  refine (C.out _).mono ?_
  rintro e w' ⟨rfl, rfl⟩
  go_wp2
  go_loopw [0, 6, 7] (fun n' s i wr => ∃ j q : Nat, j ≤ m ∧ i = .int .i64 j ∧ q ≤ 9223372036854775807 ∧ Hid (q = n / 256 ^ j) ∧ n' = .int .i64 q ∧ s = .string ⟨(Lib.leBytes j n).toArray⟩ ∧ Below w.heap.size w wr) (fun _ _ i _ => m - (intOf i).toNat)
  case atStart => exact ⟨0, n, Nat.zero_le _, rfl, hn, Lib.hid (by simp), rfl, rfl, Below.refl _ _⟩
  case round =>
    obtain ⟨j, q, hj, rfl, hq, hqe, rfl, rfl, hbel⟩ := hrel
    by_cases hlt : j < m
    · have hcv := conv1 wr ((q : Int) % 256) 5
      have hl : (Lib.leBytes j n).length + (strOfNums [(q : Int) % 256]).size ≤ 9223372036854775807 := by rw [Lib.leBytes_length, strOfNums_size]; simp; omega
      go_wp2
      go_roundw
      case rel => exact ⟨j + 1, q / 256, by omega, by go_num, by omega, Lib.hid (by rw [hqe.out, Nat.div_div_eq_div_mul, Nat.pow_succ]), by go_num, by rw [str_snoc j n q hqe.out], hbel.alloc hbel.size _⟩
      case measure => simp [intOf]; omega
    · obtain rfl : j = m := by omega
      by_cases h0 : q = 0
      · subst h0
        have hf : fits n j = true := HF.out.mpr ⟨by omega, by
          have := hqe.out
          have h1 : n < 256 ^ j := by
            rcases Nat.lt_or_ge n (256 ^ j) with h | h
            · exact h
            · have := Nat.div_pos h (Nat.pow_pos (by omega)); omega
          rw [← HE.out]; omega⟩
        go_wp2
        go_ret2
        exact ⟨by rw [putL_fine HW.out hf, putE_fine HW.out hf]; rfl, hbel⟩
      · have hf : fits n j = false := by
          rw [Bool.eq_false_iff]
          intro h
          have h1 := (HF.out.mp h).2
          rw [← HE.out] at h1
          have : n / 256 ^ j = 0 := Nat.div_eq_of_lt (by omega)
          exact h0 (hqe.out.trans this)
        have hb : ((q : Int) != 0) = true := by simp; omega
        go_wp2
        go_ret2
        exact ⟨by rw [putL_great hf, putE_great HW.out hf]; rfl, hbel⟩
theorem rput_any (n k : Int) (w : World) (hm : n ≤ 9223372036854775807) :
    Calls Try.prog 11 #[.int .i64 n, .int .i64 k] w fun e w' => e = .returned (.tuple #[.string ⟨(putL n k).toArray⟩, .int .i64 (putE n k)]) ∧ Below w.heap.size w w' := by
  cases hw : wide k with
  | false =>
    have C := Lib.hid (fun W => rwide_no hw W)
    rw [putL_wide hw, putE_wide hw]
    clear hw
    go_enter Try.func11, Try.ntmps11
    go_wp2_with fail
    refine (C.out _).mono ?_
    rintro e w' ⟨rfl, rfl⟩
    go_wp2
    go_ret2
    exact ⟨rfl, Below.refl _ _⟩
  | true =>
    by_cases h0 : n < 0
    · have hf : fits n k = false := by unfold fits; rw [decide_eq_false_iff_not]; omega
      have C := Lib.hid (fun W => rwide_yes hw W)
      rw [putL_great hf, putE_great hw hf]
      clear hw hf
      go_enter Try.func11, Try.ntmps11
      go_wp2_with fail
      refine (C.out _).mono ?_
      rintro e w' ⟨rfl, rfl⟩
      go_wp2
      go_ret2
      exact ⟨rfl, Below.refl _ _⟩
    · obtain ⟨P, hP⟩ := pow_of hw
      obtain ⟨m, rfl, _⟩ := hP.nat
      obtain ⟨j, rfl⟩ : ∃ j : Nat, n = j := ⟨n.toNat, by omega⟩
      exact rput_loop j m w hw (by omega)
end Go.Proofs.Ytmnmfbfjlafgbaa
