/- The walk of WireOnly in the seat Ytmnmfbfjlafgbaa: at any input it answers true. No statement is proved here. -/
import Derived.Test.YtmnmfbfjlafgbaaAwake
import Derived.Test.YtmnmfbfjlafgbaaLawMath
import Derived.Laws.Strings2
set_option linter.unusedVariables false
namespace Go.Proofs.Ytmnmfbfjlafgbaa
open Go.RowKit

set_option maxHeartbeats 1000000 in
theorem only_bad (w : World) (s : ByteArray) (i k : Int) (h1 : s.size ≤ 200) (hi : i ≤ 9223372036854775807) (hE : getE s.data.toList i k ≠ 0) :
    Calls Try.prog 5 #[.string s, .int .i64 i, .int .i64 k] w fun e w' => e = .returned (.bool true) ∧ Below w.heap.size w w' := by
  have C := Lib.hid (fun W => get_any s i k W (by omega) hi)
  rw [getS_bad hE] at C
  obtain ⟨c, hc⟩ : ∃ c, c = getE s.data.toList i k := ⟨_, rfl⟩
  rw [← hc] at C hE
  have hb : (c != 0) = true := by simpa using hE
  clear hE hc
  go_enter Try.func5, Try.ntmps5
  go_wp2_with fail
  refine (awake_any _).mono ?_
  rintro e w1 ⟨rfl, b1⟩
  have HB1 := Lib.hid b1
  clear b1
  go_wp2_with fail
  refine (C.out _).mono ?_
  rintro e w2 ⟨rfl, b2⟩
  have HB2 := Lib.hid (HB1.out.trans (b2.mono HB1.out.size))
  clear b2
  go_wp2_with fail
  go_ret
  exact ⟨rfl, HB2.out⟩
set_option maxHeartbeats 1000000 in
theorem only_fine (w : World) (s : ByteArray) (a m : Nat) (n : Int) (h1 : s.size ≤ 200) (h2 : a + m ≤ s.size)
    (hC : ∀ W : World, Calls Try.prog 12 #[.string s, .int .i64 a, .int .i64 m] W fun e w' => e = .returned (.tuple #[.int .i64 n, .int .i64 0]) ∧ Below W.heap.size W w')
    (hD : ∀ W : World, Calls Try.prog 10 #[.int .i64 n, .int .i64 m] W fun e w' => e = .returned (.tuple #[.string (s.extract a (a + m)), .int .i64 0]) ∧ Below W.heap.size W w') :
    Calls Try.prog 5 #[.string s, .int .i64 a, .int .i64 m] w fun e w' => e = .returned (.bool true) ∧ Below w.heap.size w w' := by
  have C := Lib.hid hC
  have D := Lib.hid hD
  have d1 : decide (a ≤ s.size - m) = true := by rw [decide_eq_true_iff]; omega
  have d2 : decide ((a : Int) ≤ (s.size : Int) - (m : Int)) = true := by rw [decide_eq_true_iff]; omega
  have hsl : ∀ W : World, (Instr.slice 9 (.string s) (some (.int .i64 a)) (some (.int .i64 ((a : Int) + (m : Int)))) none).run Try.prog W = .ok (.string (s.extract a (a + m))) W := fun W =>
    run_slice_string W 9 s .i64 .i64 a ((a : Int) + (m : Int)) Try.underlying9 (by omega) (by omega) (by omega)
  clear hC hD
  go_enter Try.func5, Try.ntmps5
  go_wp2_with fail
  refine (awake_any _).mono ?_
  rintro e w1 ⟨rfl, b1⟩
  have HB1 := Lib.hid b1
  clear b1
  go_wp2_with fail
  refine (C.out _).mono ?_
  rintro e w2 ⟨rfl, b2⟩
  have HB2 := Lib.hid (HB1.out.trans (b2.mono HB1.out.size))
  clear b2
  go_wp2_with fail
  refine (D.out _).mono ?_
  rintro e w3 ⟨rfl, b3⟩
  have HB3 := Lib.hid (HB2.out.trans (b3.mono HB2.out.size))
  clear b3
  go_wp2_with fail
  go_ret
  exact ⟨rfl, HB3.out⟩
theorem walk_WireOnly (w : World) (s : ByteArray) (hs : s.size ≤ 9223372036854775807) (i : Int) (hi : (Lit.int .i64 i).wf = true) (k : Int) (hk : (Lit.int .i64 k).wf = true) :
    Calls Try.prog 5 #[.string s, .int .i64 i, .int .i64 k] w fun e w' => e = .returned (.bool true) ∧ Below w.heap.size w w' := by
  have bi := i64_bounds hi
  by_cases hl : s.size ≤ 200
  · by_cases hE : getE s.data.toList i k = 0
    · obtain ⟨hw, ht, hN⟩ := getE_zero hE
      obtain ⟨P, hP⟩ := pow_of hw
      obtain ⟨m, rfl, _, h8, _⟩ := hP.nat
      have ht' : 0 ≤ i ∧ i + m ≤ s.size := by simpa [there] using ht
      obtain ⟨a, rfl⟩ : ∃ a : Nat, i = a := ⟨i.toNat, by omega⟩
      obtain ⟨p1, p2⟩ := put_got hE
      refine only_fine w s a m (getS s.data.toList a m) hl (by omega) (fun W => by have := get_any s a m W hs bi.2; rwa [hE] at this) (fun W => ?_)
      have h := put_any (getS s.data.toList a m) m W (by rw [getS_fine hw ht hN]; omega)
      rw [p1, p2] at h
      have e : (⟨(atL s.data.toList a m).toArray⟩ : ByteArray) = s.extract a (a + m) := by
        apply ByteArray.ext
        apply Array.toList_inj.mp
        rw [Lib.extract_data, show a + m - a = m by omega]
        simp [atL]
      rwa [e] at h
    · exact only_bad w s i k hl bi.2 hE
  · clear hk hi bi
    go_enter Try.func5, Try.ntmps5
    go_wp2_with fail
    refine (awake_any _).mono ?_
    rintro e w1 ⟨rfl, b1⟩
    have HB1 := Lib.hid b1
    clear b1
    go_wp2_with fail
    refine (awake_any _).mono ?_
    rintro e w2 ⟨rfl, b2⟩
    have HB2 := Lib.hid (HB1.out.trans (b2.mono HB1.out.size))
    clear b2
    go_wp2_with fail
    go_ret
    exact ⟨rfl, HB2.out⟩
end Go.Proofs.Ytmnmfbfjlafgbaa
