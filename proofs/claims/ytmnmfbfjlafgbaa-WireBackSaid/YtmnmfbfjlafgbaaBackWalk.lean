/- The walk of WireBack in the seat Ytmnmfbfjlafgbaa: at any input it answers true. No statement is proved here. -/
import Derived.Test.YtmnmfbfjlafgbaaAwake
import Derived.Test.YtmnmfbfjlafgbaaLawMath
set_option linter.unusedVariables false
namespace Go.Proofs.Ytmnmfbfjlafgbaa
open Go.RowKit

theorem size_mk (l : List UInt8) : (⟨l.toArray⟩ : ByteArray).size = l.length := by simp [ByteArray.size]
theorem str_ne {S T : ByteArray} (h : ¬ S = T) : (S.toList == T.toList) = false := by
  rw [beq_eq_false_iff_ne, ByteArray.toList_eq, ByteArray.toList_eq]
  intro e
  exact h (ByteArray.ext (Array.toList_inj.mp e))
theorem data_mk (l : List UInt8) : (⟨l.toArray⟩ : ByteArray).data.toList = l := rfl
theorem put_bad {n k : Int} (h : putE n k ≠ 0) (hn : n ≤ 9223372036854775807) (w : World) : Calls Try.prog 10 #[.int .i64 n, .int .i64 k] w fun e w' => e = .returned (.tuple #[.string ⟨#[]⟩, .int .i64 (putE n k)]) ∧ Below w.heap.size w w' := by
  have := put_any n k w hn
  rwa [putL_bad h] at this

set_option maxHeartbeats 1000000 in
theorem back_long (w : World) (n m k : Int) (a b : ByteArray) (hl : ¬ (a.size ≤ 100 ∧ b.size ≤ 100)) :
    Calls Try.prog 4 #[.int .i64 n, .int .i64 m, .int .i64 k, .string a, .string b] w fun e w' => e = .returned (.bool true) ∧ Below w.heap.size w w' := by
  by_cases h1 : a.size ≤ 100
  · have h2 : 100 < b.size := by omega
    clear hl
    go_enter Try.func4, Try.ntmps4
    go_wp2_with fail
    refine (awake_any _).mono ?_
    rintro e w1 ⟨rfl, b1⟩
    have HB1 := Lib.hid b1
    clear b1
    go_wp2_with fail
    refine (awake_any _).mono ?_
    rintro e w2 ⟨rfl, b2⟩
    have HB2 := Lib.hid (HB1.out.trans (b2.mono HB1.out.size))
    clear b2
    go_wp2_with fail
    go_ret
    exact ⟨rfl, HB2.out⟩
  · have h2 : 100 < a.size := by omega
    clear hl h1
    go_enter Try.func4, Try.ntmps4
    go_wp2_with fail
    refine (awake_any _).mono ?_
    rintro e w1 ⟨rfl, b1⟩
    have HB1 := Lib.hid b1
    clear b1
    go_wp2_with fail
    refine (awake_any _).mono ?_
    rintro e w2 ⟨rfl, b2⟩
    have HB2 := Lib.hid (HB1.out.trans (b2.mono HB1.out.size))
    clear b2
    go_wp2_with fail
    go_ret
    exact ⟨rfl, HB2.out⟩

set_option maxHeartbeats 1000000 in
theorem back_bad (w : World) (n m k : Int) (a b : ByteArray) (h1 : a.size ≤ 100) (h2 : b.size ≤ 100) (hn : n ≤ 9223372036854775807) (hm : m ≤ 9223372036854775807) (hE : putE n k ≠ 0) :
    Calls Try.prog 4 #[.int .i64 n, .int .i64 m, .int .i64 k, .string a, .string b] w fun e w' => e = .returned (.bool true) ∧ Below w.heap.size w w' := by
  have C := Lib.hid (fun W => put_bad hE hn W)
  obtain ⟨c, hc⟩ : ∃ c, c = putE n k := ⟨_, rfl⟩
  rw [← hc] at C hE
  have hb : (c != 0) = true := by simpa using hE
  clear hE hc
  go_enter Try.func4, Try.ntmps4
  go_wp2_with fail
  refine (awake_any _).mono ?_
  rintro e w1 ⟨rfl, b1⟩
  have HB1 := Lib.hid b1
  clear b1
  go_wp2_with fail
  refine (C.out _).mono ?_
  rintro e w2 ⟨rfl, b2⟩
  have HB2 := Lib.hid (HB1.out.trans (b2.mono HB1.out.size))
  clear b2
  go_wp2_with fail
  refine (put_any m k _ hm).mono ?_
  rintro e w3 ⟨rfl, b3⟩
  have HB3 := Lib.hid (HB2.out.trans (b3.mono HB2.out.size))
  clear b3
  go_wp2_with fail
  go_ret
  exact ⟨rfl, HB3.out⟩

set_option maxHeartbeats 1000000 in
theorem back_fine (w : World) (n m : Int) (j : Nat) (a b S T : ByteArray) (f : Int) (h1 : a.size ≤ 100) (h2 : b.size ≤ 100) (hS : S.size = j) (hj : j ≤ 8)
    (hC : ∀ W : World, Calls Try.prog 10 #[.int .i64 n, .int .i64 j] W fun e w' => e = .returned (.tuple #[.string S, .int .i64 0]) ∧ Below W.heap.size W w')
    (hD : ∀ W : World, Calls Try.prog 10 #[.int .i64 m, .int .i64 j] W fun e w' => e = .returned (.tuple #[.string T, .int .i64 f]) ∧ Below W.heap.size W w')
    (hG : ∀ W : World, Calls Try.prog 12 #[.string (a ++ S ++ b), .int .i64 a.size, .int .i64 j] W fun e w' => e = .returned (.tuple #[.int .i64 n, .int .i64 0]) ∧ Below W.heap.size W w')
    (hF : (f != 0) = true ∨ (f = 0 ∧ (S = T ↔ n = m))) :
    Calls Try.prog 4 #[.int .i64 n, .int .i64 m, .int .i64 j, .string a, .string b] w fun e w' => e = .returned (.bool true) ∧ Below w.heap.size w w' := by
  have C := Lib.hid hC
  have D := Lib.hid hD
  have G := Lib.hid hG
  clear hC hD hG
  rcases hF with hb | ⟨rfl, hi⟩
  · go_enter Try.func4, Try.ntmps4
    go_wp2_with fail
    refine (awake_any _).mono ?_
    rintro e w1 ⟨rfl, b1⟩
    have HB1 := Lib.hid b1
    clear b1
    go_wp2_with fail
    refine (C.out _).mono ?_
    rintro e w2 ⟨rfl, b2⟩
    have HB2 := Lib.hid (HB1.out.trans (b2.mono HB1.out.size))
    clear b2
    go_wp2_with fail
    refine (D.out _).mono ?_
    rintro e w3 ⟨rfl, b3⟩
    have HB3 := Lib.hid (HB2.out.trans (b3.mono HB2.out.size))
    clear b3
    go_wp2_with fail
    refine (G.out _).mono ?_
    rintro e w4 ⟨rfl, b4⟩
    have HB4 := Lib.hid (HB3.out.trans (b4.mono HB3.out.size))
    clear b4
    go_wp2_with fail
    go_ret
    exact ⟨rfl, HB4.out⟩
  · by_cases hnm : n = m
    · obtain rfl := hi.mpr hnm
      subst hnm
      clear hi
      go_enter Try.func4, Try.ntmps4
      go_wp2_with fail
      refine (awake_any _).mono ?_
      rintro e w1 ⟨rfl, b1⟩
      have HB1 := Lib.hid b1
      clear b1
      go_wp2_with fail
      refine (C.out _).mono ?_
      rintro e w2 ⟨rfl, b2⟩
      have HB2 := Lib.hid (HB1.out.trans (b2.mono HB1.out.size))
      clear b2
      go_wp2_with fail
      refine (D.out _).mono ?_
      rintro e w3 ⟨rfl, b3⟩
      have HB3 := Lib.hid (HB2.out.trans (b3.mono HB2.out.size))
      clear b3
      go_wp2_with fail
      refine (G.out _).mono ?_
      rintro e w4 ⟨rfl, b4⟩
      have HB4 := Lib.hid (HB3.out.trans (b4.mono HB3.out.size))
      clear b4
      go_wp2_with fail
      go_ret
      exact ⟨rfl, HB4.out⟩
    · have hST : ¬ S = T := fun e => hnm (hi.mp e)
      have hb1 := str_ne hST
      have hb2 : (n == m) = false := by simpa using hnm
      clear hi hnm
      go_enter Try.func4, Try.ntmps4
      go_wp2_with fail
      refine (awake_any _).mono ?_
      rintro e w1 ⟨rfl, b1⟩
      have HB1 := Lib.hid b1
      clear b1
      go_wp2_with fail
      refine (C.out _).mono ?_
      rintro e w2 ⟨rfl, b2⟩
      have HB2 := Lib.hid (HB1.out.trans (b2.mono HB1.out.size))
      clear b2
      go_wp2_with fail
      refine (D.out _).mono ?_
      rintro e w3 ⟨rfl, b3⟩
      have HB3 := Lib.hid (HB2.out.trans (b3.mono HB2.out.size))
      clear b3
      go_wp2_with fail
      refine (G.out _).mono ?_
      rintro e w4 ⟨rfl, b4⟩
      have HB4 := Lib.hid (HB3.out.trans (b4.mono HB3.out.size))
      clear b4
      go_wp2_with fail
      go_ret
      exact ⟨rfl, HB4.out⟩
theorem walk_WireBack (w : World) (n : Int) (hn : (Lit.int .i64 n).wf = true) (m : Int) (hm : (Lit.int .i64 m).wf = true) (k : Int) (hk : (Lit.int .i64 k).wf = true) (a : ByteArray) (ha : a.size ≤ 9223372036854775807) (b : ByteArray) (hb : b.size ≤ 9223372036854775807) :
    Calls Try.prog 4 #[.int .i64 n, .int .i64 m, .int .i64 k, .string a, .string b] w fun e w' => e = .returned (.bool true) ∧ Below w.heap.size w w' := by
  have bn := i64_bounds hn
  have bm := i64_bounds hm
  by_cases hl : a.size ≤ 100 ∧ b.size ≤ 100
  · obtain ⟨h1, h2⟩ := hl
    by_cases hE : putE n k = 0
    · obtain ⟨hw, hf⟩ := putE_zero hE
      obtain ⟨P, hP⟩ := pow_of hw
      obtain ⟨j, rfl, _, h8, _⟩ := hP.nat
      have hlen := putL_length hE
      refine back_fine w n m j a b ⟨(putL n j).toArray⟩ ⟨(putL m j).toArray⟩ (putE m j) h1 h2 (by rw [size_mk, hlen, Int.toNat_natCast]) h8 (fun W => by have := put_any n j W bn.2; rwa [hE] at this) (fun W => put_any m j W bm.2) (fun W => ?_) ?_
      · have h := get_any (a ++ ⟨(putL n j).toArray⟩ ++ b) a.size j W (by
          have : (putL n j).length = j := by rw [hlen, Int.toNat_natCast]
          have e : (⟨(putL n j).toArray⟩ : ByteArray).size = (putL n j).length := by simp [ByteArray.size]
          rw [ByteArray.size_append, ByteArray.size_append, e, this]
          omega) (by omega)
        have e : (a ++ ⟨(putL n j).toArray⟩ ++ b).data.toList = a.data.toList ++ putL n j ++ b.data.toList := by
          rw [ByteArray.data_append, ByteArray.data_append]; simp
        have hz : (a.size : Int) = (a.data.toList.length : Int) := rfl
        obtain ⟨g1, g2⟩ := got_put a.data.toList b.data.toList hE bn.2
        rw [e, hz, g1, g2] at h
        rw [hz]
        exact h
      · by_cases hF : putE m j = 0
        · refine .inr ⟨hF, fun e => ?_, fun e => by rw [e]⟩
          have e' : (putL n j).toArray = (putL m j).toArray := congrArg ByteArray.data e
          exact put_inj hE hF (by simpa using e')
        · exact .inl (by simpa using hF)
    · exact back_bad w n m k a b h1 h2 bn.2 bm.2 hE
  · exact back_long w n m k a b hl
end Go.Proofs.Ytmnmfbfjlafgbaa
