/- The contracts of wire.read, reaches and Get in the seat Ytmnmfbfjlafgbaa. No statement is proved here. -/
import Derived.Test.YtmnmfbfjlafgbaaRead
import Derived.Lib.IndexBytes
set_option linter.unusedVariables false
namespace Go.Proofs.Ytmnmfbfjlafgbaa
open Go.RowKit Go.Lib

theorem or_zero (x : Int) (h0 : 0 ≤ x) (h1 : x < 256) : bits .or .u64 0 x = x := by
  obtain ⟨a, rfl⟩ := Int.eq_ofNat_of_zero_le h0
  have := bits_or_u64_nat 0 a (by omega) (by omega)
  rw [Nat.zero_or] at this
  exact this
theorem list8 {α : Type} : ∀ (l : List α), l.length = 8 → ∃ c0 c1 c2 c3 c4 c5 c6 c7, l = [c0, c1, c2, c3, c4, c5, c6, c7]
  | [c0, c1, c2, c3, c4, c5, c6, c7], _ => ⟨c0, c1, c2, c3, c4, c5, c6, c7, rfl⟩
/-- The eight bytes that read looks at, and what they spell. -/
theorem eight (s : ByteArray) (m : Nat) (w : World) (h8 : m ≤ 8) (hs : m ≤ s.size) : ∃ c0 c1 c2 c3 c4 c5 c6 c7 : UInt8, ((leNat (s.data.toList.take m) : Nat) : Int) = ((((((((c0.toNat : Int) + (c1.toNat : Int) * 256) + (c2.toNat : Int) * 65536) + (c3.toNat : Int) * 16777216) + (c4.toNat : Int) * 4294967296) + (c5.toNat : Int) * 1099511627776) + (c6.toNat : Int) * 281474976710656) + (c7.toNat : Int) * 72057594037927936) ∧
    ∀ ty, (Builtin.copy_ #[42, 9] ty #[.slice (some ⟨w.heap.size, 0, none⟩) m 8, .string s]).run Try.prog (w.alloc (.cells #[.int .u8 0, .int .u8 0, .int .u8 0, .int .u8 0, .int .u8 0, .int .u8 0, .int .u8 0, .int .u8 0] 45)) =
      .ok (goInt m) (w.alloc (.cells #[.int .u8 (c0.toNat : Int), .int .u8 (c1.toNat : Int), .int .u8 (c2.toNat : Int), .int .u8 (c3.toNat : Int), .int .u8 (c4.toNat : Int), .int .u8 (c5.toNat : Int), .int .u8 (c6.toNat : Int), .int .u8 (c7.toNat : Int)] 45)) := by
  have hsz : s.data.toList.length = s.size := rfl
  obtain ⟨c0, c1, c2, c3, c4, c5, c6, c7, hz⟩ := list8 (s.data.toList.take m ++ List.replicate (8 - m) 0) (by rw [List.length_append, List.length_take, List.length_replicate]; omega)
  refine ⟨c0, c1, c2, c3, c4, c5, c6, c7, ?_, fun ty => ?_⟩
  · have h := leNat_zeros (s.data.toList.take m) (8 - m)
    rw [hz] at h
    rw [← h]
    simp only [leNat]
    omega
  · have h := copy_in s m w h8 hs ty
    rw [hz] at h
    exact h
theorem read_fine (s : ByteArray) (m : Nat) (w : World) (hm : m = 1 ∨ m = 2 ∨ m = 4 ∨ m = 8) (hs : m ≤ s.size) (hN : leNat (s.data.toList.take m) ≤ 9223372036854775807) :
    Calls Try.prog 23 #[.string s, .int .i64 m] w fun e w' => e = .returned (.tuple #[.int .i64 (leNat (s.data.toList.take m) : Nat), .int .i64 0]) ∧ Below w.heap.size w w' := by
  obtain ⟨c0, c1, c2, c3, c4, c5, c6, c7, hv, hc⟩ := eight s m w (by omega) hs
  rw [hv]
  have b0 := c0.toNat_lt
  have b1 := c1.toNat_lt
  have b2 := c2.toNat_lt
  have b3 := c3.toNat_lt
  have b4 := c4.toNat_lt
  have b5 := c5.toNat_lt
  have b6 := c6.toNat_lt
  have b7 := c7.toNat_lt
  exact read_core s m w (c0.toNat : Int) (c1.toNat : Int) (c2.toNat : Int) (c3.toNat : Int) (c4.toNat : Int) (c5.toNat : Int) (c6.toNat : Int) (c7.toNat : Int) (c0.toNat : Int) ((c0.toNat : Int) + (c1.toNat : Int) * 256) (((c0.toNat : Int) + (c1.toNat : Int) * 256) + (c2.toNat : Int) * 65536) ((((c0.toNat : Int) + (c1.toNat : Int) * 256) + (c2.toNat : Int) * 65536) + (c3.toNat : Int) * 16777216) (((((c0.toNat : Int) + (c1.toNat : Int) * 256) + (c2.toNat : Int) * 65536) + (c3.toNat : Int) * 16777216) + (c4.toNat : Int) * 4294967296) ((((((c0.toNat : Int) + (c1.toNat : Int) * 256) + (c2.toNat : Int) * 65536) + (c3.toNat : Int) * 16777216) + (c4.toNat : Int) * 4294967296) + (c5.toNat : Int) * 1099511627776) (((((((c0.toNat : Int) + (c1.toNat : Int) * 256) + (c2.toNat : Int) * 65536) + (c3.toNat : Int) * 16777216) + (c4.toNat : Int) * 4294967296) + (c5.toNat : Int) * 1099511627776) + (c6.toNat : Int) * 281474976710656) ((((((((c0.toNat : Int) + (c1.toNat : Int) * 256) + (c2.toNat : Int) * 65536) + (c3.toNat : Int) * 16777216) + (c4.toNat : Int) * 4294967296) + (c5.toNat : Int) * 1099511627776) + (c6.toNat : Int) * 281474976710656) + (c7.toNat : Int) * 72057594037927936)
      (by omega) (by omega) (by omega) (by omega) (by omega) (by omega) (by omega) (by omega) (by omega) (by omega) (by omega) (by omega) (by omega) (by omega) (by omega) (by omega) (by omega) (by omega)
      (or_zero _ (by omega) (by have := c0.toNat_lt; omega)) (u64_or8 _ _ (by omega) (by omega) (by omega) (by omega) (by omega)) (u64_or16 _ _ (by omega) (by omega) (by omega) (by omega) (by omega)) (u64_or24 _ _ (by omega) (by omega) (by omega) (by omega) (by omega)) (u64_or32 _ _ (by omega) (by omega) (by omega) (by omega) (by omega)) (u64_or40 _ _ (by omega) (by omega) (by omega) (by omega) (by omega)) (u64_or48 _ _ (by omega) (by omega) (by omega) (by omega) (by omega)) (u64_or56 _ _ (by omega) (by omega) (by omega) (by omega) (by omega))
      hc (slice_m _ m hm) (by omega)
theorem read_great (s : ByteArray) (m : Nat) (w : World) (hm : m = 1 ∨ m = 2 ∨ m = 4 ∨ m = 8) (hs : m ≤ s.size) (hN : 9223372036854775807 < leNat (s.data.toList.take m)) :
    Calls Try.prog 23 #[.string s, .int .i64 m] w fun e w' => e = .returned (.tuple #[.int .i64 0, .int .i64 20]) ∧ Below w.heap.size w w' := by
  obtain ⟨c0, c1, c2, c3, c4, c5, c6, c7, hv, hc⟩ := eight s m w (by omega) hs
  have b0 := c0.toNat_lt
  have b1 := c1.toNat_lt
  have b2 := c2.toNat_lt
  have b3 := c3.toNat_lt
  have b4 := c4.toNat_lt
  have b5 := c5.toNat_lt
  have b6 := c6.toNat_lt
  have b7 := c7.toNat_lt
  exact read_over s m w (c0.toNat : Int) (c1.toNat : Int) (c2.toNat : Int) (c3.toNat : Int) (c4.toNat : Int) (c5.toNat : Int) (c6.toNat : Int) (c7.toNat : Int) (c0.toNat : Int) ((c0.toNat : Int) + (c1.toNat : Int) * 256) (((c0.toNat : Int) + (c1.toNat : Int) * 256) + (c2.toNat : Int) * 65536) ((((c0.toNat : Int) + (c1.toNat : Int) * 256) + (c2.toNat : Int) * 65536) + (c3.toNat : Int) * 16777216) (((((c0.toNat : Int) + (c1.toNat : Int) * 256) + (c2.toNat : Int) * 65536) + (c3.toNat : Int) * 16777216) + (c4.toNat : Int) * 4294967296) ((((((c0.toNat : Int) + (c1.toNat : Int) * 256) + (c2.toNat : Int) * 65536) + (c3.toNat : Int) * 16777216) + (c4.toNat : Int) * 4294967296) + (c5.toNat : Int) * 1099511627776) (((((((c0.toNat : Int) + (c1.toNat : Int) * 256) + (c2.toNat : Int) * 65536) + (c3.toNat : Int) * 16777216) + (c4.toNat : Int) * 4294967296) + (c5.toNat : Int) * 1099511627776) + (c6.toNat : Int) * 281474976710656) ((((((((c0.toNat : Int) + (c1.toNat : Int) * 256) + (c2.toNat : Int) * 65536) + (c3.toNat : Int) * 16777216) + (c4.toNat : Int) * 4294967296) + (c5.toNat : Int) * 1099511627776) + (c6.toNat : Int) * 281474976710656) + (c7.toNat : Int) * 72057594037927936)
      (by omega) (by omega) (by omega) (by omega) (by omega) (by omega) (by omega) (by omega) (by omega) (by omega) (by omega) (by omega) (by omega) (by omega) (by omega) (by omega) (by omega) (by omega)
      (or_zero _ (by omega) (by have := c0.toNat_lt; omega)) (u64_or8 _ _ (by omega) (by omega) (by omega) (by omega) (by omega)) (u64_or16 _ _ (by omega) (by omega) (by omega) (by omega) (by omega)) (u64_or24 _ _ (by omega) (by omega) (by omega) (by omega) (by omega)) (u64_or32 _ _ (by omega) (by omega) (by omega) (by omega) (by omega)) (u64_or40 _ _ (by omega) (by omega) (by omega) (by omega) (by omega)) (u64_or48 _ _ (by omega) (by omega) (by omega) (by omega) (by omega)) (u64_or56 _ _ (by omega) (by omega) (by omega) (by omega) (by omega))
      hc (slice_m _ m hm) (by omega)

/-- Are there so many times so many bytes from a place on? -/
def reachB (len : Nat) (i many k : Int) : Bool := decide (0 ≤ i ∧ i ≤ len ∧ 0 ≤ many ∧ many ≤ (len - i) / k)
theorem reaches_any (s : ByteArray) (i many k : Int) (w : World) (hs : s.size ≤ 9223372036854775807) (hi : i ≤ 9223372036854775807) (hk : 1 ≤ k) (hk8 : k ≤ 8) :
    Calls Try.prog 22 #[.string s, .int .i64 i, .int .i64 many, .int .i64 k] w fun e w' => e = .returned (.bool (reachB s.size i many k)) ∧ w = w' := by
  by_cases h0 : i < 0
  · have d0 : decide (i < 0) = true := by simpa using h0
    have hr : reachB s.size i many k = false := by unfold reachB; rw [decide_eq_false_iff_not]; omega
    rw [hr]
    clear hr
    go_enter Try.func22, Try.ntmps22
    go_wp2
    go_ret
    exact ⟨rfl, rfl⟩
  · have d0 : decide (i < 0) = false := by simpa using h0
    by_cases h1 : (s.size : Int) < i
    · have d1 : decide ((s.size : Int) < i) = true := by simpa using h1
      have hr : reachB s.size i many k = false := by unfold reachB; rw [decide_eq_false_iff_not]; omega
      rw [hr]
      clear hr
      go_enter Try.func22, Try.ntmps22
      go_wp2
      go_ret
      exact ⟨rfl, rfl⟩
    · have d1 : decide ((s.size : Int) < i) = false := by simpa using h1
      by_cases h2 : many < 0
      · have d2 : decide (many < 0) = true := by simpa using h2
        have hr : reachB s.size i many k = false := by unfold reachB; rw [decide_eq_false_iff_not]; omega
        rw [hr]
        clear hr
        go_enter Try.func22, Try.ntmps22
        go_wp2
        go_ret
        exact ⟨rfl, rfl⟩
      · have d2 : decide (many < 0) = false := by simpa using h2
        have hr : reachB s.size i many k = decide (many ≤ ((s.size : Int) - i) / k) := by unfold reachB; rw [decide_eq_decide]; omega
        rw [hr]
        have h3 : 0 ≤ i := by omega
        have h4 : i ≤ (s.size : Int) := by omega
        clear hr h0 h1 h2
        go_enter Try.func22, Try.ntmps22
        go_wp2
        go_ret
        exact ⟨rfl, rfl⟩

theorem reach_one {l : List UInt8} {i k : Int} (hk : 1 ≤ k) : reachB l.length i 1 k = there l i k := by
  unfold reachB there
  rw [decide_eq_decide]
  constructor
  · rintro ⟨a, b, _, d⟩
    have := (Int.le_ediv_iff_mul_le (c := k) (by omega)).mp d
    omega
  · rintro ⟨a, b⟩
    refine ⟨a, by omega, by omega, ?_⟩
    exact (Int.le_ediv_iff_mul_le (c := k) (by omega)).mpr (by omega)
theorem get_any (s : ByteArray) (i k : Int) (w : World) (hs : s.size ≤ 9223372036854775807) (hi : i ≤ 9223372036854775807) :
    Calls Try.prog 12 #[.string s, .int .i64 i, .int .i64 k] w fun e w' => e = .returned (.tuple #[.int .i64 (getS s.data.toList i k), .int .i64 (getE s.data.toList i k)]) ∧ Below w.heap.size w w' := by
  cases hw : wide k with
  | false =>
    have C := Lib.hid (fun W => isWidth_no hw W)
    rw [getS_wide hw, getE_wide hw]
    clear hw
    go_enter Try.func12, Try.ntmps12
    go_wp2_with fail
    refine (C.out _).mono ?_
    rintro e w' ⟨rfl, rfl⟩
    go_wp2
    go_ret2
    exact ⟨rfl, Below.refl _ _⟩
  | true =>
    have C := Lib.hid (fun W => isWidth_yes hw W)
    obtain ⟨P, hP⟩ := pow_of hw
    have hk : 1 ≤ k ∧ k ≤ 8 := by obtain ⟨m, rfl, h1, h8, _⟩ := hP.nat; omega
    have hr := reach_one (l := s.data.toList) (i := i) hk.1
    cases ht : there s.data.toList i k with
    | false =>
      have R := Lib.hid (fun W => (hr.trans ht) ▸ reaches_any s i 1 k W hs hi hk.1 hk.2)
      rw [getS_short ht, getE_short hw ht]
      clear hw ht hr hP
      go_enter Try.func12, Try.ntmps12
      go_wp2_with fail
      refine (C.out _).mono ?_
      rintro e w' ⟨rfl, rfl⟩
      go_wp2_with fail
      refine (R.out _).mono ?_
      rintro e w' ⟨rfl, rfl⟩
      go_wp2
      go_ret2
      exact ⟨rfl, Below.refl _ _⟩
    | true =>
      have R := Lib.hid (fun W => (hr.trans ht) ▸ reaches_any s i 1 k W hs hi hk.1 hk.2)
      have h' : 0 ≤ i ∧ i + k ≤ s.size := by simpa [there] using ht
      obtain ⟨a, rfl⟩ : ∃ a : Nat, i = a := ⟨i.toNat, by omega⟩
      obtain ⟨m, rfl⟩ : ∃ m : Nat, k = m := ⟨k.toNat, by omega⟩
      have hm : m = 1 ∨ m = 2 ∨ m = 4 ∨ m = 8 := by
        rcases hP with ⟨h, _⟩ | ⟨h, _⟩ | ⟨h, _⟩ | ⟨h, _⟩ <;> omega
      have hd : (s.extract a s.size).data.toList = s.data.toList.drop a := extract_to_end s a
      have hz : m ≤ (s.extract a s.size).size := by
        have : (s.extract a s.size).data.toList.length = (s.extract a s.size).size := rfl
        have h2 : s.data.toList.length = s.size := rfl
        rw [hd, List.length_drop, h2] at this
        omega
      have hN : leNat ((s.extract a s.size).data.toList.take m) = getN s.data.toList a m := by rw [hd]; rfl
      by_cases hg : getN s.data.toList a m ≤ 9223372036854775807
      · have D := Lib.hid (fun W => read_fine (s.extract a s.size) m W hm hz (by rw [hN]; exact hg))
        rw [hN] at D
        rw [getS_fine hw ht hg, getE_fine hw ht hg]
        clear hw ht hr hP hd hz hN hg
        go_enter Try.func12, Try.ntmps12
        go_wp2_with fail
        refine (C.out _).mono ?_
        rintro e w' ⟨rfl, rfl⟩
        go_wp2_with fail
        refine (R.out _).mono ?_
        rintro e w' ⟨rfl, rfl⟩
        go_wp2_with fail
        refine (D.out _).mono ?_
        rintro e w1 ⟨rfl, hb⟩
        go_wp2
        go_ret2
        exact ⟨rfl, hb⟩
      · have D := Lib.hid (fun W => read_great (s.extract a s.size) m W hm hz (by rw [hN]; omega))
        rw [getS_great hw ht (by omega), getE_great hw ht (by omega)]
        clear hw ht hr hP hd hz hN hg
        go_enter Try.func12, Try.ntmps12
        go_wp2_with fail
        refine (C.out _).mono ?_
        rintro e w' ⟨rfl, rfl⟩
        go_wp2_with fail
        refine (R.out _).mono ?_
        rintro e w' ⟨rfl, rfl⟩
        go_wp2_with fail
        refine (D.out _).mono ?_
        rintro e w1 ⟨rfl, hb⟩
        go_wp2
        go_ret2
        exact ⟨rfl, hb⟩
end Go.Proofs.Ytmnmfbfjlafgbaa
