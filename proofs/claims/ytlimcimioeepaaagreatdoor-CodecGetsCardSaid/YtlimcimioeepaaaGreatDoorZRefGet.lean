/- The contract of the document's own Get of layer 2 (trefoilref02) in the seat YtlimcimioeepaaaGreatDoor. No statement is proved here. -/
import Derived.Test.YtlimcimioeepaaaGreatDoorZG7
set_option linter.unusedVariables false
namespace Go.Proofs.YtlimcimioeepaaaGreatDoor
open Go.RowKit Go.Lib

theorem atL_byte {l : List UInt8} {a m j : Nat} (hj : j < m) (h : a + j < l.length) : atL l a m = (l.drop a).take m ∧ ((l.drop a).take m)[j]? = some l[a + j] := by
  refine ⟨rfl, ?_⟩
  rw [List.getElem?_take, if_pos hj, List.getElem?_drop, List.getElem?_eq_getElem h]
theorem getN_step {l : List UInt8} {a j : Nat} (h : a + j < l.length) : getN l a (j + 1 : Nat) = getN l a j + 256 ^ j * l[a + j].toNat := by
  unfold getN atL
  simp only [Int.toNat_natCast]
  rw [List.take_add_one, List.getElem?_drop, List.getElem?_eq_getElem h]
  show Lib.leNat (_ ++ [_]) = _
  rw [leNat_snoc, List.length_take, List.length_drop, Nat.min_eq_left (by omega)]
theorem getN_mono {l : List UInt8} {a j m : Nat} (hj : j ≤ m) (h : a + m ≤ l.length) : getN l a j ≤ getN l a m := by
  induction m with
  | zero => obtain rfl : j = 0 := by omega
            exact Nat.le_refl _
  | succ m ih =>
    rcases Nat.lt_or_ge m j with h1 | h1
    · obtain rfl : j = m + 1 := by omega
      exact Nat.le_refl _
    · have := ih h1 (by omega)
      rw [getN_step (by omega)]
      omega
theorem getN_lt {l : List UInt8} {a m : Nat} (h : a + m ≤ l.length) : getN l a m < 256 ^ m := by
  have := leNat_lt (atL l a m)
  rw [show (atL l a m).length = m by simp [atL]; omega] at this
  exact this
theorem getN_eight {l : List UInt8} {a : Nat} (h : a + 8 ≤ l.length) : getN l a 8 ≤ 9223372036854775807 ↔ (l[a + 7]'(by omega)).toNat < 128 := by
  have h1 := getN_step (l := l) (a := a) (j := 7) (by omega)
  have h2 := getN_lt (l := l) (a := a) (m := 7) (by omega)
  have h3 : getN l a (8 : Int) = getN l a ((7 + 1 : Nat) : Int) := rfl
  rw [h3, h1]
  have : (256 : Nat) ^ 7 = 72057594037927936 := by decide
  rw [this] at h2 ⊢
  omega

theorem wr3 (b : UInt8) (p q y : Nat) (K : ((b.toNat : Nat) : Int) * (p : Int) = (y : Int)) (h : q + y ≤ 9223372036854775807) : wrap64 ((q : Int) + wrap64 (wrap64 ((b.toNat : Nat) : Int) * (p : Int))) = ((q + y : Nat) : Int) := by
  have := b.toNat_lt
  rw [IntWalk.wrap64_in ((b.toNat : Nat) : Int) ⟨by omega, by omega⟩, K, IntWalk.wrap64_in (y : Int) ⟨by omega, by omega⟩, IntWalk.wrap64_in _ ⟨by omega, by omega⟩]
  omega
set_option maxRecDepth 100000 in
set_option maxHeartbeats 1000000 in
theorem rget_loop (s : ByteArray) (a m : Nat) (w : World) (hs : s.size ≤ 9223372036854775807) (hw : wide m = true) (hle : a + m ≤ s.size) (hg : getN s.data.toList a m ≤ 9223372036854775807) :
    Calls Tryz.prog 30 #[.string s, .int .i64 a, .int .i64 m] w fun e w' => e = .returned (.tuple #[.int .i64 (getN s.data.toList a m : Nat), .int .i64 0]) ∧ w = w' := by
  have C := Lib.hid (fun W => rwide_yes hw W)
  have h8 : m ≤ 8 := by
    obtain ⟨P, hP⟩ := pow_of hw
    obtain ⟨m', h, h1, h8, e⟩ := hP.nat
    omega
  have HG := Lib.hid hg
  have HS : Hid (s.data.toList.length = s.size) := Lib.hid rfl
  have d0 : decide ((a : Int) < 0) = false := by rw [decide_eq_false_iff_not]; omega
  have d1 : decide (s.size < a) = false := by rw [decide_eq_false_iff_not]; omega
  have d3 : decide ((s.size : Int) - (a : Int) < (m : Int)) = false := by rw [decide_eq_false_iff_not]; omega
  clear hw hg
  by_cases hm : m = 8
  · subst hm
    have hsz7 : a + 7 < s.size := by omega
    have d7 : decide ((128 : Int) ≤ ((s[a + 7].toNat : Nat) : Int)) = false := by
      have h := (getN_eight (l := s.data.toList) (a := a) (by rw [HS.out]; exact hle)).mp HG.out
      rw [decide_eq_false_iff_not]
      exact Int.not_le.mpr (Int.ofNat_lt.mpr h)
    go_enter Tryz.func30, Tryz.ntmps30
    go_wp2_with fail
    refine (C.out _).mono ?_
    rintro e w' ⟨rfl, rfl⟩
    go_wp2
    go_loop [8, 9, 10] (fun n t i => ∃ j p q : Nat, j ≤ 8 ∧ i = .int .i64 j ∧ q ≤ 9223372036854775807 ∧ Hid (q = getN s.data.toList a j) ∧ n = .int .i64 q ∧ Hid (p = 256 ^ (min j 7)) ∧ t = .int .i64 p) (fun _ _ i => 8 - (intOf i).toNat)
    case atStart => exact ⟨0, 1, 0, Nat.zero_le _, rfl, by omega, Lib.hid (by simp [getN, atL, Lib.leNat]), rfl, Lib.hid rfl, rfl⟩
    case round =>
      obtain ⟨j, p, q, hj, rfl, hq, hqe, rfl, hpe, rfl⟩ := hrel
      by_cases hlt : j < 8
      · have hsz : a + j < s.size := by omega
        have hst : getN s.data.toList a (j + 1 : Nat) = q + p * s[a + j].toNat := by
          rw [getN_step (by rw [HS.out]; exact hsz), ← hqe.out, hpe.out, Nat.min_eq_left (by omega)]
          rfl
        have hmono := getN_mono (l := s.data.toList) (a := a) (j := j + 1) (m := 8) (by omega) (by rw [HS.out]; exact hle)
        obtain ⟨y, hy⟩ : ∃ y, y = p * s[a + j].toNat := ⟨_, rfl⟩
        have hp6 : j < 7 → p ≤ 281474976710656 := by
          intro h7
          rw [hpe.out, Nat.min_eq_left (by omega)]
          exact Nat.pow_le_pow_right (n := 256) (j := 6) (by omega) (by omega)
        have HK := Lib.hid (show ((s[a + j].toNat : Nat) : Int) * (p : Int) = (y : Int) by rw [hy, Int.natCast_mul, Int.mul_comm])
        have hle2 : q + y ≤ 9223372036854775807 := by rw [hy, ← hst]; have := HG.out; omega
        have HST := Lib.hid (hst.trans (by rw [← hy]) : getN s.data.toList a (j + 1 : Nat) = q + y)
        clear hst hmono hy
        by_cases h7 : j < 7
        · have hp := hp6 h7
          clear hp6
          go_wp2
          go_round
          case rel => exact ⟨j + 1, p * 256, q + y, by omega, by go_num, hle2, Lib.hid HST.out.symm, by rw [wr3 _ p q y HK.out hle2], Lib.hid (by rw [hpe.out, Nat.min_eq_left (by omega), Nat.min_eq_left (by omega), Nat.pow_succ]), by go_num⟩
          case measure => simp [intOf]; omega
        · obtain rfl : j = 7 := by omega
          clear hp6
          go_wp2
          go_round
          case rel => exact ⟨7 + 1, p, q + y, by omega, by go_num, hle2, Lib.hid HST.out.symm, by rw [wr3 _ p q y HK.out hle2], Lib.hid hpe.out, rfl⟩
          case measure => simp [intOf]
      · obtain rfl : j = 8 := by omega
        go_wp2
        go_ret2
        exact ⟨by rw [hqe.out]; rfl, rfl⟩
  · have hm8 : ((m : Int) == 8) = false := by simp; omega
    go_enter Tryz.func30, Tryz.ntmps30
    go_wp2_with fail
    refine (C.out _).mono ?_
    rintro e w' ⟨rfl, rfl⟩
    go_wp2
    go_loop [8, 9, 10] (fun n t i => ∃ j p q : Nat, j ≤ m ∧ i = .int .i64 j ∧ q ≤ 9223372036854775807 ∧ Hid (q = getN s.data.toList a j) ∧ n = .int .i64 q ∧ Hid (p = 256 ^ (min j 7)) ∧ t = .int .i64 p) (fun _ _ i => m - (intOf i).toNat)
    case atStart => exact ⟨0, 1, 0, Nat.zero_le _, rfl, by omega, Lib.hid (by simp [getN, atL, Lib.leNat]), rfl, Lib.hid rfl, rfl⟩
    case round =>
      obtain ⟨j, p, q, hj, rfl, hq, hqe, rfl, hpe, rfl⟩ := hrel
      by_cases hlt : j < m
      · have hsz : a + j < s.size := by omega
        have hst : getN s.data.toList a (j + 1 : Nat) = q + p * s[a + j].toNat := by
          rw [getN_step (by rw [HS.out]; exact hsz), ← hqe.out, hpe.out, Nat.min_eq_left (by omega)]
          rfl
        have hmono := getN_mono (l := s.data.toList) (a := a) (j := j + 1) (m := m) (by omega) (by rw [HS.out]; exact hle)
        obtain ⟨y, hy⟩ : ∃ y, y = p * s[a + j].toNat := ⟨_, rfl⟩
        have hp6 : j < 7 → p ≤ 281474976710656 := by
          intro h7
          rw [hpe.out, Nat.min_eq_left (by omega)]
          exact Nat.pow_le_pow_right (n := 256) (j := 6) (by omega) (by omega)
        have HK := Lib.hid (show ((s[a + j].toNat : Nat) : Int) * (p : Int) = (y : Int) by rw [hy, Int.natCast_mul, Int.mul_comm])
        have hle2 : q + y ≤ 9223372036854775807 := by rw [hy, ← hst]; have := HG.out; omega
        have HST := Lib.hid (hst.trans (by rw [← hy]) : getN s.data.toList a (j + 1 : Nat) = q + y)
        clear hst hmono hy
        by_cases h7 : j < 7
        · have hp := hp6 h7
          clear hp6
          go_wp2
          go_round
          case rel => exact ⟨j + 1, p * 256, q + y, by omega, by go_num, hle2, Lib.hid HST.out.symm, by rw [wr3 _ p q y HK.out hle2], Lib.hid (by rw [hpe.out, Nat.min_eq_left (by omega), Nat.min_eq_left (by omega), Nat.pow_succ]), by go_num⟩
          case measure => simp [intOf]; omega
        · exfalso; omega
      · obtain rfl : j = m := by omega
        go_wp2
        go_ret2
        exact ⟨by rw [hqe.out]; rfl, rfl⟩
theorem rget_any (s : ByteArray) (i k : Int) (w : World) (hs : s.size ≤ 9223372036854775807) (hi : i ≤ 9223372036854775807) :
    Calls Tryz.prog 30 #[.string s, .int .i64 i, .int .i64 k] w fun e w' => e = .returned (.tuple #[.int .i64 (getS s.data.toList i k), .int .i64 (getE s.data.toList i k)]) ∧ w = w' := by
  have HS : Hid (s.data.toList.length = s.size) := Lib.hid rfl
  cases hw : wide k with
  | false =>
    have C := Lib.hid (fun W => rwide_no hw W)
    rw [getS_wide hw, getE_wide hw]
    clear hw
    go_enter Tryz.func30, Tryz.ntmps30
    go_wp2_with fail
    refine (C.out _).mono ?_
    rintro e w' ⟨rfl, rfl⟩
    go_wp2
    go_ret2
    exact ⟨rfl, rfl⟩
  | true =>
    have C := Lib.hid (fun W => rwide_yes hw W)
    obtain ⟨P, hP⟩ := pow_of hw
    obtain ⟨m, rfl, h1, h8, _⟩ := hP.nat
    cases ht : there s.data.toList i m with
    | false =>
      rw [getS_short ht, getE_short hw ht]
      have ht' : ¬ (0 ≤ i ∧ i + m ≤ s.size) := by rw [← HS.out]; simpa [there] using ht
      clear hw ht hP
      by_cases h0 : i < 0
      · have d0 : decide (i < 0) = true := by simpa using h0
        clear ht'
        go_enter Tryz.func30, Tryz.ntmps30
        go_wp2_with fail
        refine (C.out _).mono ?_
        rintro e w' ⟨rfl, rfl⟩
        go_wp2
        go_ret2
        exact ⟨rfl, rfl⟩
      · have d0 : decide (i < 0) = false := by simpa using h0
        by_cases h2 : (s.size : Int) < i
        · have d2 : decide ((s.size : Int) < i) = true := by simpa using h2
          clear ht'
          go_enter Tryz.func30, Tryz.ntmps30
          go_wp2_with fail
          refine (C.out _).mono ?_
          rintro e w' ⟨rfl, rfl⟩
          go_wp2
          go_ret2
          exact ⟨rfl, rfl⟩
        · have d2 : decide ((s.size : Int) < i) = false := by simpa using h2
          have h3 : 0 ≤ i := by omega
          have h4 : (s.size : Int) - i < m := by omega
          have h5 : i ≤ (s.size : Int) := by omega
          have d4 : decide ((s.size : Int) - i < m) = true := by simpa using h4
          clear ht' h0 h2
          go_enter Tryz.func30, Tryz.ntmps30
          go_wp2_with fail
          refine (C.out _).mono ?_
          rintro e w' ⟨rfl, rfl⟩
          go_wp2
          go_ret2
          exact ⟨rfl, rfl⟩
    | true =>
      have ht' : 0 ≤ i ∧ i + m ≤ s.size := by rw [← HS.out]; simpa [there] using ht
      obtain ⟨a, rfl⟩ : ∃ a : Nat, i = a := ⟨i.toNat, by omega⟩
      by_cases hg : getN s.data.toList a m ≤ 9223372036854775807
      · rw [getS_fine hw ht hg, getE_fine hw ht hg]
        exact rget_loop s a m w hs hw (by omega) hg
      · rw [getS_great hw ht (by omega), getE_great hw ht (by omega)]
        have hm : m = 8 := by
          have h := getN_lt (l := s.data.toList) (a := a) (m := m) (by rw [HS.out]; omega)
          have : m ≤ 4 ∨ m = 8 := by rcases hP with ⟨h, _⟩ | ⟨h, _⟩ | ⟨h, _⟩ | ⟨h, _⟩ <;> omega
          rcases this with h4 | h4
          · have h9 : (256 : Nat) ^ m ≤ 256 ^ 4 := Nat.pow_le_pow_right (by omega) h4
            have h10 : (256 : Nat) ^ 4 = 4294967296 := by decide
            omega
          · exact h4
        subst hm
        have hsz7 : a + 7 < s.size := by omega
        have hb7 : ¬ ((s[a + 7].toNat : Nat) : Int) < 128 := by
          intro h
          exact hg ((getN_eight (l := s.data.toList) (a := a) (by rw [HS.out]; omega)).mpr (Int.ofNat_lt.mp h))
        have hb8 : (128 : Int) ≤ ((s[a + 7].toNat : Nat) : Int) := by omega
        clear hg hw ht hP
        go_enter Tryz.func30, Tryz.ntmps30
        go_wp2_with fail
        refine (C.out _).mono ?_
        rintro e w' ⟨rfl, rfl⟩
        go_wp2
        go_ret2
        exact ⟨rfl, rfl⟩
end Go.Proofs.YtlimcimioeepaaaGreatDoor
