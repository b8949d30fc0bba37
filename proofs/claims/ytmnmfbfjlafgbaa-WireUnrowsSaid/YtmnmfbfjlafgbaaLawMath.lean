/- The plain arithmetic of the laws of layer 2, in the seat Ytmnmfbfjlafgbaa: what is put is got. No statement is proved here. -/
import Derived.Test.YtmnmfbfjlafgbaaRowMath
namespace Go.Proofs.Ytmnmfbfjlafgbaa

theorem fits_lt {n k : Int} (h : fits n k = true) : 0 ≤ n ∧ n < 256 ^ k.toNat := by simpa [fits] using h
theorem leNat_of_fits {n k : Int} (h : fits n k = true) : Lib.leNat (Lib.leBytes k.toNat n.toNat) = n.toNat := by
  obtain ⟨h0, h1⟩ := fits_lt h
  refine Lib.leNat_leBytes _ _ ?_
  have : ((256 ^ k.toNat : Nat) : Int) = (256 : Int) ^ k.toNat := Int.natCast_pow _ _
  omega
/-- What is put is got, wherever it stands. -/
theorem got_put {n k : Int} (a b : List UInt8) (hp : putE n k = 0) (hn : n ≤ 9223372036854775807) : getS (a ++ putL n k ++ b) a.length k = n ∧ getE (a ++ putL n k ++ b) a.length k = 0 := by
  obtain ⟨hw, hf⟩ := putE_zero hp
  obtain ⟨h0, _⟩ := fits_lt hf
  have hl := putL_length hp
  obtain ⟨P, hP⟩ := pow_of hw
  obtain ⟨m, rfl, h1, h8, _⟩ := hP.nat
  have ht : there (a ++ putL n m ++ b) a.length m = true := by
    simp only [there, decide_eq_true_eq, List.length_append, hl, Int.toNat_natCast]
    omega
  have hN : getN (a ++ putL n m ++ b) a.length m = n.toNat := by
    unfold getN atL
    rw [Int.toNat_natCast, Int.toNat_natCast, List.append_assoc, List.drop_left, List.take_append_of_le_length (by rw [hl]; exact Nat.le_refl _), List.take_of_length_le (by rw [hl]; exact Nat.le_refl _), putL_fine hw hf]
    exact leNat_of_fits hf
  refine ⟨?_, ?_⟩
  · rw [getS_fine hw ht (by rw [hN]; omega), hN]; omega
  · rw [getE_fine hw ht (by rw [hN]; omega)]
theorem put_inj {n m k : Int} (h1 : putE n k = 0) (h2 : putE m k = 0) (h : putL n k = putL m k) : n = m := by
  obtain ⟨hw, hf⟩ := putE_zero h1
  obtain ⟨_, hg⟩ := putE_zero h2
  have e1 := leNat_of_fits hf
  have e2 := leNat_of_fits hg
  rw [putL_fine hw hf, putL_fine hw hg] at h
  rw [h, e2] at e1
  have := (fits_lt hf).1
  have := (fits_lt hg).1
  omega
/-- What is got is put again. -/
theorem put_got {l : List UInt8} {i k : Int} (h : getE l i k = 0) : putE (getS l i k) k = 0 ∧ putL (getS l i k) k = atL l i k := by
  obtain ⟨hw, ht, hN⟩ := getE_zero h
  obtain ⟨P, hP⟩ := pow_of hw
  obtain ⟨m, rfl, h1, h8, _⟩ := hP.nat
  have hl := atL_length (by omega) ht
  rw [getS_fine hw ht hN]
  have hf : fits (getN l i m : Nat) m = true := by
    simp only [fits, decide_eq_true_eq, Int.toNat_natCast]
    refine ⟨by omega, ?_⟩
    have h2 := leNat_lt (atL l i m)
    rw [hl, Int.toNat_natCast] at h2
    have : ((256 ^ m : Nat) : Int) = (256 : Int) ^ m := Int.natCast_pow _ _
    unfold getN
    omega
  refine ⟨putE_fine hw hf, ?_⟩
  rw [putL_fine hw hf, Int.toNat_natCast, Int.toNat_natCast]
  have h3 := leBytes_leNat (atL l i m)
  rw [hl, Int.toNat_natCast] at h3
  exact h3
theorem row_cons {z : Int} {l : List Int} {k : Int} : rowB (z :: l) k = putL z k ++ rowB l k := rfl
theorem rowE_cons {z : Int} {l : List Int} {k : Int} (h : rowE (z :: l) k = 0) : putE z k = 0 ∧ rowE l k = 0 := by
  have hz : putE z k = 0 := rowE_mem h (j := 0) rfl
  refine ⟨hz, ?_⟩
  rw [rowE, if_pos hz] at h
  exact h
/-- Two rows of numbers are put alike just if they are the same. -/
theorem row_inj {k : Int} : ∀ (l m : List Int), rowE l k = 0 → rowE m k = 0 → rowB l k = rowB m k → l = m
  | [], [], _, _, _ => rfl
  | [], z :: m, h1, h2, h => by
    obtain ⟨hz, hm⟩ := rowE_cons h2
    have hl := congrArg List.length h
    rw [row_cons, List.length_append, putL_length hz] at hl
    have hw := rowE_zero_wide h1
    obtain ⟨P, hP⟩ := pow_of hw
    obtain ⟨j, rfl, h1', _, _⟩ := hP.nat
    simp [rowB] at hl
    omega
  | z :: l, [], h1, h2, h => by
    obtain ⟨hz, hm⟩ := rowE_cons h1
    have hl := congrArg List.length h
    rw [row_cons, List.length_append, putL_length hz] at hl
    have hw := rowE_zero_wide h2
    obtain ⟨P, hP⟩ := pow_of hw
    obtain ⟨j, rfl, h1', _, _⟩ := hP.nat
    simp [rowB] at hl
    omega
  | x :: l, y :: m, h1, h2, h => by
    obtain ⟨hx, hl⟩ := rowE_cons h1
    obtain ⟨hy, hm⟩ := rowE_cons h2
    rw [row_cons, row_cons] at h
    obtain ⟨e1, e2⟩ := List.append_inj h (by rw [putL_length hx, putL_length hy])
    rw [put_inj hx hy e1, row_inj l m hl hm e2]
/-- The numbers that stand in a row. -/
theorem row_at {zs : List Int} {k : Int} (a b : List UInt8) {j : Nat} {z : Int} (h : rowE zs k = 0) (hz : zs[j]? = some z) :
    getN (a ++ rowB zs k ++ b) ((a.length + j * k.toNat : Nat) : Int) k = z.toNat ∧ 0 ≤ z := by
  have hp := rowE_mem h hz
  obtain ⟨hw, hf⟩ := putE_zero hp
  have hlen := rowB_length zs h
  have hj : j < zs.length := by
    rcases Nat.lt_or_ge j zs.length with h | h
    · exact h
    · rw [List.getElem?_eq_none h] at hz; cases hz
  have hjm : j * k.toNat + k.toNat ≤ zs.length * k.toNat := by rw [← Nat.succ_mul]; exact Nat.mul_le_mul_right _ hj
  refine ⟨?_, (fits_lt hf).1⟩
  unfold getN atL
  rw [Int.toNat_natCast, List.append_assoc, ← List.drop_drop, List.drop_left, List.drop_append_of_le_length (by omega), List.take_append_of_le_length (by rw [List.length_drop]; omega), rowB_at zs j z h hz, putL_fine hw hf]
  exact leNat_of_fits hf
end Go.Proofs.Ytmnmfbfjlafgbaa
