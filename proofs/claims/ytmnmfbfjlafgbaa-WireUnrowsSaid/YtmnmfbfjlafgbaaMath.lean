/- The plain arithmetic of the layer wire in the seat Ytmnmfbfjlafgbaa: bytes of numbers, numbers of bytes. No statement is proved here; it imports nothing of the program. -/
import Derived.Lib.Hide
import Derived.Lib.EndianMore
import Derived.Laws.BytesArg
namespace Go.Proofs.Ytmnmfbfjlafgbaa
open Go.Lib

/-- May a width be? -/
def wide (k : Int) : Bool := k == 1 || k == 2 || k == 4 || k == 8
/-- A width's power of 256, written out. -/
def Pow (k P : Int) : Prop := k = 1 ∧ P = 256 ∨ k = 2 ∧ P = 65536 ∨ k = 4 ∧ P = 4294967296 ∨ k = 8 ∧ P = 18446744073709551616
theorem pow_of {k : Int} (h : wide k = true) : ∃ P, Pow k P := by
  simp [wide] at h
  rcases h with ((rfl | rfl) | rfl) | rfl
  · exact ⟨256, .inl ⟨rfl, rfl⟩⟩
  · exact ⟨65536, .inr (.inl ⟨rfl, rfl⟩)⟩
  · exact ⟨4294967296, .inr (.inr (.inl ⟨rfl, rfl⟩))⟩
  · exact ⟨18446744073709551616, .inr (.inr (.inr ⟨rfl, rfl⟩))⟩
theorem Pow.wide {k P : Int} (h : Pow k P) : wide k = true := by
  rcases h with ⟨rfl, rfl⟩ | ⟨rfl, rfl⟩ | ⟨rfl, rfl⟩ | ⟨rfl, rfl⟩ <;> rfl
theorem Pow.eq {k P : Int} (h : Pow k P) : (256 : Int) ^ k.toNat = P := by
  rcases h with ⟨rfl, rfl⟩ | ⟨rfl, rfl⟩ | ⟨rfl, rfl⟩ | ⟨rfl, rfl⟩ <;> rfl
theorem Pow.nat {k P : Int} (h : Pow k P) : ∃ m : Nat, k = m ∧ 1 ≤ m ∧ m ≤ 8 ∧ ((256 ^ m : Nat) : Int) = P := by
  rcases h with ⟨rfl, rfl⟩ | ⟨rfl, rfl⟩ | ⟨rfl, rfl⟩ | ⟨rfl, rfl⟩
  · exact ⟨1, rfl, by omega, by omega, rfl⟩
  · exact ⟨2, rfl, by omega, by omega, rfl⟩
  · exact ⟨4, rfl, by omega, by omega, rfl⟩
  · exact ⟨8, rfl, by omega, by omega, rfl⟩

/-- Does a number fit into a width? -/
def fits (n k : Int) : Bool := decide (0 ≤ n ∧ n < 256 ^ k.toNat)
theorem fits_iff {n k P : Int} (h : Pow k P) : fits n k = true ↔ 0 ≤ n ∧ n < P := by unfold fits; rw [h.eq]; exact decide_eq_true_iff
/-- A number's bytes. -/
def bz (n : Int) : List Int := [n % 256, n / 256 % 256, n / 65536 % 256, n / 16777216 % 256, n / 4294967296 % 256, n / 1099511627776 % 256, n / 281474976710656 % 256, n / 72057594037927936 % 256]
def putL (n k : Int) : List UInt8 := if wide k = true ∧ fits n k = true then Lib.leBytes k.toNat n.toNat else []
def putE (n k : Int) : Int := if wide k = true then (if fits n k = true then 0 else 20) else 22
theorem putL_wide {n k : Int} (h : wide k = false) : putL n k = [] := by unfold putL; rw [if_neg]; simp [h]
theorem putE_wide {n k : Int} (h : wide k = false) : putE n k = 22 := by unfold putE; rw [if_neg]; simp [h]
theorem putL_great {n k : Int} (h : fits n k = false) : putL n k = [] := by unfold putL; rw [if_neg]; simp [h]
theorem putE_great {n k : Int} (hw : wide k = true) (h : fits n k = false) : putE n k = 20 := by unfold putE; rw [if_pos hw, if_neg]; simp [h]
theorem putL_fine {n k : Int} (hw : wide k = true) (h : fits n k = true) : putL n k = Lib.leBytes k.toNat n.toNat := by unfold putL; rw [if_pos ⟨hw, h⟩]
theorem putE_fine {n k : Int} (hw : wide k = true) (h : fits n k = true) : putE n k = 0 := by unfold putE; rw [if_pos hw, if_pos h]
theorem putE_zero {n k : Int} (h : putE n k = 0) : wide k = true ∧ fits n k = true := by
  unfold putE at h
  by_cases hw : wide k = true
  · by_cases hf : fits n k = true
    · exact ⟨hw, hf⟩
    · rw [if_pos hw, if_neg hf] at h; omega
  · rw [if_neg hw] at h; omega
theorem putL_bad {n k : Int} (h : putE n k ≠ 0) : putL n k = [] := by
  by_cases hw : wide k = true
  · by_cases hf : fits n k = true
    · exact absurd (putE_fine hw hf) h
    · exact putL_great (by simpa using hf)
  · exact putL_wide (by simpa using hw)

theorem ofNat_toNat (x : Nat) : UInt8.ofNat ((x : Int) % 256).toNat = (x % 256).toUInt8 := by
  rw [show ((x : Int) % 256).toNat = x % 256 by omega]
theorem bz_bytes (n : Nat) : (bz n).map (fun z => UInt8.ofNat z.toNat) = Lib.leBytes 8 n := by
  simp only [bz, List.map_cons, List.map_nil, Lib.leBytes]
  have h : ∀ (x y : Nat), ((x : Int) / (y : Int)) = ((x / y : Nat) : Int) := fun x y => (Int.natCast_ediv x y).symm
  rw [ofNat_toNat, show (n : Int) / 256 = ((n / 256 : Nat) : Int) from h n 256, show (n : Int) / 65536 = ((n / 65536 : Nat) : Int) from h n 65536, show (n : Int) / 16777216 = ((n / 16777216 : Nat) : Int) from h n 16777216,
    show (n : Int) / 4294967296 = ((n / 4294967296 : Nat) : Int) from h n 4294967296, show (n : Int) / 1099511627776 = ((n / 1099511627776 : Nat) : Int) from h n 1099511627776,
    show (n : Int) / 281474976710656 = ((n / 281474976710656 : Nat) : Int) from h n 281474976710656, show (n : Int) / 72057594037927936 = ((n / 72057594037927936 : Nat) : Int) from h n 72057594037927936]
  simp only [ofNat_toNat, Nat.div_div_eq_div_mul, Nat.reduceMul]
theorem leBytes_take : ∀ (k j n : Nat), j ≤ k → (Lib.leBytes k n).take j = Lib.leBytes j n
  | _, 0, _, _ => by simp [Lib.leBytes]
  | 0, j + 1, _, h => by omega
  | k + 1, j + 1, n, h => by simp only [Lib.leBytes, List.take_succ_cons, leBytes_take k j (n / 256) (by omega)]
/-- The first bytes, as a string. -/
theorem bz_str (n k : Nat) (hk : k ≤ 8) : strOfNums ((bz n).take k) = ⟨(Lib.leBytes k n).toArray⟩ := by
  unfold strOfNums
  rw [List.map_take, bz_bytes, leBytes_take 8 k n hk]
theorem leBytes_snoc : ∀ (k n : Nat), Lib.leBytes (k + 1) n = Lib.leBytes k n ++ [(n / 256 ^ k % 256).toUInt8]
  | 0, n => by simp [Lib.leBytes]
  | k + 1, n => by
    have h := leBytes_snoc k (n / 256)
    have e : n / 256 / 256 ^ k = n / 256 ^ (k + 1) := by rw [Nat.div_div_eq_div_mul, Nat.pow_succ, Nat.mul_comm]
    rw [e] at h
    show (n % 256).toUInt8 :: Lib.leBytes (k + 1) (n / 256) = (n % 256).toUInt8 :: (Lib.leBytes k (n / 256) ++ [_])
    rw [h]
theorem leNat_lt : ∀ (l : List UInt8), Lib.leNat l < 256 ^ l.length
  | [] => by simp [Lib.leNat]
  | b :: r => by
    have := leNat_lt r
    have hb := b.toNat_lt
    simp only [Lib.leNat, List.length_cons, Nat.pow_succ]
    omega
theorem leBytes_leNat : ∀ (l : List UInt8), Lib.leBytes l.length (Lib.leNat l) = l
  | [] => rfl
  | b :: r => by
    have hb := b.toNat_lt
    simp only [Lib.leNat, List.length_cons, Lib.leBytes]
    rw [show (b.toNat + 256 * Lib.leNat r) % 256 = b.toNat by omega, show (b.toNat + 256 * Lib.leNat r) / 256 = Lib.leNat r by omega, leBytes_leNat r]
    congr 1
    exact UInt8.ofNat_toNat
theorem leNat_zeros (l : List UInt8) (m : Nat) : Lib.leNat (l ++ List.replicate m 0) = Lib.leNat l := by
  induction l with
  | nil =>
    induction m with
    | zero => rfl
    | succ m ih => simp [List.replicate_succ, Lib.leNat] at ih ⊢; omega
  | cons b r ih => simp [Lib.leNat, ih]
theorem leNat_snoc (l : List UInt8) (b : UInt8) : Lib.leNat (l ++ [b]) = Lib.leNat l + 256 ^ l.length * b.toNat := by
  rw [Lib.leNat_append]; simp [Lib.leNat]

/-- The number at a place. -/
def atL (l : List UInt8) (i k : Int) : List UInt8 := (l.drop i.toNat).take k.toNat
def there (l : List UInt8) (i k : Int) : Bool := decide (0 ≤ i ∧ i + k ≤ l.length)
def getN (l : List UInt8) (i k : Int) : Nat := Lib.leNat (atL l i k)
def getS (l : List UInt8) (i k : Int) : Int := if wide k = true ∧ there l i k = true then (if getN l i k ≤ 9223372036854775807 then (getN l i k : Int) else 0) else 0
def getE (l : List UInt8) (i k : Int) : Int := if wide k = true then (if there l i k = true then (if getN l i k ≤ 9223372036854775807 then 0 else 20) else 21) else 22
theorem getS_wide {l : List UInt8} {i k : Int} (h : wide k = false) : getS l i k = 0 := by unfold getS; rw [if_neg]; simp [h]
theorem getE_wide {l : List UInt8} {i k : Int} (h : wide k = false) : getE l i k = 22 := by unfold getE; rw [if_neg]; simp [h]
theorem getS_short {l : List UInt8} {i k : Int} (h : there l i k = false) : getS l i k = 0 := by unfold getS; rw [if_neg]; simp [h]
theorem getE_short {l : List UInt8} {i k : Int} (hw : wide k = true) (h : there l i k = false) : getE l i k = 21 := by unfold getE; rw [if_pos hw, if_neg]; simp [h]
theorem getS_great {l : List UInt8} {i k : Int} (hw : wide k = true) (ht : there l i k = true) (h : 9223372036854775807 < getN l i k) : getS l i k = 0 := by unfold getS; rw [if_pos ⟨hw, ht⟩, if_neg (by omega)]
theorem getE_great {l : List UInt8} {i k : Int} (hw : wide k = true) (ht : there l i k = true) (h : 9223372036854775807 < getN l i k) : getE l i k = 20 := by unfold getE; rw [if_pos hw, if_pos ht, if_neg (by omega)]
theorem getS_fine {l : List UInt8} {i k : Int} (hw : wide k = true) (ht : there l i k = true) (h : getN l i k ≤ 9223372036854775807) : getS l i k = getN l i k := by unfold getS; rw [if_pos ⟨hw, ht⟩, if_pos h]
theorem getE_fine {l : List UInt8} {i k : Int} (hw : wide k = true) (ht : there l i k = true) (h : getN l i k ≤ 9223372036854775807) : getE l i k = 0 := by unfold getE; rw [if_pos hw, if_pos ht, if_pos h]
theorem getE_zero {l : List UInt8} {i k : Int} (h : getE l i k = 0) : wide k = true ∧ there l i k = true ∧ getN l i k ≤ 9223372036854775807 := by
  unfold getE at h
  by_cases hw : wide k = true
  · by_cases ht : there l i k = true
    · by_cases hn : getN l i k ≤ 9223372036854775807
      · exact ⟨hw, ht, hn⟩
      · rw [if_pos hw, if_pos ht, if_neg hn] at h; omega
    · rw [if_pos hw, if_neg ht] at h; omega
  · rw [if_neg hw] at h; omega
theorem getS_bad {l : List UInt8} {i k : Int} (h : getE l i k ≠ 0) : getS l i k = 0 := by
  by_cases hw : wide k = true
  · by_cases ht : there l i k = true
    · by_cases hn : getN l i k ≤ 9223372036854775807
      · exact absurd (getE_fine hw ht hn) h
      · exact getS_great hw ht (by omega)
    · exact getS_short (by simpa using ht)
  · exact getS_wide (by simpa using hw)
theorem atL_length {l : List UInt8} {i k : Int} (hk : 0 ≤ k) (h : there l i k = true) : (atL l i k).length = k.toNat := by
  have h' : 0 ≤ i ∧ i + k ≤ l.length := by simpa [there] using h
  simp [atL]; omega
end Go.Proofs.Ytmnmfbfjlafgbaa
