/- The plain arithmetic of the layer wire in the seat YtlimcimioeepaaaGreatDoor: bytes of numbers, numbers of bytes. No statement is proved here; it imports nothing of the program.
   The plain words of the layer codec in the seat YtlimcimioeepaaaGreatDoor: a task's bytes, and the task that bytes are.
   The task that bytes are, whole, in the seat YtlimcimioeepaaaGreatDoor: put and read again; read and put again; cut off.
   A task's bytes read number by number, up to the first that isn't there, in plain words, in the seat YtlimcimioeepaaaGreatDoor.
   No statement is proved here. -/
import Derived.Lib.Hide
import Derived.Lib.EndianMore
import Derived.Laws.BytesArg
import Derived.Test.YtlimcimioeepaaaGreatDoorZDescCheck
namespace Go.Proofs.YtlimcimioeepaaaGreatDoor
open Go.Lib

/-- May a width be? -/
def wide (k : Int) : Bool := k == 1 || k == 2 || k == 4 || k == 8
/-- A width's power of 256, written out. -/
def Pow (k P : Int) : Prop := k = 1 ∧ P = 256 ∨ k = 2 ∧ P = 65536 ∨ k = 4 ∧ P = 4294967296 ∨ k = 8 ∧ P = 18446744073709551616
theorem pow_of {k : Int} (h : wide k = true) : ∃ P, Pow k P := by
  simp [wide] at h
  rcases h with ((rfl | rfl) | rfl) | rfl
  · exact ⟨256, .inl ⟨rfl, rfl⟩⟩
  · exact ⟨65536, .inr (.inl ⟨rfl, rfl⟩)⟩
  · exact ⟨4294967296, .inr (.inr (.inl ⟨rfl, rfl⟩))⟩
  · exact ⟨18446744073709551616, .inr (.inr (.inr ⟨rfl, rfl⟩))⟩
theorem Pow.wide {k P : Int} (h : Pow k P) : wide k = true := by
  rcases h with ⟨rfl, rfl⟩ | ⟨rfl, rfl⟩ | ⟨rfl, rfl⟩ | ⟨rfl, rfl⟩ <;> rfl
theorem Pow.eq {k P : Int} (h : Pow k P) : (256 : Int) ^ k.toNat = P := by
  rcases h with ⟨rfl, rfl⟩ | ⟨rfl, rfl⟩ | ⟨rfl, rfl⟩ | ⟨rfl, rfl⟩ <;> rfl
theorem Pow.nat {k P : Int} (h : Pow k P) : ∃ m : Nat, k = m ∧ 1 ≤ m ∧ m ≤ 8 ∧ ((256 ^ m : Nat) : Int) = P := by
  rcases h with ⟨rfl, rfl⟩ | ⟨rfl, rfl⟩ | ⟨rfl, rfl⟩ | ⟨rfl, rfl⟩
  · exact ⟨1, rfl, by omega, by omega, rfl⟩
  · exact ⟨2, rfl, by omega, by omega, rfl⟩
  · exact ⟨4, rfl, by omega, by omega, rfl⟩
  · exact ⟨8, rfl, by omega, by omega, rfl⟩

/-- Does a number fit into a width? -/
def fits (n k : Int) : Bool := decide (0 ≤ n ∧ n < 256 ^ k.toNat)
theorem fits_iff {n k P : Int} (h : Pow k P) : fits n k = true ↔ 0 ≤ n ∧ n < P := by unfold fits; rw [h.eq]; exact decide_eq_true_iff
/-- A number's bytes. -/
def bz (n : Int) : List Int := [n % 256, n / 256 % 256, n / 65536 % 256, n / 16777216 % 256, n / 4294967296 % 256, n / 1099511627776 % 256, n / 281474976710656 % 256, n / 72057594037927936 % 256]
def putL (n k : Int) : List UInt8 := if wide k = true ∧ fits n k = true then Lib.leBytes k.toNat n.toNat else []
def putE (n k : Int) : Int := if wide k = true then (if fits n k = true then 0 else 20) else 22
theorem putL_wide {n k : Int} (h : wide k = false) : putL n k = [] := by unfold putL; rw [if_neg]; simp [h]
theorem putE_wide {n k : Int} (h : wide k = false) : putE n k = 22 := by unfold putE; rw [if_neg]; simp [h]
theorem putL_great {n k : Int} (h : fits n k = false) : putL n k = [] := by unfold putL; rw [if_neg]; simp [h]
theorem putE_great {n k : Int} (hw : wide k = true) (h : fits n k = false) : putE n k = 20 := by unfold putE; rw [if_pos hw, if_neg]; simp [h]
theorem putL_fine {n k : Int} (hw : wide k = true) (h : fits n k = true) : putL n k = Lib.leBytes k.toNat n.toNat := by unfold putL; rw [if_pos ⟨hw, h⟩]
theorem putE_fine {n k : Int} (hw : wide k = true) (h : fits n k = true) : putE n k = 0 := by unfold putE; rw [if_pos hw, if_pos h]
theorem putE_zero {n k : Int} (h : putE n k = 0) : wide k = true ∧ fits n k = true := by
  unfold putE at h
  by_cases hw : wide k = true
  · by_cases hf : fits n k = true
    · exact ⟨hw, hf⟩
    · rw [if_pos hw, if_neg hf] at h; omega
  · rw [if_neg hw] at h; omega
theorem putL_bad {n k : Int} (h : putE n k ≠ 0) : putL n k = [] := by
  by_cases hw : wide k = true
  · by_cases hf : fits n k = true
    · exact absurd (putE_fine hw hf) h
    · exact putL_great (by simpa using hf)
  · exact putL_wide (by simpa using hw)

theorem ofNat_toNat (x : Nat) : UInt8.ofNat ((x : Int) % 256).toNat = (x % 256).toUInt8 := by
  rw [show ((x : Int) % 256).toNat = x % 256 by omega]
theorem bz_bytes (n : Nat) : (bz n).map (fun z => UInt8.ofNat z.toNat) = Lib.leBytes 8 n := by
  simp only [bz, List.map_cons, List.map_nil, Lib.leBytes]
  have h : ∀ (x y : Nat), ((x : Int) / (y : Int)) = ((x / y : Nat) : Int) := fun x y => (Int.natCast_ediv x y).symm
  rw [ofNat_toNat, show (n : Int) / 256 = ((n / 256 : Nat) : Int) from h n 256, show (n : Int) / 65536 = ((n / 65536 : Nat) : Int) from h n 65536, show (n : Int) / 16777216 = ((n / 16777216 : Nat) : Int) from h n 16777216,
    show (n : Int) / 4294967296 = ((n / 4294967296 : Nat) : Int) from h n 4294967296, show (n : Int) / 1099511627776 = ((n / 1099511627776 : Nat) : Int) from h n 1099511627776,
    show (n : Int) / 281474976710656 = ((n / 281474976710656 : Nat) : Int) from h n 281474976710656, show (n : Int) / 72057594037927936 = ((n / 72057594037927936 : Nat) : Int) from h n 72057594037927936]
  simp only [ofNat_toNat, Nat.div_div_eq_div_mul, Nat.reduceMul]
theorem leBytes_take : ∀ (k j n : Nat), j ≤ k → (Lib.leBytes k n).take j = Lib.leBytes j n
  | _, 0, _, _ => by simp [Lib.leBytes]
  | 0, j + 1, _, h => by omega
  | k + 1, j + 1, n, h => by simp only [Lib.leBytes, List.take_succ_cons, leBytes_take k j (n / 256) (by omega)]
/-- The first bytes, as a string. -/
theorem bz_str (n k : Nat) (hk : k ≤ 8) : strOfNums ((bz n).take k) = ⟨(Lib.leBytes k n).toArray⟩ := by
  unfold strOfNums
  rw [List.map_take, bz_bytes, leBytes_take 8 k n hk]
theorem leBytes_snoc : ∀ (k n : Nat), Lib.leBytes (k + 1) n = Lib.leBytes k n ++ [(n / 256 ^ k % 256).toUInt8]
  | 0, n => by simp [Lib.leBytes]
  | k + 1, n => by
    have h := leBytes_snoc k (n / 256)
    have e : n / 256 / 256 ^ k = n / 256 ^ (k + 1) := by rw [Nat.div_div_eq_div_mul, Nat.pow_succ, Nat.mul_comm]
    rw [e] at h
    show (n % 256).toUInt8 :: Lib.leBytes (k + 1) (n / 256) = (n % 256).toUInt8 :: (Lib.leBytes k (n / 256) ++ [_])
    rw [h]
theorem leNat_lt : ∀ (l : List UInt8), Lib.leNat l < 256 ^ l.length
  | [] => by simp [Lib.leNat]
  | b :: r => by
    have := leNat_lt r
    have hb := b.toNat_lt
    simp only [Lib.leNat, List.length_cons, Nat.pow_succ]
    omega
theorem leBytes_leNat : ∀ (l : List UInt8), Lib.leBytes l.length (Lib.leNat l) = l
  | [] => rfl
  | b :: r => by
    have hb := b.toNat_lt
    simp only [Lib.leNat, List.length_cons, Lib.leBytes]
    rw [show (b.toNat + 256 * Lib.leNat r) % 256 = b.toNat by omega, show (b.toNat + 256 * Lib.leNat r) / 256 = Lib.leNat r by omega, leBytes_leNat r]
    congr 1
    exact UInt8.ofNat_toNat
theorem leNat_zeros (l : List UInt8) (m : Nat) : Lib.leNat (l ++ List.replicate m 0) = Lib.leNat l := by
  induction l with
  | nil =>
    induction m with
    | zero => rfl
    | succ m ih => simp [List.replicate_succ, Lib.leNat] at ih ⊢; omega
  | cons b r ih => simp [Lib.leNat, ih]
theorem leNat_snoc (l : List UInt8) (b : UInt8) : Lib.leNat (l ++ [b]) = Lib.leNat l + 256 ^ l.length * b.toNat := by
  rw [Lib.leNat_append]; simp [Lib.leNat]

/-- The number at a place. -/
def atL (l : List UInt8) (i k : Int) : List UInt8 := (l.drop i.toNat).take k.toNat
def there (l : List UInt8) (i k : Int) : Bool := decide (0 ≤ i ∧ i + k ≤ l.length)
def getN (l : List UInt8) (i k : Int) : Nat := Lib.leNat (atL l i k)
def getS (l : List UInt8) (i k : Int) : Int := if wide k = true ∧ there l i k = true then (if getN l i k ≤ 9223372036854775807 then (getN l i k : Int) else 0) else 0
def getE (l : List UInt8) (i k : Int) : Int := if wide k = true then (if there l i k = true then (if getN l i k ≤ 9223372036854775807 then 0 else 20) else 21) else 22
theorem getS_wide {l : List UInt8} {i k : Int} (h : wide k = false) : getS l i k = 0 := by unfold getS; rw [if_neg]; simp [h]
theorem getE_wide {l : List UInt8} {i k : Int} (h : wide k = false) : getE l i k = 22 := by unfold getE; rw [if_neg]; simp [h]
theorem getS_short {l : List UInt8} {i k : Int} (h : there l i k = false) : getS l i k = 0 := by unfold getS; rw [if_neg]; simp [h]
theorem getE_short {l : List UInt8} {i k : Int} (hw : wide k = true) (h : there l i k = false) : getE l i k = 21 := by unfold getE; rw [if_pos hw, if_neg]; simp [h]
theorem getS_great {l : List UInt8} {i k : Int} (hw : wide k = true) (ht : there l i k = true) (h : 9223372036854775807 < getN l i k) : getS l i k = 0 := by unfold getS; rw [if_pos ⟨hw, ht⟩, if_neg (by omega)]
theorem getE_great {l : List UInt8} {i k : Int} (hw : wide k = true) (ht : there l i k = true) (h : 9223372036854775807 < getN l i k) : getE l i k = 20 := by unfold getE; rw [if_pos hw, if_pos ht, if_neg (by omega)]
theorem getS_fine {l : List UInt8} {i k : Int} (hw : wide k = true) (ht : there l i k = true) (h : getN l i k ≤ 9223372036854775807) : getS l i k = getN l i k := by unfold getS; rw [if_pos ⟨hw, ht⟩, if_pos h]
theorem getE_fine {l : List UInt8} {i k : Int} (hw : wide k = true) (ht : there l i k = true) (h : getN l i k ≤ 9223372036854775807) : getE l i k = 0 := by unfold getE; rw [if_pos hw, if_pos ht, if_pos h]
theorem getE_zero {l : List UInt8} {i k : Int} (h : getE l i k = 0) : wide k = true ∧ there l i k = true ∧ getN l i k ≤ 9223372036854775807 := by
  unfold getE at h
  by_cases hw : wide k = true
  · by_cases ht : there l i k = true
    · by_cases hn : getN l i k ≤ 9223372036854775807
      · exact ⟨hw, ht, hn⟩
      · rw [if_pos hw, if_pos ht, if_neg hn] at h; omega
    · rw [if_pos hw, if_neg ht] at h; omega
  · rw [if_neg hw] at h; omega
theorem getS_bad {l : List UInt8} {i k : Int} (h : getE l i k ≠ 0) : getS l i k = 0 := by
  by_cases hw : wide k = true
  · by_cases ht : there l i k = true
    · by_cases hn : getN l i k ≤ 9223372036854775807
      · exact absurd (getE_fine hw ht hn) h
      · exact getS_great hw ht (by omega)
    · exact getS_short (by simpa using ht)
  · exact getS_wide (by simpa using hw)
theorem atL_length {l : List UInt8} {i k : Int} (hk : 0 ≤ k) (h : there l i k = true) : (atL l i k).length = k.toNat := by
  have h' : 0 ≤ i ∧ i + k ≤ l.length := by simpa [there] using h
  simp [atL]; omega
end Go.Proofs.YtlimcimioeepaaaGreatDoor
set_option linter.unusedVariables false
namespace Go.Proofs.YtlimcimioeepaaaGreatDoor
open Go.Lib

/-- A number in k bytes. -/
def u (k : Nat) (n : Int) : List UInt8 := Lib.leBytes k n.toNat
theorem u_length (k : Nat) (n : Int) : (u k n).length = k := Lib.leBytes_length k _
/-- The number that the first k bytes are. -/
def rd (k : Nat) (r : List UInt8) : Int := (Lib.leNat (r.take k) : Nat)
theorem rd_nonneg (k : Nat) (r : List UInt8) : 0 ≤ rd k r := Int.natCast_nonneg _
theorem rd_u {k : Nat} {n : Int} {P : Int} (h0 : 0 ≤ n) (h1 : n < P) (hP : ((256 ^ k : Nat) : Int) = P) (r : List UInt8) : rd k (u k n ++ r) = n := by
  unfold rd
  rw [List.take_append_of_le_length (by rw [u_length]; omega), List.take_of_length_le (by rw [u_length]; omega)]
  unfold u
  rw [Lib.leNat_leBytes k n.toNat (by omega)]
  omega
theorem rd_lt {k : Nat} {P : Int} (hP : ((256 ^ k : Nat) : Int) = P) (r : List UInt8) : rd k r < P := by
  unfold rd
  have h := leNat_lt (r.take k)
  have h2 : (256 : Nat) ^ (r.take k).length ≤ 256 ^ k := Nat.pow_le_pow_right (by omega) (by rw [List.length_take]; omega)
  omega
theorem u_rd {k : Nat} {r : List UInt8} (h : k ≤ r.length) : u k (rd k r) = r.take k := by
  unfold u rd
  have e := leBytes_leNat (r.take k)
  rw [List.length_take, Nat.min_eq_left h] at e
  simpa using e
theorem rd_take {k m : Nat} {r : List UInt8} (h : k ≤ m) : rd k (r.take m) = rd k r := by
  unfold rd; rw [List.take_take, Nat.min_eq_left h]

def partB (p : Int × Int × Int) : List UInt8 := u 1 p.1 ++ (u 4 p.2.1 ++ u 2 p.2.2)
def edgeB (p : Int × Int) : List UInt8 := u 1 p.1 ++ u 1 p.2
def futB (p : Int × Int × Int) : List UInt8 := u 1 p.1 ++ (u 1 p.2.1 ++ u 2 p.2.2)
def onesB (l : List Int) : List UInt8 := l.flatMap (u 1)
def barB (b : List Int × List Int) : List UInt8 := u 1 b.1.length ++ (u 1 b.2.length ++ (onesB b.1 ++ onesB b.2))
def headB (T : Task) : List UInt8 := [100, 97, 103, 49] ++ (u 1 1 ++ (u 1 T.parts.length ++ (u 1 T.edges.length ++ (u 1 T.futures.length ++ (u 1 T.bars.length ++ (u 4 T.period ++ u 4 T.deadline))))))
/-- The bytes of a task, its sum left out. -/
def bodyB (T : Task) : List UInt8 := headB T ++ (T.parts.flatMap partB ++ (T.edges.flatMap edgeB ++ (T.futures.flatMap futB ++ T.bars.flatMap barB)))

/-- Its numbers are so small that bytes hold them. -/
structure Small (T : Task) : Prop where
  period : 0 ≤ T.period ∧ T.period < 4294967296
  deadline : 0 ≤ T.deadline ∧ T.deadline < 4294967296
  np : T.parts.length < 256
  ne : T.edges.length < 256
  nf : T.futures.length < 256
  nr : T.bars.length < 256
  parts : ∀ p ∈ T.parts, (0 ≤ p.1 ∧ p.1 < 256) ∧ (0 ≤ p.2.1 ∧ p.2.1 < 4294967296) ∧ (0 ≤ p.2.2 ∧ p.2.2 < 65536)
  edges : ∀ p ∈ T.edges, (0 ≤ p.1 ∧ p.1 < 256) ∧ (0 ≤ p.2 ∧ p.2 < 256)
  futures : ∀ p ∈ T.futures, (0 ≤ p.1 ∧ p.1 < 256) ∧ (0 ≤ p.2.1 ∧ p.2.1 < 256) ∧ (0 ≤ p.2.2 ∧ p.2.2 < 65536)
  bars : ∀ b ∈ T.bars, b.1.length < 256 ∧ b.2.length < 256 ∧ (∀ x ∈ b.1, 0 ≤ x ∧ x < 256) ∧ (∀ x ∈ b.2, 0 ≤ x ∧ x < 256)

/-- What n parts, edges, futures at these bytes are. -/
def partR (r : List UInt8) : Int × Int × Int := (rd 1 r, rd 4 (r.drop 1), rd 2 (r.drop 5))
def partsR : Nat → List UInt8 → List (Int × Int × Int)
  | 0, _ => []
  | n + 1, r => partR r :: partsR n (r.drop 7)
def edgeR (r : List UInt8) : Int × Int := (rd 1 r, rd 1 (r.drop 1))
def edgesR : Nat → List UInt8 → List (Int × Int)
  | 0, _ => []
  | n + 1, r => edgeR r :: edgesR n (r.drop 2)
def futR (r : List UInt8) : Int × Int × Int := (rd 1 r, rd 1 (r.drop 1), rd 2 (r.drop 2))
def futsR : Nat → List UInt8 → List (Int × Int × Int)
  | 0, _ => []
  | n + 1, r => futR r :: futsR n (r.drop 4)
def onesR : Nat → List UInt8 → List Int
  | 0, _ => []
  | n + 1, r => rd 1 r :: onesR n (r.drop 1)
/-- How many In and Out a barrier here has. -/
def inR (r : List UInt8) : Nat := (rd 1 r).toNat
def outR (r : List UInt8) : Nat := (rd 1 (r.drop 1)).toNat
def barR (r : List UInt8) : List Int × List Int := (onesR (inR r) (r.drop 2), onesR (outR r) (r.drop (2 + inR r)))
def barW (r : List UInt8) : Nat := 2 + inR r + outR r
def barsR : Nat → List UInt8 → List (List Int × List Int)
  | 0, _ => []
  | n + 1, r => barR r :: barsR n (r.drop (barW r))
/-- How many bytes n barriers take, and are these there? -/
def barsW : Nat → List UInt8 → Nat
  | 0, _ => 0
  | n + 1, r => barW r + barsW n (r.drop (barW r))
def barsF : Nat → List UInt8 → Prop
  | 0, _ => True
  | n + 1, r => 2 ≤ r.length ∧ barW r ≤ r.length ∧ barsF n (r.drop (barW r))

theorem flat_len {α : Type} (f : α → List UInt8) (k : Nat) (h : ∀ x, (f x).length = k) : ∀ l : List α, (l.flatMap f).length = k * l.length
  | [] => by simp
  | x :: l => by rw [List.flatMap_cons, List.length_append, h, flat_len f k h l, List.length_cons, Nat.mul_succ]; omega
theorem partB_length (p : Int × Int × Int) : (partB p).length = 7 := by simp [partB, u_length]
theorem edgeB_length (p : Int × Int) : (edgeB p).length = 2 := by simp [edgeB, u_length]
theorem futB_length (p : Int × Int × Int) : (futB p).length = 4 := by simp [futB, u_length]
theorem onesB_length (l : List Int) : (onesB l).length = l.length := by
  unfold onesB; rw [flat_len (u 1) 1 (u_length 1) l]; omega
theorem barB_length (b : List Int × List Int) : (barB b).length = 2 + b.1.length + b.2.length := by
  simp [barB, u_length, onesB_length]; omega
theorem headB_length (T : Task) : (headB T).length = 17 := by simp [headB, u_length]
theorem partsR_length : ∀ (n : Nat) (r : List UInt8), (partsR n r).length = n
  | 0, _ => rfl
  | n + 1, r => by simp [partsR, partsR_length n]
theorem edgesR_length : ∀ (n : Nat) (r : List UInt8), (edgesR n r).length = n
  | 0, _ => rfl
  | n + 1, r => by simp [edgesR, edgesR_length n]
theorem futsR_length : ∀ (n : Nat) (r : List UInt8), (futsR n r).length = n
  | 0, _ => rfl
  | n + 1, r => by simp [futsR, futsR_length n]
theorem onesR_length : ∀ (n : Nat) (r : List UInt8), (onesR n r).length = n
  | 0, _ => rfl
  | n + 1, r => by simp [onesR, onesR_length n]
theorem barsR_length : ∀ (n : Nat) (r : List UInt8), (barsR n r).length = n
  | 0, _ => rfl
  | n + 1, r => by simp [barsR, barsR_length n]

/- What was put is read again. -/
theorem drop_u (k : Nat) (n : Int) (r : List UInt8) : (u k n ++ r).drop k = r := by
  rw [List.drop_append_of_le_length (by rw [u_length]; omega), List.drop_of_length_le (by rw [u_length]; omega), List.nil_append]
theorem drop_more (k j : Nat) (a r : List UInt8) (h : a.length = k) : (a ++ r).drop (k + j) = r.drop j := by
  rw [List.drop_append, h, List.drop_of_length_le (by omega), List.nil_append]; congr 1; omega
theorem partR_B {p : Int × Int × Int} (h : (0 ≤ p.1 ∧ p.1 < 256) ∧ (0 ≤ p.2.1 ∧ p.2.1 < 4294967296) ∧ (0 ≤ p.2.2 ∧ p.2.2 < 65536)) (r : List UInt8) : partR (partB p ++ r) = p := by
  obtain ⟨⟨a0, a1⟩, ⟨b0, b1⟩, c0, c1⟩ := h
  unfold partR partB
  rw [List.append_assoc, List.append_assoc, rd_u a0 a1 rfl, drop_u, rd_u b0 b1 rfl, show (5 : Nat) = 1 + 4 from rfl, drop_more 1 4 _ _ (u_length 1 _), drop_u, rd_u c0 c1 rfl]
theorem edgeR_B {p : Int × Int} (h : (0 ≤ p.1 ∧ p.1 < 256) ∧ (0 ≤ p.2 ∧ p.2 < 256)) (r : List UInt8) : edgeR (edgeB p ++ r) = p := by
  obtain ⟨⟨a0, a1⟩, b0, b1⟩ := h
  unfold edgeR edgeB
  rw [List.append_assoc, rd_u a0 a1 rfl, drop_u, rd_u b0 b1 rfl]
theorem futR_B {p : Int × Int × Int} (h : (0 ≤ p.1 ∧ p.1 < 256) ∧ (0 ≤ p.2.1 ∧ p.2.1 < 256) ∧ (0 ≤ p.2.2 ∧ p.2.2 < 65536)) (r : List UInt8) : futR (futB p ++ r) = p := by
  obtain ⟨⟨a0, a1⟩, ⟨b0, b1⟩, c0, c1⟩ := h
  unfold futR futB
  rw [List.append_assoc, List.append_assoc, rd_u a0 a1 rfl, drop_u, rd_u b0 b1 rfl, show (2 : Nat) = 1 + 1 from rfl, drop_more 1 1 _ _ (u_length 1 _), drop_u, rd_u c0 c1 rfl]
theorem partsR_B : ∀ (l : List (Int × Int × Int)) (r : List UInt8), (∀ p ∈ l, (0 ≤ p.1 ∧ p.1 < 256) ∧ (0 ≤ p.2.1 ∧ p.2.1 < 4294967296) ∧ (0 ≤ p.2.2 ∧ p.2.2 < 65536)) → partsR l.length (l.flatMap partB ++ r) = l
  | [], _, _ => rfl
  | p :: l, r, h => by
    rw [List.flatMap_cons, List.append_assoc, List.length_cons, partsR, partR_B (h p (by simp)), show (7 : Nat) = 7 + 0 from rfl, drop_more 7 0 _ _ (partB_length p), List.drop_zero, partsR_B l r (fun q hq => h q (by simp [hq]))]
theorem edgesR_B : ∀ (l : List (Int × Int)) (r : List UInt8), (∀ p ∈ l, (0 ≤ p.1 ∧ p.1 < 256) ∧ (0 ≤ p.2 ∧ p.2 < 256)) → edgesR l.length (l.flatMap edgeB ++ r) = l
  | [], _, _ => rfl
  | p :: l, r, h => by
    rw [List.flatMap_cons, List.append_assoc, List.length_cons, edgesR, edgeR_B (h p (by simp)), show (2 : Nat) = 2 + 0 from rfl, drop_more 2 0 _ _ (edgeB_length p), List.drop_zero, edgesR_B l r (fun q hq => h q (by simp [hq]))]
theorem futsR_B : ∀ (l : List (Int × Int × Int)) (r : List UInt8), (∀ p ∈ l, (0 ≤ p.1 ∧ p.1 < 256) ∧ (0 ≤ p.2.1 ∧ p.2.1 < 256) ∧ (0 ≤ p.2.2 ∧ p.2.2 < 65536)) → futsR l.length (l.flatMap futB ++ r) = l
  | [], _, _ => rfl
  | p :: l, r, h => by
    rw [List.flatMap_cons, List.append_assoc, List.length_cons, futsR, futR_B (h p (by simp)), show (4 : Nat) = 4 + 0 from rfl, drop_more 4 0 _ _ (futB_length p), List.drop_zero, futsR_B l r (fun q hq => h q (by simp [hq]))]
theorem onesR_B : ∀ (l : List Int) (r : List UInt8), (∀ x ∈ l, 0 ≤ x ∧ x < 256) → onesR l.length (onesB l ++ r) = l
  | [], _, _ => rfl
  | x :: l, r, h => by
    have hx := h x (by simp)
    have e : onesB (x :: l) = u 1 x ++ onesB l := by simp [onesB]
    rw [e, List.append_assoc, List.length_cons, onesR, rd_u hx.1 hx.2 rfl, drop_u, onesR_B l r (fun q hq => h q (by simp [hq]))]
theorem inR_B {b : List Int × List Int} (h : b.1.length < 256) (r : List UInt8) : inR (barB b ++ r) = b.1.length := by
  unfold inR barB
  rw [List.append_assoc, rd_u (by omega) (show ((b.1.length : Nat) : Int) < 256 by omega) rfl]; omega
theorem outR_B {b : List Int × List Int} (h : b.2.length < 256) (r : List UInt8) : outR (barB b ++ r) = b.2.length := by
  unfold outR barB
  rw [List.append_assoc, drop_u, List.append_assoc, rd_u (by omega) (show ((b.2.length : Nat) : Int) < 256 by omega) rfl]; omega
theorem barW_B {b : List Int × List Int} (h1 : b.1.length < 256) (h2 : b.2.length < 256) (r : List UInt8) : barW (barB b ++ r) = (barB b).length := by
  unfold barW; rw [inR_B h1, outR_B h2, barB_length]
theorem barR_B {b : List Int × List Int} (h : b.1.length < 256 ∧ b.2.length < 256 ∧ (∀ x ∈ b.1, 0 ≤ x ∧ x < 256) ∧ (∀ x ∈ b.2, 0 ≤ x ∧ x < 256)) (r : List UInt8) : barR (barB b ++ r) = b := by
  obtain ⟨h1, h2, h3, h4⟩ := h
  unfold barR
  rw [inR_B h1, outR_B h2]
  have e : barB b ++ r = (u 1 b.1.length ++ u 1 b.2.length) ++ (onesB b.1 ++ (onesB b.2 ++ r)) := by simp [barB]
  rw [e, drop_more 2 b.1.length _ _ (by simp [u_length]), show (2 : Nat) = 2 + 0 from rfl, drop_more 2 0 _ _ (by simp [u_length]), List.drop_zero, onesR_B _ _ h3]
  have e2 : (onesB b.1 ++ (onesB b.2 ++ r)).drop b.1.length = onesB b.2 ++ r := by
    have := drop_more b.1.length 0 (onesB b.1) (onesB b.2 ++ r) (onesB_length b.1)
    simpa using this
  rw [e2, onesR_B _ _ h4]
def barsSmall (l : List (List Int × List Int)) : Prop := ∀ b ∈ l, b.1.length < 256 ∧ b.2.length < 256 ∧ (∀ x ∈ b.1, 0 ≤ x ∧ x < 256) ∧ (∀ x ∈ b.2, 0 ≤ x ∧ x < 256)
theorem barsR_B : ∀ (l : List (List Int × List Int)) (r : List UInt8), barsSmall l → barsR l.length (l.flatMap barB ++ r) = l ∧ barsW l.length (l.flatMap barB ++ r) = (l.flatMap barB).length ∧ barsF l.length (l.flatMap barB ++ r)
  | [], _, _ => ⟨rfl, rfl, trivial⟩
  | b :: l, r, h => by
    have hb := h b (by simp)
    have ih := barsR_B l r (fun q hq => h q (by simp [hq]))
    have hw := barW_B hb.1 hb.2.1 (l.flatMap barB ++ r)
    have hd : (barB b ++ (l.flatMap barB ++ r)).drop (barB b).length = l.flatMap barB ++ r := by
      have := drop_more (barB b).length 0 (barB b) (l.flatMap barB ++ r) rfl
      simp only [Nat.add_zero, List.drop_zero] at this
      exact this
    have hl := barB_length b
    rw [List.flatMap_cons, List.append_assoc, List.length_cons, barsR, barsW, barsF, barR_B hb, hw, hd]
    refine ⟨by rw [ih.1], by rw [ih.2.1, List.length_append], ?_, ?_, ih.2.2⟩
    · rw [List.length_append]; omega
    · rw [List.length_append]; omega

/- What is read is put as it stood there. -/
theorem take_take_drop (a b : Nat) (r : List UInt8) : r.take a ++ (r.drop a).take b = r.take (a + b) := by rw [List.take_add]
theorem partB_R {r : List UInt8} (h : 7 ≤ r.length) : partB (partR r) = r.take 7 := by
  unfold partB partR
  simp only
  rw [u_rd (by omega), u_rd (by rw [List.length_drop]; omega), u_rd (by rw [List.length_drop]; omega), show r.drop 5 = (r.drop 1).drop 4 by rw [List.drop_drop], take_take_drop, take_take_drop]
theorem edgeB_R {r : List UInt8} (h : 2 ≤ r.length) : edgeB (edgeR r) = r.take 2 := by
  unfold edgeB edgeR
  simp only
  rw [u_rd (by omega), u_rd (by rw [List.length_drop]; omega), take_take_drop]
theorem futB_R {r : List UInt8} (h : 4 ≤ r.length) : futB (futR r) = r.take 4 := by
  unfold futB futR
  simp only
  rw [u_rd (by omega), u_rd (by rw [List.length_drop]; omega), u_rd (by rw [List.length_drop]; omega), show r.drop 2 = (r.drop 1).drop 1 by rw [List.drop_drop], take_take_drop, take_take_drop]
theorem partsB_R : ∀ (n : Nat) (r : List UInt8), 7 * n ≤ r.length → (partsR n r).flatMap partB = r.take (7 * n)
  | 0, r, _ => by simp [partsR]
  | n + 1, r, h => by
    rw [partsR, List.flatMap_cons, partB_R (by omega), partsB_R n (r.drop 7) (by rw [List.length_drop]; omega), take_take_drop]; congr 1; omega
theorem edgesB_R : ∀ (n : Nat) (r : List UInt8), 2 * n ≤ r.length → (edgesR n r).flatMap edgeB = r.take (2 * n)
  | 0, r, _ => by simp [edgesR]
  | n + 1, r, h => by
    rw [edgesR, List.flatMap_cons, edgeB_R (by omega), edgesB_R n (r.drop 2) (by rw [List.length_drop]; omega), take_take_drop]; congr 1; omega
theorem futsB_R : ∀ (n : Nat) (r : List UInt8), 4 * n ≤ r.length → (futsR n r).flatMap futB = r.take (4 * n)
  | 0, r, _ => by simp [futsR]
  | n + 1, r, h => by
    rw [futsR, List.flatMap_cons, futB_R (by omega), futsB_R n (r.drop 4) (by rw [List.length_drop]; omega), take_take_drop]; congr 1; omega
theorem onesB_R : ∀ (n : Nat) (r : List UInt8), n ≤ r.length → onesB (onesR n r) = r.take n
  | 0, r, _ => by simp [onesR, onesB]
  | n + 1, r, h => by
    have e : onesB (onesR (n + 1) r) = u 1 (rd 1 r) ++ onesB (onesR n (r.drop 1)) := by simp [onesR, onesB]
    rw [e, u_rd (by omega), onesB_R n (r.drop 1) (by rw [List.length_drop]; omega), take_take_drop]; congr 1; omega
theorem barB_R {r : List UInt8} (h2 : 2 ≤ r.length) (h : barW r ≤ r.length) : barB (barR r) = r.take (barW r) := by
  unfold barW at h
  have e1 : ((inR r : Nat) : Int) = rd 1 r := by unfold inR; have := rd_nonneg 1 r; omega
  have e2 : ((outR r : Nat) : Int) = rd 1 (r.drop 1) := by unfold outR; have := rd_nonneg 1 (r.drop 1); omega
  unfold barB barR
  simp only
  rw [onesR_length, onesR_length, e1, e2, u_rd (by omega), u_rd (by rw [List.length_drop]; omega), onesB_R _ _ (by rw [List.length_drop]; omega), onesB_R _ _ (by rw [List.length_drop]; omega)]
  rw [show r.drop (2 + inR r) = (r.drop 2).drop (inR r) by rw [List.drop_drop], take_take_drop, show r.drop 2 = (r.drop 1).drop 1 by rw [List.drop_drop], take_take_drop, take_take_drop]
  unfold barW
  congr 1
  omega
theorem barsB_R : ∀ (n : Nat) (r : List UInt8), barsF n r → (barsR n r).flatMap barB = r.take (barsW n r) ∧ barsW n r ≤ r.length
  | 0, r, _ => by simp [barsR, barsW]
  | n + 1, r, h => by
    obtain ⟨h1, h2, h3⟩ := h
    have ih := barsB_R n _ h3
    rw [barsR, List.flatMap_cons, barB_R h1 h2, barsW, ih.1, take_take_drop]
    refine ⟨rfl, ?_⟩
    have := ih.2
    rw [List.length_drop] at this
    omega
/-- What is cut off. -/
theorem inR_take {m : Nat} {r : List UInt8} (h : 2 ≤ m) : inR (r.take m) = inR r := by unfold inR; rw [rd_take (by omega)]
theorem outR_take {m : Nat} {r : List UInt8} (h : 2 ≤ m) : outR (r.take m) = outR r := by unfold outR; rw [List.drop_take, rd_take (by omega)]
theorem barsF_take : ∀ (n m : Nat) (r : List UInt8), barsF n (r.take m) → barsW n (r.take m) = barsW n r ∧ barsW n r ≤ m
  | 0, _, _, _ => ⟨rfl, Nat.zero_le _⟩
  | n + 1, m, r, h => by
    obtain ⟨h1, h2, h3⟩ := h
    rw [List.length_take] at h1 h2
    have e : barW (r.take m) = barW r := by unfold barW; rw [inR_take (by omega), outR_take (by omega)]
    rw [e] at h2 h3
    rw [List.drop_take] at h3
    have ih := barsF_take n _ _ h3
    unfold barsW
    rw [e, List.drop_take, ih.1]
    omega
end Go.Proofs.YtlimcimioeepaaaGreatDoor
set_option linter.unusedVariables false
namespace Go.Proofs.YtlimcimioeepaaaGreatDoor
open Go.Lib

/-- The number that the byte at a place is. -/
def cnt (b : List UInt8) (i : Nat) : Nat := (rd 1 (b.drop i)).toNat
theorem cnt_eq (b : List UInt8) (i : Nat) : ((cnt b i : Nat) : Int) = rd 1 (b.drop i) := by unfold cnt; have := rd_nonneg 1 (b.drop i); omega
theorem cnt_lt (b : List UInt8) (i : Nat) : cnt b i < 256 := by
  have h1 := cnt_eq b i
  have h2 := rd_lt (k := 1) (P := 256) rfl (b.drop i)
  omega
/-- Where edges, futures, barriers begin. -/
def e0 (b : List UInt8) : Nat := 17 + 7 * cnt b 5
def f0 (b : List UInt8) : Nat := e0 b + 2 * cnt b 6
def r0 (b : List UInt8) : Nat := f0 b + 4 * cnt b 7
def taskR (b : List UInt8) : Task := ⟨rd 4 (b.drop 9), rd 4 (b.drop 13), partsR (cnt b 5) (b.drop 17), edgesR (cnt b 6) (b.drop (e0 b)), futsR (cnt b 7) (b.drop (f0 b)), barsR (cnt b 8) (b.drop (r0 b))⟩
def magicB (b : List UInt8) : Prop := b.take 4 = [100, 97, 103, 49]
def verB (b : List UInt8) : Prop := rd 1 (b.drop 4) = 1
/-- As many bytes as are told are there. -/
def fitsB (b : List UInt8) : Prop := r0 b ≤ b.length ∧ barsF (cnt b 8) (b.drop (r0 b))
/-- As many bytes as are told. -/
def wholeB (b : List UInt8) : Nat := r0 b + barsW (cnt b 8) (b.drop (r0 b))

theorem drop_len (a r : List UInt8) (k : Nat) (h : a.length = k) : (a ++ r).drop k = r := by
  have := drop_more k 0 a r h
  simpa using this
theorem take_len (a r : List UInt8) (k : Nat) (h : a.length = k) : (a ++ r).take k = a := by
  rw [List.take_append_of_le_length (by omega), List.take_of_length_le (by omega)]
section
variable {T : Task}
def tailB (T : Task) : List UInt8 := T.parts.flatMap partB ++ (T.edges.flatMap edgeB ++ (T.futures.flatMap futB ++ T.bars.flatMap barB))
theorem bodyB_eq (T : Task) : bodyB T = headB T ++ tailB T := rfl
theorem head4 (T : Task) (t : List UInt8) : (headB T ++ t).drop 4 = u 1 1 ++ (u 1 T.parts.length ++ (u 1 T.edges.length ++ (u 1 T.futures.length ++ (u 1 T.bars.length ++ (u 4 T.period ++ (u 4 T.deadline ++ t)))))) := by
  unfold headB; simp only [List.append_assoc]; exact drop_len _ _ 4 rfl
theorem drop_at {b r : List UInt8} {i k : Nat} {n : Int} (h : b.drop i = u k n ++ r) : b.drop (i + k) = r := by
  rw [← List.drop_drop, h]; exact drop_u k n r
theorem cnt_at {b r : List UInt8} {i n : Nat} (h : b.drop i = u 1 n ++ r) (hn : n < 256) : cnt b i = n := by
  unfold cnt; rw [h, rd_u (by omega) (show ((n : Nat) : Int) < 256 by omega) rfl]; omega
theorem parts_len (T : Task) : (T.parts.flatMap partB).length = 7 * T.parts.length := flat_len _ 7 partB_length _
theorem edges_len (T : Task) : (T.edges.flatMap edgeB).length = 2 * T.edges.length := flat_len _ 2 edgeB_length _
theorem futs_len (T : Task) : (T.futures.flatMap futB).length = 4 * T.futures.length := flat_len _ 4 futB_length _
def barsN (T : Task) : Nat := (T.bars.map fun b => 2 + b.1.length + b.2.length).sum
theorem bars_len : ∀ l : List (List Int × List Int), (l.flatMap barB).length = (l.map fun b => 2 + b.1.length + b.2.length).sum
  | [] => rfl
  | b :: l => by rw [List.flatMap_cons, List.length_append, barB_length, bars_len l, List.map_cons, List.sum_cons]
theorem bodyB_length (T : Task) : (bodyB T).length = 17 + 7 * T.parts.length + 2 * T.edges.length + 4 * T.futures.length + barsN T := by
  rw [bodyB_eq, List.length_append, headB_length]; unfold tailB
  rw [List.length_append, List.length_append, List.length_append, parts_len, edges_len, futs_len, bars_len]
  unfold barsN; omega

/-- What was put, whatever stands behind it, is read again. -/
structure ReadB (T : Task) (b : List UInt8) : Prop where
  len : 17 ≤ b.length
  magic : magicB b
  ver : verB b
  np : cnt b 5 = T.parts.length
  ne : cnt b 6 = T.edges.length
  nf : cnt b 7 = T.futures.length
  nr : cnt b 8 = T.bars.length
  fits : fitsB b
  whole : wholeB b = (bodyB T).length
  task : taskR b = T
theorem read_B (hs : Small T) (z : List UInt8) : ReadB T (bodyB T ++ z) := by
  have hb : bodyB T ++ z = headB T ++ (tailB T ++ z) := by rw [bodyB_eq, List.append_assoc]
  generalize bodyB T ++ z = b at hb
  have d4 := head4 T (tailB T ++ z)
  rw [← hb] at d4
  have d5 := drop_at d4
  have d6 := drop_at d5
  have d7 := drop_at d6
  have d8 := drop_at d7
  have d9 := drop_at d8
  have d13 := drop_at d9
  have d17 := drop_at d13
  simp only [Nat.reduceAdd] at d5 d6 d7 d8 d9 d13 d17
  have c5 := cnt_at d5 hs.np
  have c6 := cnt_at d6 hs.ne
  have c7 := cnt_at d7 hs.nf
  have c8 := cnt_at d8 hs.nr
  have ht : tailB T ++ z = T.parts.flatMap partB ++ (T.edges.flatMap edgeB ++ (T.futures.flatMap futB ++ (T.bars.flatMap barB ++ z))) := by unfold tailB; simp only [List.append_assoc]
  rw [ht] at d17
  have de : b.drop (e0 b) = T.edges.flatMap edgeB ++ (T.futures.flatMap futB ++ (T.bars.flatMap barB ++ z)) := by
    unfold e0; rw [← List.drop_drop, d17, c5]; exact drop_len _ _ _ (parts_len T)
  have df : b.drop (f0 b) = T.futures.flatMap futB ++ (T.bars.flatMap barB ++ z) := by
    unfold f0; rw [← List.drop_drop, de, c6]; exact drop_len _ _ _ (edges_len T)
  have dr : b.drop (r0 b) = T.bars.flatMap barB ++ z := by
    unfold r0; rw [← List.drop_drop, df, c7]; exact drop_len _ _ _ (futs_len T)
  have R := barsR_B T.bars z hs.bars
  have hr : r0 b = 17 + 7 * T.parts.length + 2 * T.edges.length + 4 * T.futures.length := by unfold r0 f0 e0; rw [c5, c6, c7]
  have hl : b.length = (bodyB T).length + z.length := by rw [hb, bodyB_eq, List.length_append, List.length_append, List.length_append]; omega
  have hL := bodyB_length T
  refine ⟨by omega, ?_, ?_, c5, c6, c7, c8, ⟨by omega, ?_⟩, ?_, ?_⟩
  · unfold magicB; rw [hb]; unfold headB; simp only [List.append_assoc]; exact take_len _ _ 4 rfl
  · unfold verB; rw [d4]; exact rd_u (by omega) (show (1 : Int) < 256 by omega) rfl _
  · rw [dr, c8]; exact R.2.2
  · unfold wholeB; rw [dr, c8, R.2.1, bars_len, hr, hL]; rfl
  · unfold taskR
    rw [d9, rd_u hs.period.1 hs.period.2 rfl, d13, rd_u hs.deadline.1 hs.deadline.2 rfl, d17, c5, partsR_B _ _ hs.parts, de, c6, edgesR_B _ _ hs.edges, df, c7, futsR_B _ _ hs.futures, dr, c8, R.1]
end

/-- What is read is put as it stood there. -/
theorem u_cnt {b : List UInt8} {i : Nat} (h : i < b.length) : u 1 ((cnt b i : Nat) : Int) = (b.drop i).take 1 := by
  rw [cnt_eq, u_rd (by rw [List.length_drop]; omega)]
theorem body_R {b : List UInt8} (hl : 17 ≤ b.length) (hm : magicB b) (hv : verB b) (hf : fitsB b) (hw : wholeB b = b.length) : bodyB (taskR b) = b := by
  have B := barsB_R _ _ hf.2
  have e0' : e0 b ≤ b.length := by have := hf.1; unfold r0 f0 at this; omega
  have f0' : f0 b ≤ b.length := by have := hf.1; unfold r0 at this; omega
  have r0' := hf.1
  unfold bodyB headB taskR
  simp only
  rw [partsR_length, edgesR_length, futsR_length, barsR_length, u_cnt (by omega), u_cnt (by omega), u_cnt (by omega), u_cnt (by omega), u_rd (by rw [List.length_drop]; omega), u_rd (by rw [List.length_drop]; omega)]
  rw [partsB_R _ _ (by rw [List.length_drop]; unfold e0 at e0'; omega), edgesB_R _ _ (by rw [List.length_drop]; unfold f0 at f0'; omega), futsB_R _ _ (by rw [List.length_drop]; unfold r0 at r0'; omega), B.1]
  have h1 : u 1 1 = (b.drop 4).take 1 := by
    have : (1 : Int) = rd 1 (b.drop 4) := hv.symm
    rw [this, u_rd (by rw [List.length_drop]; omega)]
  rw [h1, ← (hm : b.take 4 = _)]
  have j : ∀ i k m : Nat, m = i + k → b.take i ++ (b.drop i).take k = b.take m := fun i k m e => by rw [take_take_drop, e]
  simp only [← List.append_assoc]
  rw [j 4 1 5 rfl, j 5 1 6 rfl, j 6 1 7 rfl, j 7 1 8 rfl, j 8 1 9 rfl, j 9 4 13 rfl, j 13 4 17 rfl, j 17 _ (e0 b) rfl, j (e0 b) _ (f0 b) rfl, j (f0 b) _ (r0 b) rfl, j (r0 b) _ (wholeB b) rfl, hw, List.take_length]

theorem partsR_small : ∀ (n : Nat) (r : List UInt8), ∀ p ∈ partsR n r, (0 ≤ p.1 ∧ p.1 < 256) ∧ (0 ≤ p.2.1 ∧ p.2.1 < 4294967296) ∧ (0 ≤ p.2.2 ∧ p.2.2 < 65536)
  | 0, _, p, h => by simp [partsR] at h
  | n + 1, r, p, h => by
    rw [partsR, List.mem_cons] at h
    rcases h with rfl | h
    · exact ⟨⟨rd_nonneg _ _, rd_lt rfl _⟩, ⟨rd_nonneg _ _, rd_lt rfl _⟩, rd_nonneg _ _, rd_lt rfl _⟩
    · exact partsR_small n _ p h
theorem edgesR_small : ∀ (n : Nat) (r : List UInt8), ∀ p ∈ edgesR n r, (0 ≤ p.1 ∧ p.1 < 256) ∧ (0 ≤ p.2 ∧ p.2 < 256)
  | 0, _, p, h => by simp [edgesR] at h
  | n + 1, r, p, h => by
    rw [edgesR, List.mem_cons] at h
    rcases h with rfl | h
    · exact ⟨⟨rd_nonneg _ _, rd_lt rfl _⟩, rd_nonneg _ _, rd_lt rfl _⟩
    · exact edgesR_small n _ p h
theorem futsR_small : ∀ (n : Nat) (r : List UInt8), ∀ p ∈ futsR n r, (0 ≤ p.1 ∧ p.1 < 256) ∧ (0 ≤ p.2.1 ∧ p.2.1 < 256) ∧ (0 ≤ p.2.2 ∧ p.2.2 < 65536)
  | 0, _, p, h => by simp [futsR] at h
  | n + 1, r, p, h => by
    rw [futsR, List.mem_cons] at h
    rcases h with rfl | h
    · exact ⟨⟨rd_nonneg _ _, rd_lt rfl _⟩, ⟨rd_nonneg _ _, rd_lt rfl _⟩, rd_nonneg _ _, rd_lt rfl _⟩
    · exact futsR_small n _ p h
theorem onesR_small : ∀ (n : Nat) (r : List UInt8), ∀ x ∈ onesR n r, 0 ≤ x ∧ x < 256
  | 0, _, p, h => by simp [onesR] at h
  | n + 1, r, p, h => by
    rw [onesR, List.mem_cons] at h
    rcases h with rfl | h
    · exact ⟨rd_nonneg _ _, rd_lt rfl _⟩
    · exact onesR_small n _ p h
theorem inR_lt (r : List UInt8) : inR r < 256 := by unfold inR; have := rd_lt (k := 1) (P := 256) rfl r; omega
theorem outR_lt (r : List UInt8) : outR r < 256 := by unfold outR; have := rd_lt (k := 1) (P := 256) rfl (r.drop 1); omega
theorem barsR_small : ∀ (n : Nat) (r : List UInt8), barsSmall (barsR n r)
  | 0, _, p, h => by simp [barsR] at h
  | n + 1, r, p, h => by
    rw [barsR, List.mem_cons] at h
    rcases h with rfl | h
    · refine ⟨?_, ?_, onesR_small _ _, onesR_small _ _⟩
      · unfold barR; simp only [onesR_length]; exact inR_lt r
      · unfold barR; simp only [onesR_length]; exact outR_lt r
    · exact barsR_small n _ p h
theorem small_R (b : List UInt8) : Small (taskR b) where
  period := ⟨rd_nonneg _ _, rd_lt rfl _⟩
  deadline := ⟨rd_nonneg _ _, rd_lt rfl _⟩
  np := by unfold taskR; simp only [partsR_length]; exact cnt_lt _ _
  ne := by unfold taskR; simp only [edgesR_length]; exact cnt_lt _ _
  nf := by unfold taskR; simp only [futsR_length]; exact cnt_lt _ _
  nr := by unfold taskR; simp only [barsR_length]; exact cnt_lt _ _
  parts := partsR_small _ _
  edges := edgesR_small _ _
  futures := futsR_small _ _
  bars := barsR_small _ _

/-- What is cut off doesn't fit. -/
theorem cnt_take {b : List UInt8} {i m : Nat} (h : i < m) : cnt (b.take m) i = cnt b i := by
  unfold cnt; rw [List.drop_take, rd_take (by omega)]
theorem cut_B {T : Task} (hs : Small T) {m : Nat} (h17 : 17 ≤ m) (hm : m < (bodyB T).length) : ¬ fitsB ((bodyB T).take m) := by
  intro h
  have R := read_B hs []
  rw [List.append_nil] at R
  have hr : r0 ((bodyB T).take m) = r0 (bodyB T) := by unfold r0 f0 e0; rw [cnt_take (by omega), cnt_take (by omega), cnt_take (by omega)]
  have h2 := h.2
  rw [hr, cnt_take (by omega), List.drop_take] at h2
  have k := barsF_take _ _ _ h2
  have hw := R.whole
  unfold wholeB at hw
  have h1 := h.1
  rw [hr, List.length_take] at h1
  omega

/-- A row that rises has so many at most. -/
theorem row_at {np : Nat} {l : List Int} (h : RowOk np l) : ∀ (i : Nat) (x : Int), l[i]? = some x → (i : Int) ≤ x
  | 0, x, e => by have := h.parts x (List.mem_of_getElem? e); omega
  | i + 1, x, e => by
    have hi : i < l.length := by have := (List.getElem?_eq_some_iff.mp e).1; omega
    have e' : l[i]? = some l[i] := List.getElem?_eq_getElem hi
    have h1 := row_at h i _ e'
    have h2 := h.rises i _ _ e' e
    omega
theorem row_len {np : Nat} {l : List Int} (h : RowOk np l) : l.length ≤ np := by
  by_cases h0 : l.length = 0
  · omega
  · have e : l[l.length - 1]? = some l[l.length - 1] := List.getElem?_eq_getElem (by omega)
    have h1 := row_at h _ _ e
    have h2 := (h.parts _ (List.mem_of_getElem? e)).2
    omega
/-- What may be is small. -/
theorem MayT.small {T : Task} (h : MayT T) : Small T := by
  have hm := h.few
  unfold ManyT at hm
  have ht : T.period ≤ 4096 ∧ 1 ≤ T.deadline ∧ T.deadline ≤ T.period := by
    have := h.time
    unfold timeE at this
    simp only [Bool.and_eq_true, decide_eq_true_eq] at this
    exact ⟨this.1.1.2, this.1.2, this.2⟩
  refine ⟨by omega, by omega, by omega, by omega, by omega, by omega, fun p hp => ?_, fun p hp => ?_, fun p hp => ?_, fun b hb => ?_⟩
  · have := h.parts p hp; unfold partOk at this; omega
  · have h1 := h.edges.1 p hp; omega
  · have F := h.futures.each p hp
    have hu := F.user
    have e : T.parts[p.2.1.toNat]? = some T.parts[p.2.1.toNat] := List.getElem?_eq_getElem (by omega)
    have h1 := F.last _ e
    have h2 := h.parts _ (List.mem_of_getElem? e)
    have h3 := F.maker
    have h4 := F.first
    unfold partOk at h2
    omega
  · have B := h.bars b hb
    have h1 := row_len B.ins
    have h2 := row_len B.outs
    exact ⟨by omega, by omega, fun x hx => by have := B.ins.parts x hx; omega, fun x hx => by have := B.outs.parts x hx; omega⟩
theorem sum_le (l : List (List Int × List Int)) (np : Nat) (h : BarsOk np l) : (l.map fun b => 2 + b.1.length + b.2.length).sum ≤ l.length * (2 + 2 * np) := by
  induction l with
  | nil => simp
  | cons b l ih =>
    have B := h b (by simp)
    have h1 := row_len B.ins
    have h2 := row_len B.outs
    have := ih (fun x hx => h x (by simp [hx]))
    rw [List.map_cons, List.sum_cons, List.length_cons, Nat.succ_mul]
    omega
/-- What may be has so few bytes. -/
theorem MayT.bytes {T : Task} (h : MayT T) : (bodyB T).length ≤ 600 := by
  have hm := h.few
  unfold ManyT at hm
  have hs := sum_le T.bars T.parts.length h.bars
  have : T.bars.length * (2 + 2 * T.parts.length) ≤ 4 * 34 := Nat.mul_le_mul (by omega) (by omega)
  rw [bodyB_length]; unfold barsN
  omega
end Go.Proofs.YtlimcimioeepaaaGreatDoor
set_option linter.unusedVariables false
namespace Go.Proofs.YtlimcimioeepaaaGreatDoor
open Go.Lib

/-- The next number of k bytes, from a place on, if nothing was missing yet. -/
def numS (b : List UInt8) (k : Nat) (s : Nat × Bool) : Int × (Nat × Bool) :=
  if s.2 = true then (0, s) else if s.1 + k ≤ b.length then (rd k (b.drop s.1), (s.1 + k, false)) else (0, (s.1, true))
def rowS {α : Type} (f : Nat × Bool → α × (Nat × Bool)) : Nat → Nat × Bool → List α × (Nat × Bool)
  | 0, s => ([], s)
  | n + 1, s => ((f s).1 :: (rowS f n (f s).2).1, (rowS f n (f s).2).2)
theorem rowS_snoc {α : Type} (f : Nat × Bool → α × (Nat × Bool)) : ∀ (n : Nat) (s : Nat × Bool), rowS f (n + 1) s = ((rowS f n s).1 ++ [(f (rowS f n s).2).1], (f (rowS f n s).2).2)
  | 0, s => rfl
  | n + 1, s => by
    rw [rowS, rowS_snoc f n (f s).2]
    rfl
theorem rowS_length {α : Type} (f : Nat × Bool → α × (Nat × Bool)) : ∀ (n : Nat) (s : Nat × Bool), (rowS f n s).1.length = n
  | 0, s => rfl
  | n + 1, s => by rw [rowS, List.length_cons, rowS_length f n]
def partS (b : List UInt8) (s : Nat × Bool) : (Int × Int × Int) × (Nat × Bool) :=
  (((numS b 1 s).1, (numS b 4 (numS b 1 s).2).1, (numS b 2 (numS b 4 (numS b 1 s).2).2).1), (numS b 2 (numS b 4 (numS b 1 s).2).2).2)
def edgeS (b : List UInt8) (s : Nat × Bool) : (Int × Int) × (Nat × Bool) := (((numS b 1 s).1, (numS b 1 (numS b 1 s).2).1), (numS b 1 (numS b 1 s).2).2)
def futS (b : List UInt8) (s : Nat × Bool) : (Int × Int × Int) × (Nat × Bool) :=
  (((numS b 1 s).1, (numS b 1 (numS b 1 s).2).1, (numS b 2 (numS b 1 (numS b 1 s).2).2).1), (numS b 2 (numS b 1 (numS b 1 s).2).2).2)
def barS (b : List UInt8) (s : Nat × Bool) : (List Int × List Int) × (Nat × Bool) :=
  let i := numS b 1 s
  let o := numS b 1 i.2
  let x := rowS (numS b 1) i.1.toNat o.2
  let y := rowS (numS b 1) o.1.toNat x.2
  ((x.1, y.1), y.2)
/-- The rows, once the counts are told. -/
def rowsS (b : List UInt8) (p q : Int) (n m f r : Nat) (s : Nat × Bool) : Task × (Nat × Bool) :=
  let P := rowS (partS b) n s
  let E := rowS (edgeS b) m P.2
  let F := rowS (futS b) f E.2
  let R := rowS (barS b) r F.2
  (⟨p, q, P.1, E.1, F.1, R.1⟩, R.2)
def taskS (b : List UInt8) (s : Nat × Bool) : Task × (Nat × Bool) :=
  let n := numS b 1 s
  let m := numS b 1 n.2
  let f := numS b 1 m.2
  let r := numS b 1 f.2
  let p := numS b 4 r.2
  let q := numS b 4 p.2
  rowsS b p.1 q.1 n.1.toNat m.1.toNat f.1.toNat r.1.toNat q.2

theorem numS_fine {b : List UInt8} {k p : Nat} (h : p + k ≤ b.length) : numS b k (p, false) = (rd k (b.drop p), (p + k, false)) := by
  unfold numS; rw [if_neg (by simp), if_pos h]
theorem numS_cut {b : List UInt8} {k p : Nat} (h : ¬ p + k ≤ b.length) : numS b k (p, false) = (0, (p, true)) := by
  unfold numS; rw [if_neg (by simp), if_neg h]
theorem numS_bad (b : List UInt8) (k p : Nat) : numS b k (p, true) = (0, (p, true)) := by
  unfold numS; rw [if_pos rfl]
theorem numS_small {b : List UInt8} {k : Nat} {P : Int} (hP : ((256 ^ k : Nat) : Int) = P) (s : Nat × Bool) : 0 ≤ (numS b k s).1 ∧ (numS b k s).1 < P := by
  have hp : 0 < P := by have := Nat.pow_pos (n := k) (show 0 < 256 by omega); omega
  unfold numS
  split
  · exact ⟨Int.le_refl _, hp⟩
  · split
    · exact ⟨rd_nonneg _ _, rd_lt hP _⟩
    · exact ⟨Int.le_refl _, hp⟩

theorem ones_add (a c : Nat) : List.replicate (a + c) 1 = List.replicate a 1 ++ List.replicate c (1 : Nat) := List.replicate_append_replicate.symm
theorem ones_sum (a : Nat) : (List.replicate a 1).sum = a := by
  induction a with
  | zero => rfl
  | succ a ih => rw [List.replicate_succ, List.sum_cons, ih]; omega
/-- The way over widths. -/
def wayS (b : List UInt8) : List Nat → Nat × Bool → Nat × Bool
  | [], s => s
  | k :: ws, s => wayS b ws (numS b k s).2
def valsW (b : List UInt8) : List Nat → Nat × Bool → List Int
  | [], _ => []
  | k :: ws, s => (numS b k s).1 :: valsW b ws (numS b k s).2
theorem wayS_append (b : List UInt8) : ∀ (l r : List Nat) (s : Nat × Bool), wayS b (l ++ r) s = wayS b r (wayS b l s)
  | [], r, s => rfl
  | k :: l, r, s => wayS_append b l r _
theorem valsW_append (b : List UInt8) : ∀ (l r : List Nat) (s : Nat × Bool), valsW b (l ++ r) s = valsW b l s ++ valsW b r (wayS b l s)
  | [], r, s => rfl
  | k :: l, r, s => by rw [List.cons_append, valsW, valsW, wayS, valsW_append b l r, List.cons_append]
theorem wayS_bad (b : List UInt8) (p : Nat) : ∀ ws, wayS b ws (p, true) = (p, true)
  | [] => rfl
  | k :: ws => by rw [wayS, numS_bad]; exact wayS_bad b p ws
/-- Where the way ends: behind all of them, or at the first that isn't there. -/
theorem wayS_ends (b : List UInt8) : ∀ (ws : List Nat) (p : Nat), p ≤ b.length → (wayS b ws (p, false) = (p + ws.sum, false) ∧ p + ws.sum ≤ b.length) ∨ ∃ q, wayS b ws (p, false) = (q, true) ∧ p ≤ q ∧ q ≤ b.length ∧ b.length < p + ws.sum
  | [], p, h => .inl ⟨rfl, h⟩
  | k :: ws, p, h => by
    rw [wayS, List.sum_cons]
    by_cases hk : p + k ≤ b.length
    · rw [numS_fine hk]
      rcases wayS_ends b ws (p + k) hk with ⟨h1, h2⟩ | ⟨q, h1, h2, h3, h4⟩
      · exact .inl ⟨by rw [h1, Nat.add_assoc], by omega⟩
      · exact .inr ⟨q, h1, by omega, h3, by omega⟩
    · rw [numS_cut hk]
      exact .inr ⟨p, wayS_bad b p ws, Nat.le_refl _, h, by omega⟩

theorem partS_way (b : List UInt8) (s : Nat × Bool) : (partS b s).2 = wayS b [1, 4, 2] s := rfl
theorem edgeS_way (b : List UInt8) (s : Nat × Bool) : (edgeS b s).2 = wayS b [1, 1] s := rfl
theorem futS_way (b : List UInt8) (s : Nat × Bool) : (futS b s).2 = wayS b [1, 1, 2] s := rfl
theorem rowS_way {α : Type} {b : List UInt8} {f : Nat × Bool → α × (Nat × Bool)} {ws : List Nat} (h : ∀ s, (f s).2 = wayS b ws s) : ∀ (n : Nat) (s : Nat × Bool), (rowS f n s).2 = wayS b (List.replicate n ws).flatten s
  | 0, s => rfl
  | n + 1, s => by rw [rowS, List.replicate_succ, List.flatten_cons, wayS_append, ← h s]; exact rowS_way h n _
theorem ones_flat (n : Nat) : (List.replicate n [1]).flatten = List.replicate n 1 := by
  induction n with
  | zero => rfl
  | succ n ih => rw [List.replicate_succ, List.flatten_cons, ih, List.replicate_succ]; rfl
theorem onesS_way (b : List UInt8) (n : Nat) (s : Nat × Bool) : (rowS (numS b 1) n s).2 = wayS b (List.replicate n 1) s := by
  rw [rowS_way (b := b) (ws := [1]) (fun s => rfl) n s, ones_flat]
/-- The widths of a barrier that stands here. -/
def barWs (b : List UInt8) (s : Nat × Bool) : List Nat := 1 :: 1 :: List.replicate ((numS b 1 s).1.toNat + (numS b 1 (numS b 1 s).2).1.toNat) 1
theorem barS_way (b : List UInt8) (s : Nat × Bool) : (barS b s).2 = wayS b (barWs b s) s := by
  show (rowS (numS b 1) _ (rowS (numS b 1) _ _).2).2 = _
  rw [onesS_way, onesS_way, barWs, wayS, wayS, ones_add, wayS_append]
/-- All widths ahead of the barriers. -/
def W0 (n m f : Nat) : List Nat := (List.replicate n [1, 4, 2]).flatten ++ ((List.replicate m [1, 1]).flatten ++ (List.replicate f [1, 1, 2]).flatten)
theorem rowsS_way (b : List UInt8) (p q : Int) (n m f r : Nat) (s : Nat × Bool) : (rowsS b p q n m f r s).2 = (rowS (barS b) r (wayS b (W0 n m f) s)).2 := by
  show (rowS (barS b) r (rowS (futS b) f (rowS (edgeS b) m (rowS (partS b) n s).2).2).2).2 = _
  rw [rowS_way (partS_way b), rowS_way (edgeS_way b), rowS_way (futS_way b), W0, wayS_append, wayS_append]
theorem barS_bad (b : List UInt8) (p : Nat) : (barS b (p, true)).2 = (p, true) := by rw [barS_way, wayS_bad]
theorem barsS_bad (b : List UInt8) (p : Nat) : ∀ n, (rowS (barS b) n (p, true)).2 = (p, true)
  | 0 => rfl
  | n + 1 => by rw [rowS, barS_bad]; exact barsS_bad b p n

theorem taskS_eq {b : List UInt8} (h : 17 ≤ b.length) : taskS b (5, false) = rowsS b (rd 4 (b.drop 9)) (rd 4 (b.drop 13)) (cnt b 5) (cnt b 6) (cnt b 7) (cnt b 8) (17, false) := by
  unfold taskS
  simp only
  rw [numS_fine (b := b) (k := 1) (p := 5) (by omega)]
  simp only
  rw [numS_fine (b := b) (k := 1) (p := 6) (by omega)]
  simp only
  rw [numS_fine (b := b) (k := 1) (p := 7) (by omega)]
  simp only
  rw [numS_fine (b := b) (k := 1) (p := 8) (by omega)]
  simp only
  rw [numS_fine (b := b) (k := 4) (p := 9) (by omega)]
  simp only
  rw [numS_fine (b := b) (k := 4) (p := 13) (by omega)]
  rfl

/- What is there is read as it stands. -/
theorem partS_fine {b : List UInt8} {p : Nat} (h : p + 7 ≤ b.length) : partS b (p, false) = (partR (b.drop p), (p + 7, false)) := by
  unfold partS partR
  rw [numS_fine (k := 1) (p := p) (by omega)]
  simp only
  rw [numS_fine (k := 4) (p := p + 1) (by omega)]
  simp only
  rw [numS_fine (k := 2) (p := p + 1 + 4) (by omega), List.drop_drop, List.drop_drop]
theorem edgeS_fine {b : List UInt8} {p : Nat} (h : p + 2 ≤ b.length) : edgeS b (p, false) = (edgeR (b.drop p), (p + 2, false)) := by
  unfold edgeS edgeR
  rw [numS_fine (k := 1) (p := p) (by omega)]
  simp only
  rw [numS_fine (k := 1) (p := p + 1) (by omega), List.drop_drop]
theorem futS_fine {b : List UInt8} {p : Nat} (h : p + 4 ≤ b.length) : futS b (p, false) = (futR (b.drop p), (p + 4, false)) := by
  unfold futS futR
  rw [numS_fine (k := 1) (p := p) (by omega)]
  simp only
  rw [numS_fine (k := 1) (p := p + 1) (by omega)]
  simp only
  rw [numS_fine (k := 2) (p := p + 1 + 1) (by omega), List.drop_drop, List.drop_drop]
theorem partsS_fine {b : List UInt8} : ∀ (n p : Nat), p + 7 * n ≤ b.length → rowS (partS b) n (p, false) = (partsR n (b.drop p), (p + 7 * n, false))
  | 0, p, h => rfl
  | n + 1, p, h => by rw [rowS, partS_fine (by omega), partsS_fine n (p + 7) (by omega), partsR, List.drop_drop]; simp only; congr 2; omega
theorem edgesS_fine {b : List UInt8} : ∀ (n p : Nat), p + 2 * n ≤ b.length → rowS (edgeS b) n (p, false) = (edgesR n (b.drop p), (p + 2 * n, false))
  | 0, p, h => rfl
  | n + 1, p, h => by rw [rowS, edgeS_fine (by omega), edgesS_fine n (p + 2) (by omega), edgesR, List.drop_drop]; simp only; congr 2; omega
theorem futsS_fine {b : List UInt8} : ∀ (n p : Nat), p + 4 * n ≤ b.length → rowS (futS b) n (p, false) = (futsR n (b.drop p), (p + 4 * n, false))
  | 0, p, h => rfl
  | n + 1, p, h => by rw [rowS, futS_fine (by omega), futsS_fine n (p + 4) (by omega), futsR, List.drop_drop]; simp only; congr 2; omega
theorem onesS_fine {b : List UInt8} : ∀ (n p : Nat), p + n ≤ b.length → rowS (numS b 1) n (p, false) = (onesR n (b.drop p), (p + n, false))
  | 0, p, h => rfl
  | n + 1, p, h => by rw [rowS, numS_fine (by omega), onesS_fine n (p + 1) (by omega), onesR, List.drop_drop]; simp only; congr 2; omega
theorem barS_fine {b : List UInt8} {p : Nat} (h2 : 2 ≤ (b.drop p).length) (h : barW (b.drop p) ≤ (b.drop p).length) : barS b (p, false) = (barR (b.drop p), (p + barW (b.drop p), false)) := by
  rw [List.length_drop] at h2 h
  unfold barW at h
  unfold barS barR barW
  simp only
  rw [numS_fine (k := 1) (p := p) (by omega)]
  simp only
  rw [numS_fine (k := 1) (p := p + 1) (by omega)]
  simp only
  have e1 : (rd 1 (b.drop p)).toNat = inR (b.drop p) := rfl
  have e2 : (rd 1 (b.drop (p + 1))).toNat = outR (b.drop p) := by unfold outR; rw [List.drop_drop]
  rw [e1, e2, onesS_fine _ (p + 1 + 1) (by omega)]
  simp only
  rw [onesS_fine _ (p + 1 + 1 + inR (b.drop p)) (by omega), List.drop_drop, List.drop_drop]
  simp only [Nat.add_assoc, Nat.reduceAdd]
theorem barsS_fine {b : List UInt8} : ∀ (n p : Nat), barsF n (b.drop p) → rowS (barS b) n (p, false) = (barsR n (b.drop p), (p + barsW n (b.drop p), false))
  | 0, p, h => rfl
  | n + 1, p, h => by
    obtain ⟨h1, h2, h3⟩ := h
    rw [List.drop_drop] at h3
    rw [rowS, barS_fine h1 h2]
    simp only
    rw [barsS_fine n _ h3, barsR, barsW, List.drop_drop]
    simp only [Nat.add_assoc]
/-- The bytes hold what they tell: it is read, up to where it ends. -/
theorem taskS_fine {b : List UInt8} (h : 17 ≤ b.length) (hf : fitsB b) : taskS b (5, false) = (taskR b, (wholeB b, false)) := by
  obtain ⟨h1, h2⟩ := hf
  have k1 := h1
  unfold r0 f0 e0 at k1
  rw [taskS_eq h]
  unfold rowsS
  simp only
  rw [partsS_fine _ _ (by omega)]
  simp only
  rw [edgesS_fine _ _ (by omega)]
  simp only
  rw [futsS_fine _ _ (by omega)]
  simp only
  have e : 17 + 7 * cnt b 5 + 2 * cnt b 6 + 4 * cnt b 7 = r0 b := rfl
  rw [e, barsS_fine _ _ h2]
  rfl
theorem barsS_cut {b : List UInt8} : ∀ (n p : Nat), p ≤ b.length → ¬ barsF n (b.drop p) → ∃ q, (rowS (barS b) n (p, false)).2 = (q, true) ∧ p ≤ q ∧ q ≤ b.length
  | 0, p, _, h => absurd trivial h
  | n + 1, p, hp, h => by
    rw [rowS]
    simp only
    rcases wayS_ends b (barWs b (p, false)) p hp with ⟨h1, h2⟩ | ⟨q, h1, h2, h3, _⟩
    · rw [← barS_way] at h1
      have hl2 : p + 2 ≤ b.length := by
        unfold barWs at h2
        rw [List.sum_cons, List.sum_cons] at h2
        omega
      have e : (barWs b (p, false)).sum = barW (b.drop p) := by
        unfold barWs barW inR outR
        rw [numS_fine (k := 1) (p := p) (by omega)]
        simp only
        rw [numS_fine (k := 1) (p := p + 1) (by omega), List.drop_drop]
        simp only [List.sum_cons, ones_sum]
        omega
      rw [e] at h1 h2
      have hn : ¬ barsF n (b.drop (p + barW (b.drop p))) := by
        intro k
        refine h ⟨by rw [List.length_drop]; omega, by rw [List.length_drop]; omega, ?_⟩
        rw [List.drop_drop]
        exact k
      obtain ⟨q, k1, k2, k3⟩ := barsS_cut n _ (by omega) hn
      rw [h1]
      exact ⟨q, k1, by omega, k3⟩
    · rw [← barS_way] at h1
      rw [h1]
      exact ⟨q, barsS_bad b q n, h2, h3⟩
theorem W0_sum (n m f : Nat) : (W0 n m f).sum = 7 * n + 2 * m + 4 * f := by
  have h : ∀ (k : Nat) (l : List Nat), (List.replicate k l).flatten.sum = k * l.sum := by
    intro k l
    induction k with
    | zero => simp
    | succ k ih => rw [List.replicate_succ, List.flatten_cons, List.sum_append, ih, Nat.succ_mul]; omega
  unfold W0
  rw [List.sum_append, List.sum_append, h, h, h]
  simp only [List.sum_cons, List.sum_nil]
  omega
/-- They don't hold it: the first number that isn't there is told. -/
theorem taskS_cut {b : List UInt8} (h : 17 ≤ b.length) (hf : ¬ fitsB b) : ∃ q, (taskS b (5, false)).2 = (q, true) ∧ 17 ≤ q ∧ q ≤ b.length := by
  rw [taskS_eq h, rowsS_way]
  rcases wayS_ends b (W0 (cnt b 5) (cnt b 6) (cnt b 7)) 17 h with ⟨h1, h2⟩ | ⟨q, h1, h2, h3, _⟩
  · have e : 17 + (W0 (cnt b 5) (cnt b 6) (cnt b 7)).sum = r0 b := by rw [W0_sum]; unfold r0 f0 e0; omega
    rw [e] at h1 h2
    rw [h1]
    obtain ⟨q, k1, k2, k3⟩ := barsS_cut (cnt b 8) (r0 b) h2 (fun k => hf ⟨h2, k⟩)
    exact ⟨q, k1, by unfold r0 f0 e0 at k2; omega, k3⟩
  · rw [h1]
    exact ⟨q, barsS_bad b q _, h2, h3⟩
/-- The first number that isn't there. -/
def cutS (b : List UInt8) : Nat := (taskS b (5, false)).2.1
end Go.Proofs.YtlimcimioeepaaaGreatDoor
