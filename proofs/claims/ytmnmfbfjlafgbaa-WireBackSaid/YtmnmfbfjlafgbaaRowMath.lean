/- The plain arithmetic of rows of numbers in the layer wire, in the seat Ytmnmfbfjlafgbaa. No statement is proved here. -/
import Derived.Test.YtmnmfbfjlafgbaaMath
import Derived.Lib.Builder
import Derived.Lib.UnsafeStr
namespace Go.Proofs.Ytmnmfbfjlafgbaa

/-- The first error of some numbers, and all their bytes. -/
def rowE : List Int → Int → Int
  | [], k => if wide k = true then 0 else 22
  | z :: l, k => if putE z k = 0 then rowE l k else putE z k
def rowB (l : List Int) (k : Int) : List UInt8 := l.flatMap fun z => putL z k
def rowL (l : List Int) (k : Int) : List UInt8 := if rowE l k = 0 then rowB l k else []
theorem rowE_wide {k : Int} (h : wide k = false) : ∀ l, rowE l k = 22
  | [] => by simp [rowE, h]
  | z :: l => by
    rw [rowE, if_neg (by rw [putE_wide h]; omega), putE_wide h]
theorem rowL_wide {l : List Int} {k : Int} (h : wide k = false) : rowL l k = [] := by unfold rowL; rw [rowE_wide h, if_neg (by omega)]
theorem rowE_append {k : Int} (hw : wide k = true) : ∀ l r : List Int, rowE (l ++ r) k = if rowE l k = 0 then rowE r k else rowE l k
  | [], r => by simp [rowE, hw]
  | z :: l, r => by
    by_cases h : putE z k = 0
    · have e1 : rowE (z :: l) k = rowE l k := if_pos h
      have e2 : rowE (z :: l ++ r) k = rowE (l ++ r) k := if_pos h
      rw [e1, e2, rowE_append hw l r]
    · have e1 : rowE (z :: l) k = putE z k := if_neg h
      have e2 : rowE (z :: l ++ r) k = putE z k := if_neg h
      rw [e1, e2, if_neg h]
theorem take_snoc' {α : Type} {zs : List α} {j : Nat} {z : α} (h : zs[j]? = some z) : zs.take (j + 1) = zs.take j ++ [z] := by
  rw [List.take_add_one, h]; rfl
theorem rowE_one {k : Int} (z : Int) (hw : wide k = true) : rowE [z] k = putE z k := by
  show (if putE z k = 0 then rowE [] k else putE z k) = _
  by_cases h : putE z k = 0
  · rw [if_pos h, h]; simp [rowE, hw]
  · rw [if_neg h]
theorem rowE_step {zs : List Int} {j : Nat} {z k : Int} (hw : wide k = true) (h : zs[j]? = some z) (h0 : rowE (zs.take j) k = 0) : rowE (zs.take (j + 1)) k = putE z k := by
  rw [take_snoc' h, rowE_append hw, if_pos h0, rowE_one z hw]
theorem rowE_early {zs : List Int} {j : Nat} {z k : Int} (hw : wide k = true) (h : zs[j]? = some z) (h0 : rowE (zs.take j) k = 0) (hc : putE z k ≠ 0) : rowE zs k = putE z k := by
  have h1 := rowE_step hw h h0
  have h2 := rowE_append hw (zs.take (j + 1)) (zs.drop (j + 1))
  rw [List.take_append_drop, h1, if_neg hc] at h2
  exact h2
theorem rowE_prefix {zs : List Int} {k : Int} (hw : wide k = true) (j : Nat) (h : rowE zs k = 0) : rowE (zs.take j) k = 0 := by
  have h2 := rowE_append hw (zs.take j) (zs.drop j)
  rw [List.take_append_drop, h] at h2
  by_cases h0 : rowE (zs.take j) k = 0
  · exact h0
  · rw [if_neg h0] at h2; omega
theorem rowE_zero_wide {zs : List Int} {k : Int} (h : rowE zs k = 0) : wide k = true := by
  cases hw : wide k with
  | true => rfl
  | false => rw [rowE_wide hw] at h; omega
theorem rowE_mem {zs : List Int} {k : Int} (h : rowE zs k = 0) {j : Nat} {z : Int} (hz : zs[j]? = some z) : putE z k = 0 := by
  have hw := rowE_zero_wide h
  have h1 := rowE_step hw hz (rowE_prefix hw j h)
  rw [rowE_prefix hw (j + 1) h] at h1
  exact h1.symm
theorem rowB_step {zs : List Int} {j : Nat} {z k : Int} (h : zs[j]? = some z) : rowB (zs.take (j + 1)) k = rowB (zs.take j) k ++ putL z k := by
  unfold rowB
  rw [take_snoc' h, List.flatMap_append]
  simp
theorem putL_length {z k : Int} (h : putE z k = 0) : (putL z k).length = k.toNat := by
  obtain ⟨hw, hf⟩ := putE_zero h
  rw [putL_fine hw hf, Lib.leBytes_length]
theorem rowB_length {k : Int} : ∀ zs : List Int, rowE zs k = 0 → (rowB zs k).length = zs.length * k.toNat
  | [], _ => by simp [rowB]
  | z :: l, h => by
    have hz : putE z k = 0 := rowE_mem h (j := 0) rfl
    have hl : rowE l k = 0 := by rw [rowE, if_pos hz] at h; exact h
    have e : rowB (z :: l) k = putL z k ++ rowB l k := rfl
    rw [e, List.length_append, putL_length hz, rowB_length l hl, List.length_cons, Nat.succ_mul]
    omega
theorem rowL_fine {l : List Int} {k : Int} (h : rowE l k = 0) : rowL l k = rowB l k := if_pos h
theorem rowL_bad {l : List Int} {k : Int} (h : rowE l k ≠ 0) : rowL l k = [] := if_neg h
/-- The bytes of the j-th number stand at the j-th place. -/
theorem rowB_at {k : Int} : ∀ (zs : List Int) (j : Nat) (z : Int), rowE zs k = 0 → zs[j]? = some z → ((rowB zs k).drop (j * k.toNat)).take k.toNat = putL z k
  | [], j, z, _, h => by simp at h
  | x :: l, 0, z, h, hz => by
    obtain rfl : x = z := by simpa using hz
    have hx : putE x k = 0 := rowE_mem h (j := 0) rfl
    have e : rowB (x :: l) k = putL x k ++ rowB l k := rfl
    rw [Nat.zero_mul, List.drop_zero, e, List.take_append_of_le_length (by rw [putL_length hx]; exact Nat.le_refl _), List.take_of_length_le (by rw [putL_length hx]; exact Nat.le_refl _)]
  | x :: l, j + 1, z, h, hz => by
    have hx : putE x k = 0 := rowE_mem h (j := 0) rfl
    have hl : rowE l k = 0 := by rw [rowE, if_pos hx] at h; exact h
    have e : rowB (x :: l) k = putL x k ++ rowB l k := rfl
    have ih := rowB_at l j z hl (by simpa using hz)
    rw [e, Nat.succ_mul, Nat.add_comm, ← List.drop_drop, ← putL_length hx, List.drop_left, putL_length hx]
    exact ih
theorem cell_bytes (n : Nat) : (bz n).map (Value.int .u8) = Lib.byteCells (Lib.leBytes 8 n) := by
  rw [← bz_bytes]
  unfold Lib.byteCells
  rw [List.map_map]
  apply List.map_congr_left
  intro z hz
  have hb : 0 ≤ z ∧ z ≤ 255 := by
    simp only [bz, List.mem_cons, List.not_mem_nil, or_false] at hz
    omega
  show Value.int .u8 z = Value.int .u8 (((UInt8.ofNat z.toNat).toNat : Nat) : Int)
  rw [UInt8.toNat_ofNat', Nat.mod_eq_of_lt (by omega)]
  congr 1
  omega
end Go.Proofs.Ytmnmfbfjlafgbaa
