/- crc.step, crc.More and crc.Sum in the seat YtjngnejmgfncnaaDoor: their contracts, over a world that holds the program's table. No statement is proved here. -/
import Derived.Test.YtjngnejmgfncnaaDoorChecked
import Derived.WalkKit
import Derived.Handy
import Derived.KernelRfl
import Derived.Below
import Derived.Laws.BitsAllLaws
import Derived.Test.YtjngnejmgfncnaaDoorCrcMath
set_option linter.unusedVariables false
namespace Go.Proofs.YtjngnejmgfncnaaDoor
open Go.RowKit

/-- Four steps, and the program's table of sixteen of them. -/
def st4 (n : Nat) : Nat := st (st (st (st n)))
def tabL : List Int := [0, 498536548, 997073096, 651767980, 1994146192, 1802195444, 1303535960, 1342533948, 3988292384, 4027552580, 3604390888, 3412177804, 2607071920, 2262029012, 2685067896, 3183342108]
theorem tab_st4 : ∀ r, r < 16 → tabL.getD r 0 = (st4 r : Int) := by decide
theorem st8_st4 (n : Nat) : st8 n = st4 (st4 n) := rfl
theorem st4_lt {n : Nat} (h : n < 4294967296) : st4 n < 4294967296 := st_lt (st_lt (st_lt (st_lt h)))
theorem st4_xor (a b : Nat) : st4 (a ^^^ b) = st4 a ^^^ st4 b := by
  unfold st4
  simp only [st_xor]
theorem st4_16 (n : Nat) : st4 (16 * n) = n := by
  rw [show 16 * n = 2 * (2 * (2 * (2 * n))) by omega]
  unfold st4
  simp only [st_even]
theorem split_16 (n : Nat) : n = n % 16 ^^^ 16 * (n / 16) := by
  apply Nat.eq_of_testBit_eq
  intro i
  rw [Nat.testBit_xor, show (16 : Nat) = 2 ^ 4 from rfl, Nat.testBit_mod_two_pow, Nat.testBit_two_pow_mul, Nat.testBit_div_two_pow]
  by_cases h : i < 4
  · simp [h, show ¬ 4 ≤ i by omega]
  · simp [h, show 4 ≤ i by omega]
theorem st4_table (n : Nat) : n / 16 ^^^ st4 (n % 16) = st4 n := by
  conv => rhs; rw [split_16 n]
  rw [st4_xor, st4_16, Nat.xor_comm]

/-- The program's table holds its numbers. -/
def Tab (w : World) : Prop := ∀ j, j < 16 → w.cell? ⟨0, j, none⟩ = some (.int .u32 (tabL.getD j 0))
theorem Tab.below {w w' : World} {B : Nat} (h : Tab w) (hb : Below B w w') (hB : 0 < B) : Tab w' := fun j hj => (hb.cell (p := ⟨0, j, none⟩) hB).trans (h j hj)
theorem cell_lt {w : World} {b off : Nat} {v : Value} (h : w.cell? ⟨b, off, none⟩ = some v) : b < w.heap.size := by
  rcases Nat.lt_or_ge b w.heap.size with hlt | hge
  · exact hlt
  · unfold World.cell? at h
    simp [Array.getElem?_eq_none hge] at h
theorem Tab.lt {w : World} (h : Tab w) : 0 < w.heap.size := cell_lt (h 0 (by decide))
theorem Tab.step {w : World} (h : Tab w) (n : Nat) : w.cell? ⟨0, n % 16, none⟩ = some (.int .u32 (st4 (n % 16) : Nat)) := by
  rw [h _ (Nat.mod_lt _ (by omega)), tab_st4 _ (Nat.mod_lt _ (by omega))]

theorem step_any (n : Nat) (w : World) (hn : n < 4294967296) (hT : Tab w) :
    Calls Tryd.prog 19 #[.int .u32 n] w fun e w' => e = .returned (.int .u32 (st4 n : Nat)) ∧ w = w' := by
  have hc := hT.step n
  have hr : n % 16 < 16 := Nat.mod_lt _ (by omega)
  have ha : bits .and .u32 (n : Int) 15 = ((n % 16 : Nat) : Int) := by
    rw [show (15 : Int) = ((15 : Nat) : Int) from rfl, u32_and_nat n 15 hn (by omega), nat_mask4]
  have hx : bits .xor .u32 ((n : Int) / 16) ((st4 (n % 16) : Nat) : Int) = ((st4 n : Nat) : Int) := by
    have h := u32_xor_nat (n / 16) (st4 (n % 16)) (by omega) (st4_lt (by omega))
    rw [st4_table] at h
    rw [← h]
    rfl
  clear hT
  go_enter Tryd.func19, Tryd.ntmps19
  go_wp2
  go_ret
  exact ⟨rfl, rfl⟩
end Go.Proofs.YtjngnejmgfncnaaDoor
