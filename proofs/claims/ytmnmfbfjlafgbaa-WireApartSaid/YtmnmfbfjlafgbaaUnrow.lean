/- The contracts of wire.Unrow in the seat Ytmnmfbfjlafgbaa: where there aren't so many bytes, and where all numbers may be. No statement is proved here. -/
import Derived.Test.YtmnmfbfjlafgbaaGet
import Derived.Test.YtmnmfbfjlafgbaaMem
import Derived.Laws.MakeOwn
import Derived.Laws.Rows
set_option linter.unusedVariables false
namespace Go.Proofs.Ytmnmfbfjlafgbaa
open Go.RowKit

theorem reach_many {len a cnt m : Nat} (hm : 1 ≤ m) (h : a + cnt * m ≤ len) : reachB len a cnt m = true := by
  unfold reachB
  rw [decide_eq_true_iff]
  refine ⟨by omega, by omega, by omega, ?_⟩
  refine (Int.le_ediv_iff_mul_le (c := (m : Int)) (by omega)).mpr ?_
  have : ((cnt * m : Nat) : Int) = (cnt : Int) * (m : Int) := Int.natCast_mul _ _
  omega
theorem reach_few {len a cnt m : Nat} (hm : 1 ≤ m) (h : len < a + cnt * m) : reachB len a cnt m = false := by
  unfold reachB
  rw [decide_eq_false_iff_not]
  rintro ⟨h1, h2, h3, h4⟩
  have h5 := (Int.le_ediv_iff_mul_le (c := (m : Int)) (by omega)).mp h4
  have : ((cnt * m : Nat) : Int) = (cnt : Int) * (m : Int) := Int.natCast_mul _ _
  omega
theorem unrow_short (s : ByteArray) (a cnt m : Nat) (w : World) (hw : wide m = true) (hs : s.size ≤ 9223372036854775807) (ha : a ≤ s.size) (h : s.size < a + cnt * m) :
    Calls Try.prog 15 #[.string s, .int .i64 a, .int .i64 cnt, .int .i64 m] w fun e w' => e = .returned (.tuple #[.slice none 0 0, .int .i64 0, .int .i64 21]) ∧ w = w' := by
  have C := Lib.hid (fun W => isWidth_yes hw W)
  obtain ⟨P, hP⟩ := pow_of hw
  have hm : m = 1 ∨ m = 2 ∨ m = 4 ∨ m = 8 := by rcases hP with ⟨h, _⟩ | ⟨h, _⟩ | ⟨h, _⟩ | ⟨h, _⟩ <;> omega
  have R := Lib.hid (fun W : World => (reach_few (by omega) h) ▸ reaches_any s a cnt m W hs (by omega) (by omega) (by omega))
  clear hP hm hw
  go_enter Try.func15, Try.ntmps15
  go_wp2_with fail
  refine (C.out _).mono ?_
  rintro e w' ⟨rfl, rfl⟩
  go_wp2_with fail
  refine (R.out _).mono ?_
  rintro e w' ⟨rfl, rfl⟩
  go_wp2
  go_ret3
  exact ⟨rfl, rfl⟩

theorem int_cell_info : (Try.prog.info? 3).map (fun i => (i.zero, i.size, i.bytes)) = some (some (.int .i64 0), 1, 8) := by kernel_rfl
theorem make_ints (n : Nat) (hn : n ≤ 1000) : ∃ Z : Array Value, Z.size = n ∧ ∀ W : World, (Instr.makeSlice 31 (.int .i64 n) (.int .i64 n)).run Try.prog W = .ok (.slice (some ⟨W.heap.size, 0, none⟩) n n) (W.alloc (.cells Z 3)) := by
  obtain ⟨i0, hi, hz0, hz1, hz2⟩ := info_parts int_cell_info
  refine ⟨madeCells (Value.int .i64 0).cells (n * 1), by simp [size_madeCells], fun W => ?_⟩
  have h := run_make (P := Try.prog) W 31 3 i0 (.int .i64 0) Try.underlying31 hi hz0 .i64 .i64 n n (by omega) (by omega) (by rw [hz2]; omega) (by omega)
  rw [hz1] at h
  exact h

/-- What Unrow gives: the numbers, one behind the other. -/
def unL (l : List UInt8) (a m : Nat) (cnt : Nat) : List Int := (List.range cnt).map fun j => ((getN l ((a + j * m : Nat) : Int) m : Nat) : Int)
theorem unL_length (l : List UInt8) (a m cnt : Nat) : (unL l a m cnt).length = cnt := by simp [unL]
theorem unL_get (l : List UInt8) (a m cnt j : Nat) (h : j < cnt) : (unL l a m cnt).getD j 0 = ((getN l ((a + j * m : Nat) : Int) m : Nat) : Int) := by
  rw [List.getD_eq_getElem?_getD, unL, List.getElem?_map, List.getElem?_range h]; rfl

def GotRow (l : List UInt8) (a m cnt : Nat) (w : World) (e : Ending) (w' : World) : Prop :=
  ∃ g : Nat, e = .returned (.tuple #[.slice (some ⟨g, 0, none⟩) cnt cnt, .int .i64 ((a + cnt * m : Nat) : Int), .int .i64 0]) ∧ Ints w' w'.heap.size (some ⟨g, 0, none⟩) (unL l a m cnt) ∧ Below w.heap.size w w'
set_option maxRecDepth 100000 in
set_option maxHeartbeats 1000000 in
theorem unrow_fine (s : ByteArray) (a cnt m : Nat) (w : World) (hw : wide m = true) (hs : s.size ≤ 9223372036854775807) (hc : cnt ≤ 1000) (h : a + cnt * m ≤ s.size)
    (hN : ∀ j, j < cnt → getN s.data.toList ((a + j * m : Nat) : Int) m ≤ 9223372036854775807) :
    Calls Try.prog 15 #[.string s, .int .i64 a, .int .i64 cnt, .int .i64 m] w (GotRow s.data.toList a m cnt w) := by
  have C := Lib.hid (fun W => isWidth_yes hw W)
  obtain ⟨P, hP⟩ := pow_of hw
  have hm : m = 1 ∨ m = 2 ∨ m = 4 ∨ m = 8 := by rcases hP with ⟨h, _⟩ | ⟨h, _⟩ | ⟨h, _⟩ | ⟨h, _⟩ <;> omega
  have h8 : m ≤ 8 := by omega
  have R := Lib.hid (fun W : World => (reach_many (by omega) h) ▸ reaches_any s a cnt m W hs (by omega) (by omega) (by omega))
  obtain ⟨Z, hZ, hmk⟩ := make_ints cnt hc
  have HZ := Lib.hid hZ
  have HM := Lib.hid hm
  have HN := Lib.hid hN
  have HH := Lib.hid h
  have h0 : a ≤ s.size := by omega
  clear hP hm hw hZ hN h
  go_enter Try.func15, Try.ntmps15
  go_wp2_with fail
  refine (C.out _).mono ?_
  rintro e w' ⟨rfl, rfl⟩
  go_wp2_with fail
  refine (R.out _).mono ?_
  rintro e w' ⟨rfl, rfl⟩
  go_wp2
  go_loopw [1, 28] (fun p i wr => ∃ (j q : Nat) (cur : Array Value), j ≤ cnt ∧ i = .int .i64 j ∧ p = .int .i64 q ∧ q ≤ s.size ∧ Hid (q = a + j * m) ∧ Hid (cur.size = cnt) ∧ Hid (wr.heap[w.heap.size]? = some (.cells cur 3 (0, 0))) ∧
      Hid (∀ k, k < j → cur[k]? = some (.int .i64 ((getN s.data.toList ((a + k * m : Nat) : Int) m : Nat) : Int))) ∧ Below w.heap.size w wr) (fun _ i _ => cnt - (intOf i).toNat)
  case atStart => exact ⟨0, a, Z, Nat.zero_le _, rfl, rfl, h0, Lib.hid (by simp), HZ, Lib.hid (heap_alloc_new w _), Lib.hid (fun k hk => absurd hk (by omega)), below_alloc _⟩
  case round =>
    obtain ⟨j, q, cur, hj, rfl, rfl, hq, HQ, HC, HG, HV, hbel⟩ := hrel
    by_cases hlt : j < cnt
    · have hjm : j * m + m ≤ cnt * m := by rw [← Nat.succ_mul]; exact Nat.mul_le_mul_right _ hlt
      have hz : m ≤ (s.extract q s.size).size := by
        have h1 : (s.extract q s.size).data.toList.length = (s.extract q s.size).size := rfl
        have h2 : s.data.toList.length = s.size := rfl
        rw [Lib.extract_to_end, List.length_drop, h2] at h1
        have := HH.out
        have := HQ.out
        omega
      have hqm : q + m ≤ s.size := by have := HH.out; have := HQ.out; omega
      have hNj : Lib.leNat ((s.extract q s.size).data.toList.take m) = getN s.data.toList ((a + j * m : Nat) : Int) m := by rw [Lib.extract_to_end, HQ.out]; rfl
      have D := Lib.hid (fun W => read_fine (s.extract q s.size) m W HM.out hz (by rw [hNj]; exact HN.out j hlt))
      rw [hNj] at D
      clear hz hNj hjm
      go_wp2_with fail
      refine (D.out _).mono ?_
      rintro e w2 ⟨rfl, hb2⟩
      have hgl : w.heap.size < wr.heap.size := by
        rcases Nat.lt_or_ge w.heap.size wr.heap.size with h | h
        · exact h
        · have := HG.out; rw [Array.getElem?_eq_none h] at this; cases this
      have hg2 : w2.heap[w.heap.size]? = some (.cells cur 3 (0, 0)) := (hb2.block _ hgl).trans HG.out
      have hc2 : w2.cell? ⟨w.heap.size, j, none⟩ = some (cur[j]'(by rw [HC.out]; exact hlt)) := by rw [cell_of_row _ _ _ _ _ _ hg2, Array.getElem?_eq_getElem]
      have hf2 : w2.frozen? ⟨w.heap.size, j, none⟩ = false := frozen_of_row _ _ _ _ _ hg2
      have HG2 := Lib.hid hg2
      have hb3 : Below w.heap.size w w2 := hbel.trans (hb2.mono hbel.size)
      clear hg2 hb2 hgl
      go_wp2
      go_roundw
      case rel => exact ⟨j + 1, q + m, cur.setIfInBounds j (.int .i64 ((getN s.data.toList ((a + j * m : Nat) : Int) m : Nat) : Int)), by omega, by go_num, by go_num, hqm, Lib.hid (by rw [HQ.out, Nat.succ_mul]; omega), Lib.hid (by rw [Array.size_setIfInBounds]; exact HC.out),
        Lib.hid (heap_setCell_same _ _ _ _ _ _ HG2.out), Lib.hid (fun k hk => by
          rcases Nat.lt_or_ge k j with h1 | h1
          · rw [Array.getElem?_setIfInBounds_ne (by omega)]; exact HV.out k h1
          · obtain rfl : k = j := by omega
            rw [Array.getElem?_setIfInBounds_self_of_lt (by rw [HC.out]; exact hlt)]), hb3.setCell (Nat.le_refl _) _⟩
      case measure => simp [intOf]; omega
    · obtain rfl : j = cnt := by omega
      go_wp2
      go_ret3
      refine ⟨w.heap.size, by rw [HQ.out]; rfl, ?_, hbel⟩
      intro _
      refine ⟨w.heap.size, 0, rfl, ?_, fun k hk => ?_⟩
      · rcases Nat.lt_or_ge w.heap.size wr.heap.size with h | h
        · exact h
        · have := HG.out; rw [Array.getElem?_eq_none h] at this; cases this
      · rw [unL_length] at hk
        rw [cell_of_row _ _ _ _ _ _ HG.out, Nat.zero_add, HV.out k hk, unL_get _ _ _ _ _ hk]
end Go.Proofs.Ytmnmfbfjlafgbaa
