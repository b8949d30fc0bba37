/- The contract of wire.Row in the seat Ytmnmfbfjlafgbaa. No statement is proved here. -/
import Derived.Test.YtmnmfbfjlafgbaaBuild
import Derived.Test.YtmnmfbfjlafgbaaRowMath
import Derived.Test.YtmnmfbfjlafgbaaRead
set_option linter.unusedVariables false
namespace Go.Proofs.Ytmnmfbfjlafgbaa
open Go.RowKit

/-- What spell laid into an array reads as a number's bytes. -/
theorem spelt (w : World) (n m : Nat) (h8 : m ≤ 8) (t : TypeId) : ∀ (j : Nat) (u : Value), (Lib.byteCells (Lib.leBytes m n))[j]? = some u →
    (w.alloc (.cells #[.int .u8 ((n : Int) % 256), .int .u8 ((n : Int) / 256 % 256), .int .u8 ((n : Int) / 65536 % 256), .int .u8 ((n : Int) / 16777216 % 256), .int .u8 ((n : Int) / 4294967296 % 256), .int .u8 ((n : Int) / 1099511627776 % 256), .int .u8 ((n : Int) / 281474976710656 % 256), .int .u8 ((n : Int) / 72057594037927936 % 256)] t)).cell? ((⟨w.heap.size, 0, none⟩ : Addr).add j) = some u := by
  intro j u hu
  rw [addr_add, Nat.zero_add, World.cell?_alloc_at _ _ _ _ rfl]
  show ((bz n).map (Value.int .u8)).toArray[j]? = some u
  rw [cell_bytes, List.getElem?_toArray]
  rw [← leBytes_take 8 m n h8] at hu
  unfold Lib.byteCells at hu ⊢
  rw [List.map_take, List.getElem?_take] at hu
  by_cases hj : j < m
  · rwa [if_pos hj] at hu
  · rw [if_neg hj] at hu; cases hu
theorem byteCells_append (a b : List UInt8) : Lib.byteCells (a ++ b) = Lib.byteCells a ++ Lib.byteCells b := List.map_append
theorem byteCells_length (a : List UInt8) : (Lib.byteCells a).length = a.length := List.length_map _
theorem byteCells_one (a : List UInt8) : ∀ u ∈ Lib.byteCells a, u.oneCell' = true := by
  intro u hu
  obtain ⟨x, _, rfl⟩ := List.mem_map.mp hu
  rfl

/-- A builder that holds so many bytes. -/
def Holds (b : Nat) (l : List UInt8) (w : World) : Prop := Lib.BuilderAt 52 5 b b (.pointer (some ⟨b, 0, none⟩)) (Lib.byteCells l) w

set_option maxRecDepth 100000 in
set_option maxHeartbeats 1000000 in
theorem row_fine (A : Option Addr) (cap : Nat) (zs : List Int) (m : Nat) (w : World) (hl : zs.length ≤ 1000) (hI : Ints w w.heap.size A zs) (hz : ∀ z ∈ zs, z ≤ 9223372036854775807) (hw : wide m = true) :
    Calls Try.prog 14 #[.slice A zs.length cap, .int .i64 m] w fun e w' => e = .returned (.tuple #[.string ⟨(rowL zs m).toArray⟩, .int .i64 (rowE zs m)]) ∧ Below w.heap.size w w' := by
  have C := Lib.hid (fun W => isWidth_yes hw W)
  obtain ⟨P, hP⟩ := pow_of hw
  have hm : m = 1 ∨ m = 2 ∨ m = 4 ∨ m = 8 := by rcases hP with ⟨h, _⟩ | ⟨h, _⟩ | ⟨h, _⟩ | ⟨h, _⟩ <;> omega
  have h8 : m ≤ 8 := by omega
  obtain ⟨len, hlen⟩ : ∃ len, len = zs.length := ⟨_, rfl⟩
  obtain ⟨q, hq⟩ : ∃ q, q = len * m := ⟨_, rfl⟩
  have K : (len : Int) * (m : Int) = (q : Int) := by rw [hq, Int.natCast_mul]
  have hq8 : q ≤ 8000 := by
    rw [hq]
    exact Nat.le_trans (Nat.mul_le_mul (by omega : len ≤ 1000) h8) (by decide)
  have hgr := Lib.hid (fun W : World => Try.Builder_Grow_fresh W.heap.size W.heap.size q (W.alloc (.cells #[.pointer none, .slice none 0 0] 52)) (Nat.le_refl _) (heap_alloc_new W _) (by simp) (by omega))
  rw [← hlen] at hl ⊢
  have HL := Lib.hid hlen
  have HI := Lib.hid hI
  have HZ := Lib.hid hz
  have HP := Lib.hid hP
  have HW := Lib.hid hw
  have HM := Lib.hid hm
  clear hlen hq hI hz hP hw hm
  go_enter Try.func14, Try.ntmps14
  go_wp2_with fail
  refine (C.out _).mono ?_
  rintro e w' ⟨rfl, rfl⟩
  go_wp2_with fail
  refine (hgr.out _).mono ?_
  rintro e w1 ⟨rfl, hB, hb⟩
  have HB1 : Hid (Holds w.heap.size [] w1) := Lib.hid hB
  have hb1 : Below w.heap.size w w1 := (below_alloc _).trans hb
  clear hB hb
  go_wp2
  go_loopw [21] (fun i wr => ∃ j : Nat, j ≤ len ∧ i = .int .i64 j ∧ Hid (rowE (zs.take j) m = 0) ∧ Hid (Holds w.heap.size (rowB (zs.take j) m) wr) ∧ Below w.heap.size w wr) (fun i _ => len - (intOf i).toNat)
  case atStart => exact ⟨0, Nat.zero_le _, rfl, Lib.hid (by simp [rowE, HW.out]), HB1, hb1⟩
  case round =>
    obtain ⟨j, hj, rfl, hE, hH, hbel⟩ := hrel
    by_cases hlt : j < len
    · obtain ⟨b, off, z, rfl, hbg, hzj, hcell⟩ := HI.out.at_ (k := j) (by rw [← HL.out]; exact hlt)
      have hcell' : wr.cell? ⟨b, off + j, none⟩ = some (.int .i64 z) := (hbel.cell hbg).trans hcell
      have hzm : z ≤ 9223372036854775807 := HZ.out z (List.mem_of_getElem? hzj)
      have HJ := Lib.hid hzj
      clear hzj hcell
      cases hf : fits z m with
      | false =>
        have D := Lib.hid (fun W => spell_bad z m P W HP.out hzm (fun h => by rw [(fits_iff HP.out).mpr h] at hf; cases hf))
        have HF := Lib.hid hf
        clear hf
        go_wp2_with fail
        refine (D.out _).mono ?_
        rintro e w2 ⟨rfl, hb2⟩
        have hb3 : Below w.heap.size w w2 := hbel.trans (hb2.mono hbel.size)
        clear hb2
        go_wp2
        go_ret2
        have hp : putE z m = 20 := putE_great HW.out HF.out
        have he := rowE_early HW.out HJ.out hE.out (by rw [hp]; omega)
        exact ⟨by rw [rowL_bad (by rw [he, hp]; omega), he, hp]; rfl, hb3.alloc hb3.size _⟩
      | true =>
        obtain ⟨h0, h1⟩ := (fits_iff HP.out).mp hf
        have D := Lib.hid (fun W => spell_fine z m P W HP.out h0 hzm h1)
        have hp : putE z m = 0 := putE_fine HW.out hf
        have HPE := Lib.hid hp
        have HE1 := Lib.hid ((rowE_step HW.out HJ.out hE.out).trans hp)
        have HB1' := Lib.hid (rowB_step (k := m) HJ.out)
        have HPL := Lib.hid (putL_fine HW.out hf)
        clear hf hp h1
        go_wp2_with fail
        refine (D.out _).mono ?_
        rintro e w2 ⟨rfl, hb2⟩
        have hb3 : Below w.heap.size w w2 := hbel.trans (hb2.mono hbel.size)
        obtain ⟨n, rfl⟩ : ∃ n : Nat, z = n := ⟨z.toNat, by omega⟩
        have hsl := slice_m w2.heap.size m HM.out
        have HH2 : Hid (Holds w.heap.size (rowB (zs.take j) m) w2) := Lib.hid (builder_below hH.out hb2)
        clear hb2
        have hlb : (Lib.byteCells (rowB (zs.take j) m)).length + m ≤ 140737488355328 := by
          rw [byteCells_length, rowB_length _ hE.out, Int.toNat_natCast, List.length_take, ← HL.out, Nat.min_eq_left (by omega)]
          have : j * m ≤ 1000 * 8 := Nat.mul_le_mul (by omega) h8
          omega
        have WR := Lib.hid (write_used w.heap.size w.heap.size (Lib.byteCells (rowB (zs.take j) m)) ⟨w2.heap.size, 0, none⟩ m 8 (Lib.byteCells (Lib.leBytes m n)) _
          (builder_below HH2.out (below_alloc _)) (by rw [byteCells_length, Lib.leBytes_length]) (spelt w2 n m h8 45) (byteCells_one _) hlb (by simp; have := hb3.size; omega))
        clear hlb
        go_wp2_with fail
        refine WR.out.mono ?_
        rintro e w4 ⟨rfl, hw4, hb4⟩
        have HH4 : Hid (Holds w.heap.size (rowB (zs.take (j + 1)) m) w4) := Lib.hid (by
          rw [HB1'.out, HPL.out]
          show Lib.BuilderAt _ _ _ _ _ (Lib.byteCells _) w4
          rw [byteCells_append]
          simpa using hw4)
        have hb5 : Below w.heap.size w w4 := (hb3.alloc hb3.size _).trans hb4
        clear hw4 hb4
        go_wp2
        go_roundw
        case rel => exact ⟨j + 1, by omega, by go_num, HE1, HH4, hb5⟩
        case measure => simp [intOf]; omega
    · obtain rfl : j = len := by omega
      have e1 : zs.take j = zs := by rw [HL.out, List.take_length]
      have HE : Hid (rowE zs m = 0) := Lib.hid (by have := hE.out; rwa [e1] at this)
      have HH : Hid (Holds w.heap.size (rowB zs m) wr) := Lib.hid (by have := hH.out; rwa [e1] at this)
      clear hE hH e1
      have ST := Lib.hid (Try.Builder_String_any w.heap.size w.heap.size (rowB zs m) wr (.inr HH.out) hbel.size)
      go_wp2_with fail
      refine ST.out.mono ?_
      rintro e w4 ⟨rfl, hb4⟩
      go_wp2
      go_ret2
      exact ⟨by rw [rowL_fine HE.out, HE.out]; rfl, hbel.trans hb4⟩
theorem row_any (A : Option Addr) (cap : Nat) (zs : List Int) (k : Int) (w : World) (hl : zs.length ≤ 1000) (hI : Ints w w.heap.size A zs) (hz : ∀ z ∈ zs, z ≤ 9223372036854775807) :
    Calls Try.prog 14 #[.slice A zs.length cap, .int .i64 k] w fun e w' => e = .returned (.tuple #[.string ⟨(rowL zs k).toArray⟩, .int .i64 (rowE zs k)]) ∧ Below w.heap.size w w' := by
  cases hw : wide k with
  | false =>
    have C := Lib.hid (fun W => isWidth_no hw W)
    rw [rowL_wide hw, rowE_wide hw]
    clear hw hI hz hl
    go_enter Try.func14, Try.ntmps14
    go_wp2_with fail
    refine (C.out _).mono ?_
    rintro e w' ⟨rfl, rfl⟩
    go_wp2
    go_ret2
    exact ⟨rfl, Below.refl _ _⟩
  | true =>
    obtain ⟨P, hP⟩ := pow_of hw
    obtain ⟨m, rfl, _⟩ := hP.nat
    exact row_fine A cap zs m w hl hI hz hw
end Go.Proofs.Ytmnmfbfjlafgbaa
