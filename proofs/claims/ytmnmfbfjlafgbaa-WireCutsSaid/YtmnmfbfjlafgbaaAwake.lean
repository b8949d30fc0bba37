/- The contract of awake (what the chapter's examples fix) of trefoillaw02 in the seat Ytmnmfbfjlafgbaa: it answers true. No statement is proved here. -/
import Derived.Test.YtmnmfbfjlafgbaaPut
import Derived.Test.YtmnmfbfjlafgbaaRow
import Derived.Test.YtmnmfbfjlafgbaaUnrow
import Derived.Test.YtmnmfbfjlafgbaaCut
import Derived.Test.YtmnmfbfjlafgbaaSame
set_option linter.unusedVariables false
namespace Go.Proofs.Ytmnmfbfjlafgbaa
open Go.RowKit

theorem i64_bounds {n : Int} (h : (Lit.int .i64 n).wf = true) : -9223372036854775808 ≤ n ∧ n ≤ 9223372036854775807 := by
  have e1 : IntKind.i64.min = -9223372036854775808 := by decide
  have e2 : IntKind.i64.max = 9223372036854775807 := by decide
  simp [Lit.wf, e1, e2] at h
  omega
/-- Bytes written out, as a string. -/
theorem conv_lit (w : World) (xs : List Int) (l : List UInt8) (h : strOfNums xs = ⟨l.toArray⟩) (n : Nat) (hn : xs.length = n) (t : TypeId) :
    (convert 42 9 (.slice (some ⟨w.heap.size, 0, none⟩) n n)).run Try.prog (w.alloc (.cells (xs.map (Value.int .u8)).toArray t)) = .ok (.string ⟨l.toArray⟩) (w.alloc (.cells (xs.map (Value.int .u8)).toArray t)) := by
  rw [← h]
  exact run_convert_bytes_arg _ 42 5 Try.underlying42 Try.underlying5 w.heap.size 0 n n xs hn (fun i hi => by
    rw [World.cell?_alloc_at _ _ _ _ rfl, Nat.zero_add, List.getElem?_toArray, List.getElem?_map, List.getElem?_eq_getElem (by omega), List.getD_eq_getElem?_getD, List.getElem?_eq_getElem (by omega)]
    rfl) 9 Try.underlying9
theorem conv_123 (w : World) : (convert 42 9 (.slice (some ⟨w.heap.size, 0, none⟩) 3 3)).run Try.prog (w.alloc (.cells #[.int .u8 1, .int .u8 2, .int .u8 3] 5)) = .ok (.string ⟨#[1, 2, 3]⟩) (w.alloc (.cells #[.int .u8 1, .int .u8 2, .int .u8 3] 5)) :=
  conv_lit w [1, 2, 3] [1, 2, 3] (by decide) 3 rfl 5
theorem conv_21 (w : World) : (convert 42 9 (.slice (some ⟨w.heap.size, 0, none⟩) 2 2)).run Try.prog (w.alloc (.cells #[.int .u8 2, .int .u8 1] 5)) = .ok (.string ⟨#[2, 1]⟩) (w.alloc (.cells #[.int .u8 2, .int .u8 1] 5)) :=
  conv_lit w [2, 1] [2, 1] (by decide) 2 rfl 5
theorem conv_12 (w : World) (o : Obj) : (convert 42 9 (.slice (some ⟨w.heap.size + 1, 0, none⟩) 2 2)).run Try.prog ((w.alloc o).alloc (.cells #[.int .u8 1, .int .u8 2] 5)) = .ok (.string ⟨#[1, 2]⟩) ((w.alloc o).alloc (.cells #[.int .u8 1, .int .u8 2] 5)) := by
  have h := conv_lit (w.alloc o) [1, 2] [1, 2] (by decide) 2 rfl 5
  rwa [show (w.alloc o).heap.size = w.heap.size + 1 by simp] at h
theorem put_258 (w : World) : Calls Try.prog 10 #[.int .i64 258, .int .i64 2] w fun e w' => e = .returned (.tuple #[.string ⟨#[2, 1]⟩, .int .i64 0]) ∧ Below w.heap.size w w' := put_any 258 2 w (by omega)
theorem put_13 (w : World) : Calls Try.prog 10 #[.int .i64 1, .int .i64 3] w fun e w' => e = .returned (.tuple #[.string ⟨#[]⟩, .int .i64 22]) ∧ Below w.heap.size w w' := put_any 1 3 w (by omega)
theorem get_123 (w : World) : Calls Try.prog 12 #[.string ⟨#[1, 2, 3]⟩, .int .i64 1, .int .i64 2] w fun e w' => e = .returned (.tuple #[.int .i64 770, .int .i64 0]) ∧ Below w.heap.size w w' := get_any ⟨#[1, 2, 3]⟩ 1 2 w (by decide) (by omega)
theorem row_12 (w : World) : Calls Try.prog 14 #[.slice (some ⟨w.heap.size, 0, none⟩) 2 2, .int .i64 1] (w.alloc (.cells #[.int .i64 1, .int .i64 2] 3)) fun e w' => e = .returned (.tuple #[.string ⟨#[1, 2]⟩, .int .i64 0]) ∧ Below w.heap.size w w' :=
  (row_any (some ⟨w.heap.size, 0, none⟩) 2 [1, 2] 1 (w.alloc (.cells #[.int .i64 1, .int .i64 2] 3)) (by simp) ((Ints.new2 w _ 1 2).more (by simp)) (by decide)).mono
    fun _ _ ⟨he, hb⟩ => ⟨he, (below_alloc _).trans (hb.mono (by simp))⟩
def Got12 (w : World) (e : Ending) (w' : World) : Prop :=
  ∃ g : Nat, e = .returned (.tuple #[.slice (some ⟨g, 0, none⟩) 2 2, .int .i64 2, .int .i64 0]) ∧ Ints w' w'.heap.size (some ⟨g, 0, none⟩) [1, 2] ∧ Below w.heap.size w w'
theorem unrow_12 (w : World) : Calls Try.prog 15 #[.string ⟨#[1, 2]⟩, .int .i64 0, .int .i64 2, .int .i64 1] w (Got12 w) :=
  (unrow_fine ⟨#[1, 2]⟩ 0 2 1 w (by decide) (by decide) (by omega) (by decide) (by decide)).mono fun _ _ ⟨g, he, hI, hb⟩ => ⟨g, he, hI, hb⟩
def GotCut (w : World) (e : Ending) (w' : World) : Prop :=
  ∃ g : Nat, e = .returned (.tuple #[.slice (some ⟨g, 0, none⟩) 2 2, .string ⟨#[100]⟩, .int .i64 0]) ∧ Strs w' w'.heap.size (some ⟨g, 0, none⟩) [⟨#[97]⟩, ⟨#[98, 99]⟩] ∧ Below w.heap.size w w'
theorem cut_12 (w : World) : Calls Try.prog 17 #[.string ⟨#[97, 98, 99, 100]⟩, .slice (some ⟨w.heap.size, 0, none⟩) 2 2] (w.alloc (.cells #[.int .i64 1, .int .i64 2] 3)) (GotCut w) := by
  refine (cut_any ⟨#[97, 98, 99, 100]⟩ (some ⟨w.heap.size, 0, none⟩) 2 [1, 2] (w.alloc (.cells #[.int .i64 1, .int .i64 2] 3)) (by decide) (by simp) ((Ints.new2 w _ 1 2).more (by simp))).mono ?_
  intro e w' h
  have hf : Fit 4 [1, 2] 2 := by
    intro j z hj hz
    match j, hj with
    | 0, _ => obtain rfl : 1 = z := by simpa using hz
              decide
    | 1, _ => obtain rfl : 2 = z := by simpa using hz
              decide
  rcases h with ⟨hn, _⟩ | ⟨_, g, he, hg, hc, hb⟩
  · exact absurd hf hn
  · refine ⟨g, he, fun _ => ⟨g, 0, rfl, hg, fun k s hs => ?_⟩, (below_alloc _).trans (hb.mono (by simp))⟩
    match k with
    | 0 => obtain rfl : (⟨#[97]⟩ : ByteArray) = s := by simpa using hs
           exact hc 0 (by simp)
    | 1 => obtain rfl : (⟨#[98, 99]⟩ : ByteArray) = s := by simpa using hs
           exact hc 1 (by simp)
    | k + 2 => simp at hs

theorem ints_12 (w : World) (o1 o2 : Obj) (g : Nat) (hI : Ints w w.heap.size (some ⟨g, 0, none⟩) [1, 2]) :
    Calls Try.prog 16 #[.slice (some ⟨g, 0, none⟩) 2 2, .slice (some ⟨w.heap.size + 2, 0, none⟩) 2 2] (((w.alloc o1).alloc o2).alloc (.cells #[.int .i64 1, .int .i64 2] 3)) fun e w' => e = .returned (.bool true) ∧ Below w.heap.size w w' := by
  have hz : ((w.alloc o1).alloc o2).heap.size = w.heap.size + 2 := by simp
  have hb : Below w.heap.size w (((w.alloc o1).alloc o2).alloc (.cells #[.int .i64 1, .int .i64 2] 3)) := (((Below.refl _ _).alloc (Nat.le_refl _) o1).alloc (by simp) o2).alloc (by simp; omega) _
  have h2 := Ints.new2 ((w.alloc o1).alloc o2) 3 1 2
  rw [hz] at h2
  refine (ints_any (w.heap.size + 3) (some ⟨g, 0, none⟩) (some ⟨w.heap.size + 2, 0, none⟩) 2 2 [1, 2] [1, 2] _ (by simp) (by simp) ((hI.below hb).more (by omega)) h2).mono ?_
  rintro e w' ⟨he, N, rfl⟩
  exact ⟨he, below_drewN hb N⟩
theorem texts_12 (w : World) (g : Nat) (hS : Strs w w.heap.size (some ⟨g, 0, none⟩) [⟨#[97]⟩, ⟨#[98, 99]⟩]) :
    Calls Try.prog 18 #[.slice (some ⟨g, 0, none⟩) 2 2, .slice (some ⟨w.heap.size, 0, none⟩) 2 2] (w.alloc (.cells #[.string ⟨#[97]⟩, .string ⟨#[98, 99]⟩] 9)) fun e w' => e = .returned (.bool true) ∧ Below w.heap.size w w' := by
  have h2 : Strs (w.alloc (.cells #[.string ⟨#[97]⟩, .string ⟨#[98, 99]⟩] 9)) (w.heap.size + 1) (some ⟨w.heap.size, 0, none⟩) [⟨#[97]⟩, ⟨#[98, 99]⟩] := fun _ => ⟨w.heap.size, 0, rfl, by omega, fun k s hs => by
    rw [World.cell?_alloc_at _ _ _ _ rfl]
    match k with
    | 0 => obtain rfl : (⟨#[97]⟩ : ByteArray) = s := by simpa using hs
           rfl
    | 1 => obtain rfl : (⟨#[98, 99]⟩ : ByteArray) = s := by simpa using hs
           rfl
    | k + 2 => simp at hs⟩
  refine (texts_same (w.heap.size + 1) (some ⟨g, 0, none⟩) (some ⟨w.heap.size, 0, none⟩) 2 2 [⟨#[97]⟩, ⟨#[98, 99]⟩] _ (by simp) ((hS.below (below_alloc _)).more (by omega)) h2).mono ?_
  rintro e w' ⟨he, N, rfl⟩
  exact ⟨he, below_drewN (below_alloc _) N⟩

set_option maxRecDepth 100000 in
set_option maxHeartbeats 2000000 in
theorem awake_any (w : World) : Calls Try.prog 9 #[] w fun e w' => e = .returned (.bool true) ∧ Below w.heap.size w w' := by
  go_enter Try.func9, Try.ntmps9
  go_wp2_with fail
  refine (put_258 _).mono ?_
  rintro e w1 ⟨rfl, b1⟩
  have HB1 := Lib.hid b1
  clear b1
  have v1 := conv_123 w1
  go_wp2_with fail
  refine (get_123 _).mono ?_
  rintro e w2 ⟨rfl, b2⟩
  have HB2 := Lib.hid (HB1.out.trans (((below_alloc _).trans (b2.mono (by simp))).mono HB1.out.size))
  clear b2 v1
  go_wp2_with fail
  refine (row_12 _).mono ?_
  rintro e w3 ⟨rfl, b3⟩
  have HB3 := Lib.hid (HB2.out.trans (b3.mono HB2.out.size))
  clear b3
  go_wp2_with fail
  refine (unrow_12 _).mono ?_
  rintro e w4 ⟨g, rfl, hI4, b4⟩
  have HB4 := Lib.hid (HB3.out.trans (b4.mono HB3.out.size))
  have HI4 := Lib.hid hI4
  clear b4 hI4
  go_wp2_with fail
  refine (cut_12 _).mono ?_
  rintro e w5 ⟨g2, rfl, hS5, b5⟩
  have HI5 := Lib.hid ((HI4.out.below b5).more b5.size)
  have HB5 := Lib.hid (HB4.out.trans (b5.mono HB4.out.size))
  have HS5 := Lib.hid hS5
  clear b5 hS5
  go_wp2_with fail
  refine (put_13 _).mono ?_
  rintro e w6 ⟨rfl, b6⟩
  have HI6 := Lib.hid ((HI5.out.below b6).more b6.size)
  have HS6 := Lib.hid (HS5.out.below b6)
  have HB6 := Lib.hid (HB5.out.trans (b6.mono HB5.out.size))
  have HZ6 := Lib.hid b6.size
  clear b6
  have v1 := conv_21 w6
  have v2 := conv_12 w6 (.cells #[.int .u8 2, .int .u8 1] 5)
  go_wp2_with fail
  refine (ints_12 w6 _ _ g HI6.out).mono ?_
  rintro e w7 ⟨rfl, b7⟩
  have HS7 := Lib.hid (((HS6.out.more HZ6.out).below b7).more b7.size)
  have HB7 := Lib.hid (HB6.out.trans (b7.mono HB6.out.size))
  clear b7 v1 v2
  go_wp2_with fail
  refine (texts_12 w7 g2 HS7.out).mono ?_
  rintro e w8 ⟨rfl, b8⟩
  have HB8 := Lib.hid (HB7.out.trans (b8.mono HB7.out.size))
  clear b8
  go_wp2_with fail
  go_ret
  exact ⟨rfl, HB8.out⟩
end Go.Proofs.Ytmnmfbfjlafgbaa
