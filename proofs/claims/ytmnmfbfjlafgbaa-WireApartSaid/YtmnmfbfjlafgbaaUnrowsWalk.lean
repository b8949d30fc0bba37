/- The walk of WireUnrows in the seat Ytmnmfbfjlafgbaa: at any input it answers true. No statement is proved here. -/
import Derived.Test.YtmnmfbfjlafgbaaAwake
import Derived.Test.YtmnmfbfjlafgbaaLawMath
set_option linter.unusedVariables false
namespace Go.Proofs.Ytmnmfbfjlafgbaa
open Go.RowKit

theorem ints_same (B : Nat) (A1 A2 : Option Addr) (c1 c2 : Nat) (xs : List Int) (w : World) (hx : xs.length ≤ 1000) (h1 : Ints w B A1 xs) (h2 : Ints w B A2 xs) :
    Calls Try.prog 16 #[.slice A1 xs.length c1, .slice A2 xs.length c2] w fun e w' => e = .returned (.bool true) ∧ Below w.heap.size w w' :=
  (ints_any B A1 A2 c1 c2 xs xs w hx hx h1 h2).mono fun e w' ⟨he, N, hw⟩ => ⟨by rw [he, decide_eq_true rfl], by subst hw; exact below_drewN (Below.refl _ _) N⟩

set_option maxHeartbeats 1000000 in
theorem unrows_long (w : World) (A : Option Addr) (cap len : Nat) (k : Int) (a b : ByteArray) (hm : len ≤ 9223372036854775807) (hl : ¬ (len ≤ 60 ∧ a.size ≤ 100 ∧ b.size ≤ 100)) :
    Calls Try.prog 6 #[.slice A len cap, .int .i64 k, .string a, .string b] w fun e w' => e = .returned (.bool true) ∧ Below w.heap.size w w' := by
  have h : 60 < len ∨ (len ≤ 60 ∧ 100 < a.size) ∨ (len ≤ 60 ∧ a.size ≤ 100 ∧ 100 < b.size) := by omega
  clear hl
  rcases h with h | ⟨h, h1⟩ | ⟨h, h1, h2⟩
  all_goals
    go_enter Try.func6, Try.ntmps6
    go_wp2_with fail
    refine (awake_any _).mono ?_
    rintro e w1 ⟨rfl, b1⟩
    have HB1 := Lib.hid b1
    clear b1
    go_wp2_with fail
    refine (awake_any _).mono ?_
    rintro e w2 ⟨rfl, b2⟩
    have HB2 := Lib.hid (HB1.out.trans (b2.mono HB1.out.size))
    clear b2
    go_wp2_with fail
    go_ret
    exact ⟨rfl, HB2.out⟩

set_option maxHeartbeats 1000000 in
theorem unrows_bad (w : World) (A : Option Addr) (cap : Nat) (zs : List Int) (k : Int) (a b : ByteArray) (hl : zs.length ≤ 60) (h1 : a.size ≤ 100) (h2 : b.size ≤ 100) (hI : Ints w w.heap.size A zs) (hA : A = none → cap = 0)
    (hz : ∀ z ∈ zs, z ≤ 9223372036854775807) (hE : rowE zs k ≠ 0) :
    Calls Try.prog 6 #[.slice A zs.length cap, .int .i64 k, .string a, .string b] w fun e w' => e = .returned (.bool true) ∧ Below w.heap.size w w' := by
  obtain ⟨i0, hi0, hz0, hz1, hz2⟩ := info_parts int_cell_info
  obtain ⟨len, hlen⟩ : ∃ len, len = zs.length := ⟨_, rfl⟩
  obtain ⟨c, hc⟩ : ∃ c, c = rowE zs k := ⟨_, rfl⟩
  have CR := Lib.hid (fun A cap W h => by have := row_any A cap zs k W (by omega) h hz; rw [rowL_bad hE, ← hlen, ← hc] at this; exact this)
  rw [← hc] at hE
  rw [← hlen] at hl ⊢
  have hb : (c != 0) = true := by simpa using hE
  have HL := Lib.hid hlen
  have HI := Lib.hid hI
  have HA := Lib.hid hA
  clear hlen hI hA hE hc hz
  go_enter Try.func6, Try.ntmps6
  go_wp2_with fail
  refine (awake_any _).mono ?_
  rintro e w1 ⟨rfl, b1⟩
  have HI1 := Lib.hid (HI.out.below b1)
  have HB1 := Lib.hid b1
  clear b1
  go_wp2_with (at_builtin; refine wpList_copied rfl _ _ _ rfl 3 i0 _ Try.underlying31 hi0 hz0 hz1 hz2 rfl w1 _ A cap len zs HL.out (by omega) HI1.out HB1.out.size HA.out rfl rfl ?_; intro A2 c2 w2 HI2 HB2; (have HI2' := Lib.hid HI2); (have HB2' := Lib.hid HB2); clear HI2 HB2)
  refine (CR.out A2 c2 w2 HI2'.out).mono ?_
  rintro e w3 ⟨rfl, b3⟩
  have HB3 := Lib.hid (HB1.out.trans ((HB2'.out.trans (b3.mono HB2'.out.size)).mono HB1.out.size))
  clear b3
  go_wp2_with fail
  go_ret
  exact ⟨rfl, HB3.out⟩

def GotU (g len : Nat) (at_ : Int) (zs : List Int) (W : World) (e : Ending) (w' : World) : Prop :=
  e = .returned (.tuple #[.slice (some ⟨g, 0, none⟩) len len, .int .i64 at_, .int .i64 0]) ∧ Ints w' w'.heap.size (some ⟨g, 0, none⟩) zs ∧ Below W.heap.size W w'
set_option maxHeartbeats 1000000 in
theorem unrows_core (w : World) (A : Option Addr) (cap len m q : Nat) (zs : List Int) (a b S : ByteArray) (hlen : len = zs.length) (hl : len ≤ 60) (h1 : a.size ≤ 100) (h2 : b.size ≤ 100) (hI : Ints w w.heap.size A zs) (hA : A = none → cap = 0)
    (hS : S.size = q) (hq : q ≤ 480) (K : (len : Int) * (m : Int) = (q : Int)) (hm : m ≤ 8)
    (hR : ∀ A cap (W : World), Ints W W.heap.size A zs → Calls Try.prog 14 #[.slice A len cap, .int .i64 m] W fun e w' => e = .returned (.tuple #[.string S, .int .i64 0]) ∧ Below W.heap.size W w')
    (hU : ∀ W : World, Calls Try.prog 15 #[.string (a ++ S ++ b), .int .i64 a.size, .int .i64 len, .int .i64 m] W fun e w' => ∃ g, GotU g len ((a.size : Int) + (q : Int)) zs W e w')
    (hV : ∀ W : World, Calls Try.prog 15 #[.string (a ++ S), .int .i64 a.size, .int .i64 ((len : Int) + 1), .int .i64 m] W fun e w' => e = .returned (.tuple #[.slice none 0 0, .int .i64 0, .int .i64 21]) ∧ W = w') :
    Calls Try.prog 6 #[.slice A len cap, .int .i64 m, .string a, .string b] w fun e w' => e = .returned (.bool true) ∧ Below w.heap.size w w' := by
  obtain ⟨i0, hi0, hz0, hz1, hz2⟩ := info_parts int_cell_info
  have CR := Lib.hid hR
  have CU := Lib.hid hU
  have CV := Lib.hid hV
  have HL := Lib.hid hlen
  have HI := Lib.hid hI
  have HA := Lib.hid hA
  clear hlen hI hA hR hU hV
  go_enter Try.func6, Try.ntmps6
  go_wp2_with fail
  refine (awake_any _).mono ?_
  rintro e w1 ⟨rfl, b1⟩
  have HI1 := Lib.hid (HI.out.below b1)
  have HB1 := Lib.hid b1
  clear b1
  go_wp2_with (at_builtin; refine wpList_copied rfl _ _ _ rfl 3 i0 _ Try.underlying31 hi0 hz0 hz1 hz2 rfl w1 _ A cap len zs HL.out (by omega) HI1.out HB1.out.size HA.out rfl rfl ?_; intro A2 c2 w2 HI2 HB2; (have HI2' := Lib.hid HI2); (have HB2' := Lib.hid HB2); clear HI2 HB2)
  refine (CR.out A2 c2 w2 HI2'.out).mono ?_
  rintro e w3 ⟨rfl, b3⟩
  have HB3 := Lib.hid (HB1.out.trans ((HB2'.out.trans (b3.mono HB2'.out.size)).mono HB1.out.size))
  clear b3
  go_wp2_with fail
  refine (CU.out _).mono ?_
  rintro e w4 ⟨g, rfl, hI4, b4⟩
  have HB4 := Lib.hid (HB3.out.trans (b4.mono HB3.out.size))
  have HI4 := Lib.hid hI4
  clear b4 hI4
  go_wp2_with fail
  refine (CV.out _).mono ?_
  rintro e w' ⟨rfl, rfl⟩
  have HS := Lib.hid (by have h := ints_same w4.heap.size A (some ⟨g, 0, none⟩) cap len zs w4 (by rw [← HL.out]; omega) ((HI.out.below HB4.out).more HB4.out.size) HI4.out; rw [← HL.out] at h; exact h)
  go_wp2_with fail
  refine HS.out.mono ?_
  rintro e w5 ⟨rfl, b5⟩
  have HB5 := Lib.hid (HB4.out.trans (b5.mono HB4.out.size))
  clear b5
  go_wp2_with fail
  go_ret
  exact ⟨rfl, HB5.out⟩
theorem walk_WireUnrows (w : World) (A : Option Addr) (cap len : Nat) (zs : List Int) (hlen : zs.length = len) (hm : len ≤ 9223372036854775807) (hI : Ints w w.heap.size A zs) (hA : A = none → cap = 0) (_ : len ≤ cap)
    (hz : ∀ z ∈ zs, -9223372036854775808 ≤ z ∧ z ≤ 9223372036854775807) (k : Int) (hk : (Lit.int .i64 k).wf = true) (a : ByteArray) (ha : a.size ≤ 9223372036854775807) (b : ByteArray) (hb : b.size ≤ 9223372036854775807) :
    Calls Try.prog 6 #[.slice A len cap, .int .i64 k, .string a, .string b] w fun e w' => e = .returned (.bool true) ∧ Below w.heap.size w w' := by
  by_cases hl : len ≤ 60 ∧ a.size ≤ 100 ∧ b.size ≤ 100
  · obtain ⟨h0, h1, h2⟩ := hl
    have hz' : ∀ z ∈ zs, z ≤ 9223372036854775807 := fun z h => (hz z h).2
    subst hlen
    by_cases hE : rowE zs k = 0
    · have hw := rowE_zero_wide hE
      obtain ⟨P, hP⟩ := pow_of hw
      obtain ⟨j, rfl, hj1, h8, _⟩ := hP.nat
      have hlb := rowB_length zs hE
      rw [Int.toNat_natCast] at hlb
      have hq8 : zs.length * j ≤ 480 := Nat.le_trans (Nat.mul_le_mul h0 h8) (by decide)
      have hsz : (⟨(rowB zs j).toArray⟩ : ByteArray).size = zs.length * j := by rw [← hlb]; simp [ByteArray.size]
      refine unrows_core w A cap zs.length j (zs.length * j) zs a b ⟨(rowB zs j).toArray⟩ rfl h0 h1 h2 hI hA hsz hq8 (by rw [Int.natCast_mul]) h8 (fun A cap W h => ?_) (fun W => ?_) (fun W => ?_)
      · have := row_any A cap zs j W (by omega) h hz'
        rwa [rowL_fine hE, hE] at this
      · have e : (a ++ ⟨(rowB zs j).toArray⟩ ++ b).data.toList = a.data.toList ++ rowB zs j ++ b.data.toList := by
          rw [ByteArray.data_append, ByteArray.data_append]; simp
        have hgz : ∀ i z, zs[i]? = some z → getN (a ++ ⟨(rowB zs j).toArray⟩ ++ b).data.toList ((a.size + i * j : Nat) : Int) j = z.toNat ∧ 0 ≤ z := by
          intro i z hi
          have h := row_at a.data.toList b.data.toList hE hi
          rw [Int.toNat_natCast] at h
          rw [e]
          exact h
        have h := unrow_fine (a ++ ⟨(rowB zs j).toArray⟩ ++ b) a.size zs.length j W hw (by rw [ByteArray.size_append, ByteArray.size_append, hsz]; omega) (by omega) (by rw [ByteArray.size_append, ByteArray.size_append, hsz]; omega) (fun i hi => by
          obtain ⟨g1, g2⟩ := hgz i zs[i] (List.getElem?_eq_getElem hi)
          rw [g1]
          have := hz' zs[i] (List.getElem_mem hi)
          omega)
        refine h.mono fun e' w' ⟨g, he, hI', hb'⟩ => ⟨g, ?_, ?_, hb'⟩
        · rw [he]
          rfl
        · have hu : unL (a ++ ⟨(rowB zs j).toArray⟩ ++ b).data.toList a.size j zs.length = zs := by
            apply List.ext_getElem
            · rw [unL_length]
            · intro i h1' h2'
              obtain ⟨g1, g2⟩ := hgz i zs[i] (List.getElem?_eq_getElem h2')
              have := unL_get (a ++ ⟨(rowB zs j).toArray⟩ ++ b).data.toList a.size j zs.length i h2'
              rw [List.getD_eq_getElem?_getD, List.getElem?_eq_getElem h1'] at this
              rw [g1] at this
              simp only [Option.getD_some] at this
              rw [this]
              omega
          rw [hu] at hI'
          exact hI'
      · have h := unrow_short (a ++ ⟨(rowB zs j).toArray⟩) a.size (zs.length + 1) j W hw (by rw [ByteArray.size_append, hsz]; omega) (by rw [ByteArray.size_append]; omega) (by rw [ByteArray.size_append, hsz, Nat.succ_mul]; omega)
        rwa [show ((zs.length + 1 : Nat) : Int) = (zs.length : Int) + 1 by omega] at h
    · exact unrows_bad w A cap zs k a b h0 h1 h2 hI hA hz' hE
  · exact unrows_long w A cap len k a b hm hl
end Go.Proofs.Ytmnmfbfjlafgbaa
