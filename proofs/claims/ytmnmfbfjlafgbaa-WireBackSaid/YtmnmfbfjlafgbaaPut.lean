/- The contract of wire.Put in the seat Ytmnmfbfjlafgbaa. No statement is proved here. -/
import Derived.Test.YtmnmfbfjlafgbaaSpell
import Derived.Below
namespace Go.Proofs.Ytmnmfbfjlafgbaa
open Go.RowKit Go.Lib

/-- Eight bytes, their first ones as a string. -/
theorem conv8 (w : World) (a0 a1 a2 a3 a4 a5 a6 a7 : Int) (k : Nat) (hk : k ≤ 8) (s : ByteArray) (hs : strOfNums ([a0, a1, a2, a3, a4, a5, a6, a7].take k) = s) :
    (convert 42 9 (.slice (some ⟨w.heap.size, 0, none⟩) k 8)).run Try.prog (w.alloc (.cells #[.int .u8 a0, .int .u8 a1, .int .u8 a2, .int .u8 a3, .int .u8 a4, .int .u8 a5, .int .u8 a6, .int .u8 a7] 45)) = .ok (.string s) (w.alloc (.cells #[.int .u8 a0, .int .u8 a1, .int .u8 a2, .int .u8 a3, .int .u8 a4, .int .u8 a5, .int .u8 a6, .int .u8 a7] 45)) := by
  rw [← hs]
  exact run_convert_bytes_arg _ 42 5 Try.underlying42 Try.underlying5 w.heap.size 0 k 8 ([a0, a1, a2, a3, a4, a5, a6, a7].take k) (by simp; omega) (fun i hi => by
    rw [World.cell?_alloc_at _ _ _ _ rfl, Nat.zero_add, List.getD_eq_getElem?_getD, List.getElem?_take, if_pos hi]
    have h8 : i < 8 := by omega
    match i, h8 with
    | 0, _ | 1, _ | 2, _ | 3, _ | 4, _ | 5, _ | 6, _ | 7, _ => rfl) 9 Try.underlying9

theorem put_any (n k : Int) (w : World) (hm : n ≤ 9223372036854775807) :
    Calls Try.prog 10 #[.int .i64 n, .int .i64 k] w fun e w' => e = .returned (.tuple #[.string ⟨(putL n k).toArray⟩, .int .i64 (putE n k)]) ∧ Below w.heap.size w w' := by
  cases hw : wide k with
  | false =>
    have C := Lib.hid (fun W => isWidth_no hw W)
    rw [putL_wide hw, putE_wide hw]
    clear hw
    go_enter Try.func10, Try.ntmps10
    go_wp2_with fail
    refine (C.out _).mono ?_
    rintro e w' ⟨rfl, rfl⟩
    go_wp2
    go_ret2
    exact ⟨rfl, Below.refl _ _⟩
  | true =>
    have C := Lib.hid (fun W => isWidth_yes hw W)
    obtain ⟨P, hP⟩ := pow_of hw
    cases hf : fits n k with
    | false =>
      have D := Lib.hid (fun W => spell_bad n k P W hP hm (fun h => by rw [(fits_iff hP).mpr h] at hf; cases hf))
      rw [putL_great hf, putE_great hw hf]
      clear hw hf
      go_enter Try.func10, Try.ntmps10
      go_wp2_with fail
      refine (C.out _).mono ?_
      rintro e w' ⟨rfl, rfl⟩
      go_wp2_with fail
      refine (D.out _).mono ?_
      rintro e w1 ⟨rfl, hb⟩
      go_wp2
      go_ret2
      exact ⟨rfl, hb.alloc hb.size _⟩
    | true =>
      obtain ⟨h0, h1⟩ := (fits_iff hP).mp hf
      have D := Lib.hid (fun W => spell_fine n k P W hP h0 hm h1)
      have hv : Hid (strOfNums ((bz n).take k.toNat) = ⟨(putL n k).toArray⟩) := Lib.hid (by
        obtain ⟨m, rfl, _, h8, _⟩ := hP.nat
        obtain ⟨j, rfl⟩ : ∃ j : Nat, n = j := ⟨n.toNat, by omega⟩
        rw [putL_fine hw hf, Int.toNat_natCast, Int.toNat_natCast, bz_str j m h8])
      rw [putE_fine hw hf]
      clear hw hf h1 hm
      rcases hP with ⟨rfl, rfl⟩ | ⟨rfl, rfl⟩ | ⟨rfl, rfl⟩ | ⟨rfl, rfl⟩
      · go_enter Try.func10, Try.ntmps10
        go_wp2_with fail
        refine (C.out _).mono ?_
        rintro e w' ⟨rfl, rfl⟩
        go_wp2_with fail
        refine (D.out _).mono ?_
        rintro e w1 ⟨rfl, hb⟩
        have hcw := conv8 w1 _ _ _ _ _ _ _ _ 1 (by decide) _ hv.out
        go_wp2
        go_ret2
        exact ⟨rfl, hb.alloc hb.size _⟩
      · go_enter Try.func10, Try.ntmps10
        go_wp2_with fail
        refine (C.out _).mono ?_
        rintro e w' ⟨rfl, rfl⟩
        go_wp2_with fail
        refine (D.out _).mono ?_
        rintro e w1 ⟨rfl, hb⟩
        have hcw := conv8 w1 _ _ _ _ _ _ _ _ 2 (by decide) _ hv.out
        go_wp2
        go_ret2
        exact ⟨rfl, hb.alloc hb.size _⟩
      · go_enter Try.func10, Try.ntmps10
        go_wp2_with fail
        refine (C.out _).mono ?_
        rintro e w' ⟨rfl, rfl⟩
        go_wp2_with fail
        refine (D.out _).mono ?_
        rintro e w1 ⟨rfl, hb⟩
        have hcw := conv8 w1 _ _ _ _ _ _ _ _ 4 (by decide) _ hv.out
        go_wp2
        go_ret2
        exact ⟨rfl, hb.alloc hb.size _⟩
      · go_enter Try.func10, Try.ntmps10
        go_wp2_with fail
        refine (C.out _).mono ?_
        rintro e w' ⟨rfl, rfl⟩
        go_wp2_with fail
        refine (D.out _).mono ?_
        rintro e w1 ⟨rfl, hb⟩
        have hcw := conv8 w1 _ _ _ _ _ _ _ _ 8 (by decide) _ hv.out
        go_wp2
        go_ret2
        exact ⟨rfl, hb.alloc hb.size _⟩
end Go.Proofs.Ytmnmfbfjlafgbaa
