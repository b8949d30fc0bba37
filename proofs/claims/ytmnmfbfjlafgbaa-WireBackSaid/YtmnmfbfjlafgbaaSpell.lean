/- The contracts of wire.isWidth and wire.spell in the seat Ytmnmfbfjlafgbaa. No statement is proved here. -/
import Derived.Test.YtmnmfbfjlafgbaaChecked
import Derived.WalkKit
import Derived.Handy
import Derived.KernelRfl
import Derived.Test.YtmnmfbfjlafgbaaMath
namespace Go.Proofs.Ytmnmfbfjlafgbaa
open Go.RowKit

theorem isWidth_any (k : Int) (w : World) : Calls Try.prog 19 #[.int .i64 k] w fun e w' => e = .returned (.bool (wide k)) ∧ w = w' := by
  by_cases h1 : k = 1
  · subst h1
    go_enter Try.func19, Try.ntmps19
    go_wp2
    go_ret
    exact ⟨rfl, rfl⟩
  by_cases h2 : k = 2
  · subst h2
    go_enter Try.func19, Try.ntmps19
    go_wp2
    go_ret
    exact ⟨rfl, rfl⟩
  by_cases h3 : k = 4
  · subst h3
    go_enter Try.func19, Try.ntmps19
    go_wp2
    go_ret
    exact ⟨rfl, rfl⟩
  by_cases h4 : k = 8
  · subst h4
    go_enter Try.func19, Try.ntmps19
    go_wp2
    go_ret
    exact ⟨rfl, rfl⟩
  have e1 : (k == 1) = false := by simpa using h1
  have e2 : (k == 2) = false := by simpa using h2
  have e3 : (k == 4) = false := by simpa using h3
  have e4 : (k == 8) = false := by simpa using h4
  have hw : wide k = false := by simp [wide, e1, e2, e3, e4]
  rw [hw]
  clear h1 h2 h3 h4 hw
  go_enter Try.func19, Try.ntmps19
  go_wp2
  go_ret
  exact ⟨rfl, rfl⟩
theorem isWidth_yes {k : Int} (h : wide k = true) (w : World) : Calls Try.prog 19 #[.int .i64 k] w fun e w' => e = .returned (.bool true) ∧ w = w' := h ▸ isWidth_any k w
theorem isWidth_no {k : Int} (h : wide k = false) (w : World) : Calls Try.prog 19 #[.int .i64 k] w fun e w' => e = .returned (.bool false) ∧ w = w' := h ▸ isWidth_any k w

set_option maxHeartbeats 4000000 in
theorem spell_fine (n k P : Int) (w : World) (hk : Pow k P) (h0 : 0 ≤ n) (hm : n ≤ 9223372036854775807) (hc : n < P) :
    Calls Try.prog 20 #[.int .i64 n, .int .i64 k] w fun e w' => e = .returned (.tuple #[.agg #[.int .u8 (n % 256), .int .u8 (n / 256 % 256), .int .u8 (n / 65536 % 256), .int .u8 (n / 16777216 % 256), .int .u8 (n / 4294967296 % 256), .int .u8 (n / 1099511627776 % 256), .int .u8 (n / 281474976710656 % 256), .int .u8 (n / 72057594037927936 % 256)], .int .i64 0]) ∧ Below w.heap.size w w' := by
  rcases hk with ⟨rfl, rfl⟩ | ⟨rfl, rfl⟩ | ⟨rfl, rfl⟩ | ⟨rfl, rfl⟩
  · have hg : (n / 256 != 0) = false := by simp; omega
    clear hc hm
    go_enter Try.func20, Try.ntmps20
    go_wp2
    refine wp_loop_rounds 9 ?_
    iterate 9 (rw [rounds_succ]; go_wp2)
    exact bodyPost_ret (by simp [results, Try.results20, go_sem]) rfl ⟨rfl, ((Below.refl _ _).alloc (Nat.le_refl _) _).alloc (by simp) _⟩
  · have hg : (n / 65536 != 0) = false := by simp; omega
    clear hc hm
    go_enter Try.func20, Try.ntmps20
    go_wp2
    refine wp_loop_rounds 9 ?_
    iterate 9 (rw [rounds_succ]; go_wp2)
    exact bodyPost_ret (by simp [results, Try.results20, go_sem]) rfl ⟨rfl, ((Below.refl _ _).alloc (Nat.le_refl _) _).alloc (by simp) _⟩
  · have hg : (n / 4294967296 != 0) = false := by simp; omega
    clear hc hm
    go_enter Try.func20, Try.ntmps20
    go_wp2
    refine wp_loop_rounds 9 ?_
    iterate 9 (rw [rounds_succ]; go_wp2)
    exact bodyPost_ret (by simp [results, Try.results20, go_sem]) rfl ⟨rfl, ((Below.refl _ _).alloc (Nat.le_refl _) _).alloc (by simp) _⟩
  · have hg : (n / 18446744073709551616 != 0) = false := by simp; omega
    clear hc hm
    go_enter Try.func20, Try.ntmps20
    go_wp2
    refine wp_loop_rounds 9 ?_
    iterate 9 (rw [rounds_succ]; go_wp2)
    exact bodyPost_ret (by simp [results, Try.results20, go_sem]) rfl ⟨rfl, ((Below.refl _ _).alloc (Nat.le_refl _) _).alloc (by simp) _⟩
/-- What is below 0, or needs more bytes. -/
theorem spell_bad (n k P : Int) (w : World) (hk : Pow k P) (hm : n ≤ 9223372036854775807) (hc : ¬ (0 ≤ n ∧ n < P)) :
    Calls Try.prog 20 #[.int .i64 n, .int .i64 k] w fun e w' => e = .returned (.tuple #[.agg #[.int .u8 0, .int .u8 0, .int .u8 0, .int .u8 0, .int .u8 0, .int .u8 0, .int .u8 0, .int .u8 0], .int .i64 20]) ∧ Below w.heap.size w w' := by
  by_cases h0 : n < 0
  · have hd : decide (n < 0) = true := by simpa using h0
    clear hc
    rcases hk with ⟨rfl, rfl⟩ | ⟨rfl, rfl⟩ | ⟨rfl, rfl⟩ | ⟨rfl, rfl⟩
    all_goals
      go_enter Try.func20, Try.ntmps20
      go_wp2
      exact bodyPost_ret (by simp [results, Try.results20, go_sem]) rfl ⟨rfl, ((Below.refl _ _).alloc (Nat.le_refl _) _).alloc (by simp) _⟩
  · have h1 : 0 ≤ n := by omega
    have hd : decide (n < 0) = false := by simpa using h0
    rcases hk with ⟨rfl, rfl⟩ | ⟨rfl, rfl⟩ | ⟨rfl, rfl⟩ | ⟨rfl, rfl⟩
    · have hg : (n / 256 != 0) = true := by simp; omega
      clear hc h0
      go_enter Try.func20, Try.ntmps20
      go_wp2
      exact bodyPost_ret (by simp [results, Try.results20, go_sem]) rfl ⟨rfl, ((Below.refl _ _).alloc (Nat.le_refl _) _).alloc (by simp) _⟩
    · have hg : (n / 65536 != 0) = true := by simp; omega
      clear hc h0
      go_enter Try.func20, Try.ntmps20
      go_wp2
      exact bodyPost_ret (by simp [results, Try.results20, go_sem]) rfl ⟨rfl, ((Below.refl _ _).alloc (Nat.le_refl _) _).alloc (by simp) _⟩
    · have hg : (n / 4294967296 != 0) = true := by simp; omega
      clear hc h0
      go_enter Try.func20, Try.ntmps20
      go_wp2
      exact bodyPost_ret (by simp [results, Try.results20, go_sem]) rfl ⟨rfl, ((Below.refl _ _).alloc (Nat.le_refl _) _).alloc (by simp) _⟩
    · exfalso; omega
end Go.Proofs.Ytmnmfbfjlafgbaa
