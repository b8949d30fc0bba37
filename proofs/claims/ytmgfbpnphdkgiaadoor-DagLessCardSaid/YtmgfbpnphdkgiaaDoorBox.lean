/- Words for memory in the seat YtmgfbpnphdkgiaaDoor: a graph that lies in a box of the call's own, all else as it was. No statement is proved here. -/
import Derived.Test.YtmgfbpnphdkgiaaDoorChecksWalk
import Derived.Deep.Cut
import Derived.Deep.CutRange
set_option linter.unusedVariables false
namespace Go.Proofs.YtmgfbpnphdkgiaaDoor
open Go.RowKit

theorem i64_bounds {n : Int} (h : (Lit.int .i64 n).wf = true) : -9223372036854775808 ≤ n ∧ n ≤ 9223372036854775807 := by
  have e1 : IntKind.i64.min = -9223372036854775808 := by decide
  have e2 : IntKind.i64.max = 9223372036854775807 := by decide
  simp [Lit.wf, e1, e2] at h
  omega
section
variable {A : Option Addr} {n c : Nat} {F : Option Addr} {m d : Nat} {W : List Int} {E : List (Int × Int)}
structure Bx1 (w : World) (A : Option Addr) (n c : Nat) (F : Option Addr) (m d : Nat) (W : List Int) (E : List (Int × Int)) (w' : World) : Prop where
  bel : Below w.heap.size w w'
  p0 : w'.cell? ⟨w.heap.size, 0, none⟩ = some (.slice A n c)
  p1 : w'.cell? ⟨w.heap.size, 1, none⟩ = some (.slice F m d)
  g : IsG w' A n c F m d W E
theorem Bx1.next {w w1 w2 : World} (h : Bx1 w A n c F m d W E w1) (hb : Below w1.heap.size w1 w2) : Bx1 w A n c F m d W E w2 :=
  ⟨h.bel.trans (hb.mono h.bel.size), (hb.cell (World.block_lt_of_cell? _ _ h.p0)).trans h.p0, (hb.cell (World.block_lt_of_cell? _ _ h.p1)).trans h.p1, h.g.below hb⟩
theorem Bx1.start {w : World} (h : IsG w A n c F m d W E) : Bx1 w A n c F m d W E (w.alloc (.cells #[.slice A n c, .slice F m d] 25)) :=
  ⟨below_alloc _, by rw [World.cell?_alloc_at _ _ _ _ rfl]; rfl, by rw [World.cell?_alloc_at _ _ _ _ rfl]; rfl, h.below (below_alloc _)⟩
theorem Bx1.cells {w w' : World} (h : Bx1 w A n c F m d W E w') : w'.cell? ⟨w.heap.size, 0, none⟩ = some (.slice A n c) ∧ w'.cell? ⟨w.heap.size, 1, none⟩ = some (.slice F m d) := ⟨h.p0, h.p1⟩
theorem b1_g {p : Prop} {w x : World} (h : p ∧ Hid (Bx1 w A n c F m d W E x)) : IsG x A n c F m d W E := h.2.out.g
theorem b1_n {p : Prop} {w x y : World} (h : p ∧ Hid (Bx1 w A n c F m d W E x)) (b : Below x.heap.size x y) : Bx1 w A n c F m d W E y := h.2.out.next b
structure Cx1 (w : World) (A : Option Addr) (n c : Nat) (F : Option Addr) (m d : Nat) (w' : World) : Prop where
  bel : Below w.heap.size w w'
  p0 : w'.cell? ⟨w.heap.size, 0, none⟩ = some (.slice A n c)
  p1 : w'.cell? ⟨w.heap.size, 1, none⟩ = some (.slice F m d)
theorem Cx1.next {w w1 w2 : World} (h : Cx1 w A n c F m d w1) (hb : Below w1.heap.size w1 w2) : Cx1 w A n c F m d w2 :=
  ⟨h.bel.trans (hb.mono h.bel.size), (hb.cell (World.block_lt_of_cell? _ _ h.p0)).trans h.p0, (hb.cell (World.block_lt_of_cell? _ _ h.p1)).trans h.p1⟩
theorem Cx1.start (w : World) (A : Option Addr) (n c : Nat) (F : Option Addr) (m d : Nat) : Cx1 w A n c F m d (w.alloc (.cells #[.slice A n c, .slice F m d] 25)) :=
  ⟨below_alloc _, by rw [World.cell?_alloc_at _ _ _ _ rfl]; rfl, by rw [World.cell?_alloc_at _ _ _ _ rfl]; rfl⟩
theorem Cx1.cells {w w' : World} (h : Cx1 w A n c F m d w') : w'.cell? ⟨w.heap.size, 0, none⟩ = some (.slice A n c) ∧ w'.cell? ⟨w.heap.size, 1, none⟩ = some (.slice F m d) := ⟨h.p0, h.p1⟩
end
section
variable {A : Option Addr} {n c : Nat} {F : Option Addr} {m d : Nat} {W : List Int} {E : List (Int × Int)} {w : World}
theorem rtotal_g (h : IsG w A n c F m d W E) (hM : May W E) :
    Calls Tryd.prog 26 #[.agg #[.slice A n c, .slice F m d]] w fun e w' => e = .returned (.int .i64 W.sum) ∧ Below w.heap.size w w' :=
  total_any A F n c m d W w h.hn (by have := h.ln; omega) hM.work h.ints
theorem rorder_g (h : IsG w A n c F m d W E) (hM : May W E) : Calls Tryd.prog 25 #[.agg #[.slice A n c, .slice F m d]] w (GotInts (nums (ord W.length E)) w) := by
  have := rorder_any A F n c m d E w (by have := h.ln; omega) h.hm (by have := h.lm; omega) h.pairs
  rwa [← h.hn] at this ⊢
theorem rlong_g (h : IsG w A n c F m d W E) (hM : May W E) :
    Calls Tryd.prog 27 #[.agg #[.slice A n c, .slice F m d]] w fun e w' => e = .returned (.int .i64 (most (farK W E W.length))) ∧ Below w.heap.size w w' := by
  have h1 := rlong_any A F n c m d W E w h.hn (by have := h.ln; omega) h.hm (by have := h.lm; omega) hM.work (by rw [← h.hn]; exact hM.fits) hM.acyc h.ints h.pairs (fun e => (h.hA e).2)
  rwa [← h.hn] at h1 ⊢
theorem rpreds_g (h : IsG w A n c F m d W E) (x : Int) : Calls Tryd.prog 28 #[.agg #[.slice A n c, .slice F m d], .int .i64 x] w (GotInts (predsL W.length E x) w) := by
  have := preds_any A F n c m d E x w (by have := h.ln; omega) h.hm (by have := h.lm; omega) h.pairs
  rwa [← h.hn] at this ⊢
theorem rsuccs_g (h : IsG w A n c F m d W E) (x : Int) : Calls Tryd.prog 29 #[.agg #[.slice A n c, .slice F m d], .int .i64 x] w (GotInts (succsL W.length E x) w) := by
  have := succs_any A F n c m d E x w (by have := h.ln; omega) h.hm (by have := h.lm; omega) h.pairs
  rwa [← h.hn] at this ⊢
theorem ints_eq {A1 A2 : Option Addr} {c1 c2 k : Nat} {xs : List Int} (hk : xs.length = k) (hl : k ≤ 900) (h1 : Ints w w.heap.size A1 xs) (h2 : Ints w w.heap.size A2 xs) :
    Calls Tryd.prog 24 #[.slice A1 k c1, .slice A2 k c2] w fun e w' => e = .returned (.bool true) ∧ Below w.heap.size w w' := by
  subst hk
  refine (ints_any w.heap.size A1 A2 c1 c2 xs xs w (by omega) (by omega) h1 h2).mono ?_
  rintro e w' ⟨he, N, rfl⟩
  exact ⟨by rw [he, decide_eq_true rfl], below_drewN (Below.refl _ _) N⟩
end
end Go.Proofs.YtmgfbpnphdkgiaaDoor
