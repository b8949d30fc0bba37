/- What layer 12's rows hand over: a deque, a taker, in the seat YtnlempddoiidiaaDoor. No statement is proved here. -/
import Derived.Test.YtnlempddoiidiaaDoorZM1
import Derived.Test.YtnlempddoiidiaaDoorZM3
import Derived.Lib.SmallJoins
set_option linter.unusedSimpArgs false
set_option linter.unusedVariables false
namespace Go.Proofs.YtnlempddoiidiaaDoor
open Go.ChangeShapes Go.WideShapes Go.ChangeAt Go.RowKit Go.Joins Go.Deep

/-- A ring that came in, of whatever length. -/
structure InD (w : World) (A : Option Addr) (n c : Nat) (R : List Int) : Prop where
  hn : R.length = n
  big : n ≤ 9223372036854775807
  ints : Ints w w.heap.size A R
  hA : A = none → n = 0 ∧ c = 0
theorem InD.isQ {w : World} {A : Option Addr} {n c : Nat} {R : List Int} (h : InD w A n c R) : n ≤ 130 → IsQ w A n c R := fun hn => ⟨h.hn, by omega, h.ints, h.hA⟩
section
variable {H : Type} {enc : TypeId × Value → H} {W : World}
set_option maxRecDepth 100000 in
theorem open_intsD {fuel : Nat} {cs : List Value} {x : DataW H × List MemPlace} (h1 : DataW.trod enc Tryd.prog W 0 (fun _ => true) true fuel 22 cs = some x) :
    ∃ A n c, ∃ zs : List Int, cs = [.slice A n c] ∧ zs.length = n ∧ Ints W W.heap.size A zs ∧ n ≤ 9223372036854775807 ∧ n ≤ c ∧ (A = none → n = 0 ∧ c = 0) := by
  obtain ⟨A, n, c, zs, rfl, hrow⟩ : ∃ A n c zs, cs = [.slice A n c] ∧ IsRow .i64 W A n c zs := by
    rcases open_ints Tryd.underlying22 Tryd.underlying3 (by kernel_rfl) h1 with ⟨hcs, _⟩ | ⟨x, l, c, zs, hcs, _, hl, hm, hz, _, hcell, hwz⟩
    · exact ⟨none, 0, 0, [], hcs, .inl ⟨rfl, rfl, rfl, rfl⟩⟩
    · exact ⟨_, _, _, zs, hcs, .inr ⟨_, rfl, hl, hm, by simpa using hz, hcell, hwz⟩⟩
  obtain ⟨r1, r2, r3, r4, r5⟩ := row_ints hrow
  refine ⟨A, n, c, zs.take n, rfl, r2, r1, r4, r5, fun e => ?_⟩
  have := r3 e
  omega
set_option maxRecDepth 100000 in
theorem open_deque {base : Nat} {v : Value} {d : DataW H} {p : List MemPlace}
    (hv : Value.okWide Tryd.prog W .any base 24 v) (h : DataW.Trod enc Tryd.prog W 0 (fun _ => true) true 24 v d p) :
    ∃ A n c R T B, v = .agg #[.slice A n c, .int .i64 T, .int .i64 B] ∧ InD W A n c R := by
  obtain ⟨v0, v1, v2, y0, y1, y2, k, rfl, _, _, h0, h1, h2⟩ := open_agg3 Tryd.underlying24 (by kernel_rfl) (by kernel_rfl) hv h
  obtain ⟨A, n, c, zs, e0, l0, m0, b0, s0, w0⟩ := open_intsD h0
  obtain ⟨n1, e1, _, _⟩ := DataW.trod_int Tryd.underlying3 h1
  obtain ⟨n2, e2, _, _⟩ := DataW.trod_int Tryd.underlying3 h2
  simp at e0 e1 e2
  subst e0 e1 e2
  exact ⟨A, n, c, zs, n1, n2, rfl, l0, b0, m0, w0⟩
theorem array6 {α : Type} {cs : Array α} (h : cs.size = 6) : ∃ c0 c1 c2 c3 c4 c5, cs = #[c0, c1, c2, c3, c4, c5] := by
  obtain ⟨l⟩ := cs
  match l, h with
  | [c0, c1, c2, c3, c4, c5], _ => exact ⟨c0, c1, c2, c3, c4, c5, rfl⟩
set_option maxRecDepth 100000 in
theorem open_taker {base : Nat} {v : Value} {d : DataW H} {p : List MemPlace}
    (hv : Value.okWide Tryd.prog W .any base 27 v) (h : DataW.Trod enc Tryd.prog W 0 (fun _ => true) true 27 v d p) :
    ∃ t : Tkr, v = vT t := by
  obtain ⟨cs, rfl, hsz⟩ := okWide_struct Tryd.underlying27 hv
  obtain ⟨c0, c1, c2, c3, c4, c5, rfl⟩ := array6 (hsz.trans (by kernel_rfl))
  obtain ⟨fuel, hf⟩ := h
  obtain ⟨xs, k, _, _, _, hlen, hx⟩ := DataW.trod_struct Tryd.underlying27 hf
  match xs, hlen with
  | [y0, y1, y2, y3, y4, y5], _ =>
    have cb : Tryd.prog.cellsOf 4 = 1 := by kernel_rfl
    have ci : Tryd.prog.cellsOf 3 = 1 := by kernel_rfl
    have ce : Tryd.prog.cellsOf 25 = 1 := by kernel_rfl
    have ec : (Value.agg #[c0, c1, c2, c3, c4, c5]).cells.toList = [c0, c1, c2, c3, c4, c5] := rfl
    have h0 := hx 0 _ rfl
    have h1 := hx 1 _ rfl
    have h2 := hx 2 _ rfl
    have h3 := hx 3 _ rfl
    have h4 := hx 4 _ rfl
    have h5 := hx 5 _ rfl
    simp only [ec] at h0 h1 h2 h3 h4 h5
    obtain ⟨b0, e0, _⟩ := DataW.trod_bool (x := y0) Tryd.underlying4 h0
    obtain ⟨n1, e1, _, _⟩ := DataW.trod_int (x := y1) Tryd.underlying3 h1
    obtain ⟨n2, e2, _, _⟩ := DataW.trod_int (x := y2) Tryd.underlying3 h2
    obtain ⟨n3, e3, _, _⟩ := DataW.trod_int (x := y3) Tryd.underlying3 h3
    obtain ⟨n4, e4, _, _⟩ := DataW.trod_int (x := y4) Tryd.underlying3 h4
    obtain ⟨n5, e5, _, _⟩ := DataW.trod_int (x := y5) Tryd.underlying25 h5
    simp [cb, ci, ce] at e0 e1 e2 e3 e4 e5
    subst e0 e1 e2 e3 e4 e5
    exact ⟨⟨b0, n1, n2, n3, n4, n5⟩, rfl⟩
end
end Go.Proofs.YtnlempddoiidiaaDoor
