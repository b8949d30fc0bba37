/- What layer 14's rows hand over: a shape, in the seat YtohgdeddepfanaaDoor. No statement is proved here. -/
import Derived.Test.YtohgdeddepfanaaDoorDescLaid
import Derived.Test.YtohgdeddepfanaaDoorPlain
import Derived.Test.YtohgdeddepfanaaDoorClassMath
import Derived.Lib.SmallJoins
set_option linter.unusedVariables false
namespace Go.Proofs.YtohgdeddepfanaaDoor
open Go.ChangeShapes Go.WideShapes Go.ChangeAt Go.RowKit Go.Joins Go.Deep

theorem array5 {cs : Array Value} (h : cs.size = 5) : ∃ c0 c1 c2 c3 c4, cs = #[c0, c1, c2, c3, c4] := by
  obtain ⟨l⟩ := cs
  match l, h with
  | [c0, c1, c2, c3, c4], _ => exact ⟨c0, c1, c2, c3, c4, rfl⟩
section
variable {H : Type} {enc : TypeId × Value → H} {W : World}
set_option maxRecDepth 100000 in
theorem open_shape {base : Nat} {v : Value} {d : DataW H} {p : List MemPlace}
    (hv : Value.okWide Tryd.prog W .any base 34 v) (h : DataW.Trod enc Tryd.prog W 0 (fun _ => true) true 34 v d p) :
    ∃ s : Shp, v = s.val := by
  obtain ⟨cs, rfl, hsz⟩ := okWide_struct Tryd.underlying34 hv
  obtain ⟨c0, c1, c2, c3, c4, rfl⟩ := array5 (hsz.trans (by kernel_rfl))
  obtain ⟨fuel, hf⟩ := h
  obtain ⟨xs, k, _, _, _, hlen, hx⟩ := DataW.trod_struct Tryd.underlying34 hf
  match xs, hlen with
  | [y0, y1, y2, y3, y4], _ =>
    have ci : Tryd.prog.cellsOf 3 = 1 := by kernel_rfl
    have ec : (Value.agg #[c0, c1, c2, c3, c4]).cells.toList = [c0, c1, c2, c3, c4] := rfl
    have h0 := hx 0 _ rfl
    have h1 := hx 1 _ rfl
    have h2 := hx 2 _ rfl
    have h3 := hx 3 _ rfl
    have h4 := hx 4 _ rfl
    simp only [ec] at h0 h1 h2 h3 h4
    obtain ⟨n0, e0, _, _⟩ := DataW.trod_int (x := y0) Tryd.underlying3 h0
    obtain ⟨n1, e1, _, _⟩ := DataW.trod_int (x := y1) Tryd.underlying3 h1
    obtain ⟨n2, e2, _, _⟩ := DataW.trod_int (x := y2) Tryd.underlying3 h2
    obtain ⟨n3, e3, _, _⟩ := DataW.trod_int (x := y3) Tryd.underlying3 h3
    obtain ⟨n4, e4, _, _⟩ := DataW.trod_int (x := y4) Tryd.underlying3 h4
    simp [ci] at e0 e1 e2 e3 e4
    subst e0 e1 e2 e3 e4
    exact ⟨⟨n0, n1, n2, n3, n4⟩, rfl⟩
end
end Go.Proofs.YtohgdeddepfanaaDoor
