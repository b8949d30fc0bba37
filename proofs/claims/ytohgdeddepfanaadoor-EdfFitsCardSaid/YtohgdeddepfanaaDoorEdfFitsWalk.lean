/- The walk of the law EdfFits, in the seat YtohgdeddepfanaaDoor (printed by edf/mk_laws.py). No statement is proved here. -/
import Derived.Test.YtohgdeddepfanaaDoorEdfAwake
set_option linter.unusedVariables false
set_option linter.unusedSimpArgs false
namespace Go.Proofs.YtohgdeddepfanaaDoor
open Go Go.RowKit

set_option maxRecDepth 100000 in
set_option maxHeartbeats 32000000 in
theorem law_EdfFits {A : Option Addr} {n c : Nat} {es : List Shp} (w : World) (hT : DTab w) (hn : es.length = n) (hS : Shps w w.heap.size A es) (hA : A = none → n = 0 ∧ c = 0) :
    Calls Tryd.prog 4 #[.slice A n c] w fun e w' => e = .returned (.bool true) ∧ Below w.heap.size w w' := by
  have TT := Lib.hid (fun W (b : Below w.heap.size w W) => (hT.via b : DTab W))
  have AW := Lib.hid (fun W (b : Below w.heap.size w W) => awake15_any W (TT.out W b))
  have HI := Lib.hid (Below.refl w.heap.size w)
  by_cases hl20 : n ≤ 20
  · have hl : n ≤ 1000 := by omega
    obtain ⟨r, hr⟩ := fitB es
    have OW := Lib.hid (fun W (b : Below w.heap.size w W) => own15n (c := c) W hn hl (hS.via b) hA)
    have KF := Lib.hid (fun A1 c1 W (b : Below w.heap.size w W) (h2 : Shps W W.heap.size A1 es) => efits_any (c := c1) r hr W (hT.via b) hn hl h2)
    have RF := Lib.hid (fun W (b : Below w.heap.size w W) => rfits_any (c := c) r hr W hn hl (hS.via b))
    clear hr hS hA hT hn
    go_enter Tryd.func4, Tryd.ntmps4
    go_wp2_with fail
    refine (AW.out _ HI.out).mono ?_
    rintro e w53 ⟨rfl, b⟩
    have HI := Lib.hid (HI.out.trans (b.mono HI.out.size))
    clear b
    go_wp2_with fail
    refine (OW.out _ HI.out).mono ?_
    rintro e w54 ⟨A1, c1, rfl, ho, b⟩
    have HO := Lib.hid ho
    have HI := Lib.hid (HI.out.trans (b.mono HI.out.size))
    clear b ho
    go_wp2_with fail
    refine (KF.out _ _ _ HI.out HO.out.shps).mono ?_
    rintro e w55 ⟨rfl, b⟩
    have HI := Lib.hid (HI.out.trans (b.mono HI.out.size))
    clear b HO
    go_wp2_with fail
    refine (RF.out _ HI.out).mono ?_
    rintro e w56 ⟨rfl, b⟩
    have HI := Lib.hid (HI.out.trans (b.mono HI.out.size))
    clear b
    go_wp2
    go_ret
    exact ⟨rfl, HI.out⟩
  · clear hS hA hT hn
    have hl : 20 < n := by omega
    go_enter Tryd.func4, Tryd.ntmps4
    go_wp2_with fail
    refine (AW.out _ HI.out).mono ?_
    rintro e w57 ⟨rfl, b⟩
    have HI := Lib.hid (HI.out.trans (b.mono HI.out.size))
    clear b
    go_wp2_with fail
    refine (AW.out _ HI.out).mono ?_
    rintro e w58 ⟨rfl, b⟩
    have HI := Lib.hid (HI.out.trans (b.mono HI.out.size))
    clear b
    go_wp2
    go_ret
    exact ⟨rfl, HI.out⟩
end Go.Proofs.YtohgdeddepfanaaDoor
