/- The walk of the law EdfAlways, in the seat YtohgdeddepfanaaDoor (printed by edf/mk_laws.py). No statement is proved here. -/
import Derived.Test.YtohgdeddepfanaaDoorEdfAwake
set_option linter.unusedVariables false
set_option linter.unusedSimpArgs false
namespace Go.Proofs.YtohgdeddepfanaaDoor
open Go Go.RowKit

set_option maxRecDepth 100000 in
set_option maxHeartbeats 32000000 in
theorem law_EdfAlways {A : Option Addr} {n c : Nat} {es : List Shp} (t : Int) (w : World) (hT : DTab w) (hn : es.length = n) (hS : Shps w w.heap.size A es) (hA : A = none → n = 0 ∧ c = 0) :
    Calls Tryd.prog 5 #[.slice A n c, .int .i64 t] w fun e w' => e = .returned (.bool true) ∧ Below w.heap.size w w' := by
  have TT := Lib.hid (fun W (b : Below w.heap.size w W) => (hT.via b : DTab W))
  have AW := Lib.hid (fun W (b : Below w.heap.size w W) => awake15_any W (TT.out W b))
  have HI := Lib.hid (Below.refl w.heap.size w)
  by_cases hl20 : n ≤ 20
  · have hl : n ≤ 1000 := by omega
    have OW := Lib.hid (fun W (b : Below w.heap.size w W) => own15n (c := c) W hn hl (hS.via b) hA)
    by_cases hF : FitE es
    · have KF := Lib.hid (fun A1 c1 W (b : Below w.heap.size w W) (h2 : Shps W W.heap.size A1 es) => efits_any (c := c1) true ⟨fun _ => hF, fun _ => rfl⟩ W (hT.via b) hn hl h2)
      by_cases h0 : t < 1
      · clear hF hS hA hT hn
        go_enter Tryd.func5, Tryd.ntmps5
        go_wp2_with fail
        refine (AW.out _ HI.out).mono ?_
        rintro e w59 ⟨rfl, b⟩
        have HI := Lib.hid (HI.out.trans (b.mono HI.out.size))
        clear b
        go_wp2_with fail
        refine (OW.out _ HI.out).mono ?_
        rintro e w60 ⟨A1, c1, rfl, ho, b⟩
        have HO := Lib.hid ho
        have HI := Lib.hid (HI.out.trans (b.mono HI.out.size))
        clear b ho
        go_wp2_with fail
        refine (KF.out _ _ _ HI.out HO.out.shps).mono ?_
        rintro e w61 ⟨rfl, b⟩
        have HI := Lib.hid (HI.out.trans (b.mono HI.out.size))
        clear b HO
        go_wp2_with fail
        refine (AW.out _ HI.out).mono ?_
        rintro e w62 ⟨rfl, b⟩
        have HI := Lib.hid (HI.out.trans (b.mono HI.out.size))
        clear b
        go_wp2
        go_ret
        exact ⟨rfl, HI.out⟩
      · by_cases h1 : 1099511627775 < t
        · clear hF hS hA hT hn
          go_enter Tryd.func5, Tryd.ntmps5
          go_wp2_with fail
          refine (AW.out _ HI.out).mono ?_
          rintro e w63 ⟨rfl, b⟩
          have HI := Lib.hid (HI.out.trans (b.mono HI.out.size))
          clear b
          go_wp2_with fail
          refine (OW.out _ HI.out).mono ?_
          rintro e w64 ⟨A1, c1, rfl, ho, b⟩
          have HO := Lib.hid ho
          have HI := Lib.hid (HI.out.trans (b.mono HI.out.size))
          clear b ho
          go_wp2_with fail
          refine (KF.out _ _ _ HI.out HO.out.shps).mono ?_
          rintro e w65 ⟨rfl, b⟩
          have HI := Lib.hid (HI.out.trans (b.mono HI.out.size))
          clear b HO
          go_wp2_with fail
          refine (AW.out _ HI.out).mono ?_
          rintro e w66 ⟨rfl, b⟩
          have HI := Lib.hid (HI.out.trans (b.mono HI.out.size))
          clear b
          go_wp2
          go_ret
          exact ⟨rfl, HI.out⟩
        · have KD := Lib.hid (fun A1 c1 W (b : Below w.heap.size w W) (h2 : Shps W W.heap.size A1 es) => eDemand_any (c := c1) t W (hT.via b) hn hl h2)
          have KB := Lib.hid (fun A1 c1 W (b : Below w.heap.size w W) (h2 : Shps W W.heap.size A1 es) => eBlock_any (c := c1) t W (hT.via b) hn hl h2)
          have ea : atE es t = 0 := atE_may hF.1 (by omega) (by omega)
          have ed : demV es t = demE es t := if_pos ea
          have eb : blkV es t = blkE es t := if_pos ea
          rw [ea, ed] at KD
          rw [ea, eb] at KB
          have hA2 := fit_always hF (t := t) (by omega)
          obtain ⟨d0, d1⟩ := demE_le hF.1 (t := t) (by omega)
          obtain ⟨b0, b1⟩ := blkE_le hF.1 (t := t)
          unfold AtE at hA2
          obtain ⟨dv, hdv⟩ : ∃ x, x = demE es t := ⟨_, rfl⟩
          obtain ⟨bv, hbv⟩ : ∃ x, x = blkE es t := ⟨_, rfl⟩
          rw [← hdv] at KD hA2 d0 d1
          rw [← hbv] at KB hA2 b0 b1
          clear ea ed eb hF hdv hbv hS hA hT hn
          by_cases hz : dv = 0
          · subst hz
            go_enter Tryd.func5, Tryd.ntmps5
            go_wp2_with fail
            refine (AW.out _ HI.out).mono ?_
            rintro e w67 ⟨rfl, b⟩
            have HI := Lib.hid (HI.out.trans (b.mono HI.out.size))
            clear b
            go_wp2_with fail
            refine (OW.out _ HI.out).mono ?_
            rintro e w68 ⟨A1, c1, rfl, ho, b⟩
            have HO := Lib.hid ho
            have HI := Lib.hid (HI.out.trans (b.mono HI.out.size))
            clear b ho
            go_wp2_with fail
            refine (KF.out _ _ _ HI.out HO.out.shps).mono ?_
            rintro e w69 ⟨rfl, b⟩
            have HI := Lib.hid (HI.out.trans (b.mono HI.out.size))
            clear b HO
            go_wp2_with fail
            refine (OW.out _ HI.out).mono ?_
            rintro e w70 ⟨A1, c1, rfl, ho, b⟩
            have HO := Lib.hid ho
            have HI := Lib.hid (HI.out.trans (b.mono HI.out.size))
            clear b ho
            go_wp2_with fail
            refine (KD.out _ _ _ HI.out HO.out.shps).mono ?_
            rintro e w71 ⟨rfl, b⟩
            have HI := Lib.hid (HI.out.trans (b.mono HI.out.size))
            clear b HO
            go_wp2_with fail
            refine (OW.out _ HI.out).mono ?_
            rintro e w72 ⟨A1, c1, rfl, ho, b⟩
            have HO := Lib.hid ho
            have HI := Lib.hid (HI.out.trans (b.mono HI.out.size))
            clear b ho
            go_wp2_with fail
            refine (KB.out _ _ _ HI.out HO.out.shps).mono ?_
            rintro e w73 ⟨rfl, b⟩
            have HI := Lib.hid (HI.out.trans (b.mono HI.out.size))
            clear b HO
            go_wp2
            go_ret
            exact ⟨rfl, HI.out⟩
          · have hz2 : (dv == 0) = false := by simpa using hz
            have hle : dv + bv ≤ t := by omega
            clear hA2
            go_enter Tryd.func5, Tryd.ntmps5
            go_wp2_with fail
            refine (AW.out _ HI.out).mono ?_
            rintro e w74 ⟨rfl, b⟩
            have HI := Lib.hid (HI.out.trans (b.mono HI.out.size))
            clear b
            go_wp2_with fail
            refine (OW.out _ HI.out).mono ?_
            rintro e w75 ⟨A1, c1, rfl, ho, b⟩
            have HO := Lib.hid ho
            have HI := Lib.hid (HI.out.trans (b.mono HI.out.size))
            clear b ho
            go_wp2_with fail
            refine (KF.out _ _ _ HI.out HO.out.shps).mono ?_
            rintro e w76 ⟨rfl, b⟩
            have HI := Lib.hid (HI.out.trans (b.mono HI.out.size))
            clear b HO
            go_wp2_with fail
            refine (OW.out _ HI.out).mono ?_
            rintro e w77 ⟨A1, c1, rfl, ho, b⟩
            have HO := Lib.hid ho
            have HI := Lib.hid (HI.out.trans (b.mono HI.out.size))
            clear b ho
            go_wp2_with fail
            refine (KD.out _ _ _ HI.out HO.out.shps).mono ?_
            rintro e w78 ⟨rfl, b⟩
            have HI := Lib.hid (HI.out.trans (b.mono HI.out.size))
            clear b HO
            go_wp2_with fail
            refine (OW.out _ HI.out).mono ?_
            rintro e w79 ⟨A1, c1, rfl, ho, b⟩
            have HO := Lib.hid ho
            have HI := Lib.hid (HI.out.trans (b.mono HI.out.size))
            clear b ho
            go_wp2_with fail
            refine (KB.out _ _ _ HI.out HO.out.shps).mono ?_
            rintro e w80 ⟨rfl, b⟩
            have HI := Lib.hid (HI.out.trans (b.mono HI.out.size))
            clear b HO
            go_wp2
            go_ret
            exact ⟨rfl, HI.out⟩
    · have KF := Lib.hid (fun A1 c1 W (b : Below w.heap.size w W) (h2 : Shps W W.heap.size A1 es) => efits_any (c := c1) false ⟨fun q => Bool.noConfusion q, fun q => absurd q hF⟩ W (hT.via b) hn hl h2)
      clear hF hS hA hT hn
      go_enter Tryd.func5, Tryd.ntmps5
      go_wp2_with fail
      refine (AW.out _ HI.out).mono ?_
      rintro e w81 ⟨rfl, b⟩
      have HI := Lib.hid (HI.out.trans (b.mono HI.out.size))
      clear b
      go_wp2_with fail
      refine (OW.out _ HI.out).mono ?_
      rintro e w82 ⟨A1, c1, rfl, ho, b⟩
      have HO := Lib.hid ho
      have HI := Lib.hid (HI.out.trans (b.mono HI.out.size))
      clear b ho
      go_wp2_with fail
      refine (KF.out _ _ _ HI.out HO.out.shps).mono ?_
      rintro e w83 ⟨rfl, b⟩
      have HI := Lib.hid (HI.out.trans (b.mono HI.out.size))
      clear b HO
      go_wp2_with fail
      refine (AW.out _ HI.out).mono ?_
      rintro e w84 ⟨rfl, b⟩
      have HI := Lib.hid (HI.out.trans (b.mono HI.out.size))
      clear b
      go_wp2
      go_ret
      exact ⟨rfl, HI.out⟩
  · clear hS hA hT hn
    have hl : 20 < n := by omega
    go_enter Tryd.func5, Tryd.ntmps5
    go_wp2_with fail
    refine (AW.out _ HI.out).mono ?_
    rintro e w85 ⟨rfl, b⟩
    have HI := Lib.hid (HI.out.trans (b.mono HI.out.size))
    clear b
    go_wp2_with fail
    refine (AW.out _ HI.out).mono ?_
    rintro e w86 ⟨rfl, b⟩
    have HI := Lib.hid (HI.out.trans (b.mono HI.out.size))
    clear b
    go_wp2
    go_ret
    exact ⟨rfl, HI.out⟩
end Go.Proofs.YtohgdeddepfanaaDoor
