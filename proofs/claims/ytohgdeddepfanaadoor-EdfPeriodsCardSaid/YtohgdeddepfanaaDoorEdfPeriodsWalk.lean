/- The walk of the law EdfPeriods, in the seat YtohgdeddepfanaaDoor (printed by edf/mk_laws.py). No statement is proved here. -/
import Derived.Test.YtohgdeddepfanaaDoorEdfAwake
set_option linter.unusedVariables false
set_option linter.unusedSimpArgs false
namespace Go.Proofs.YtohgdeddepfanaaDoor
open Go Go.RowKit

set_option maxRecDepth 100000 in
set_option maxHeartbeats 32000000 in
theorem law_EdfPeriods {A : Option Addr} {n c : Nat} {es : List Shp} (t : Int) (w : World) (hT : DTab w) (hn : es.length = n) (hS : Shps w w.heap.size A es) (hA : A = none → n = 0 ∧ c = 0) :
    Calls Tryd.prog 8 #[.slice A n c, .int .i64 t] w fun e w' => e = .returned (.bool true) ∧ Below w.heap.size w w' := by
  have TT := Lib.hid (fun W (b : Below w.heap.size w W) => (hT.via b : DTab W))
  have AW := Lib.hid (fun W (b : Below w.heap.size w W) => awake15_any W (TT.out W b))
  have HI := Lib.hid (Below.refl w.heap.size w)
  by_cases hl20 : n ≤ 20
  · have hl : n ≤ 1000 := by omega
    have OW := Lib.hid (fun W (b : Below w.heap.size w W) => own15n (c := c) W hn hl (hS.via b) hA)
    have KC := Lib.hid (fun A1 c1 W (b : Below w.heap.size w W) (h2 : Shps W W.heap.size A1 es) => echeck_any (c := c1) W (hT.via b) hn hl h2)
    by_cases hM : MayE es
    · rw [chkE_ok hM] at KC
      by_cases h0 : t < 0
      · clear hM hS hA hT hn
        go_enter Tryd.func8, Tryd.ntmps8
        go_wp2_with fail
        refine (AW.out _ HI.out).mono ?_
        rintro e w87 ⟨rfl, b⟩
        have HI := Lib.hid (HI.out.trans (b.mono HI.out.size))
        clear b
        go_wp2_with fail
        refine (OW.out _ HI.out).mono ?_
        rintro e w88 ⟨A1, c1, rfl, ho, b⟩
        have HO := Lib.hid ho
        have HI := Lib.hid (HI.out.trans (b.mono HI.out.size))
        clear b ho
        go_wp2_with fail
        refine (KC.out _ _ _ HI.out HO.out.shps).mono ?_
        rintro e w89 ⟨rfl, b⟩
        have HI := Lib.hid (HI.out.trans (b.mono HI.out.size))
        clear b HO
        go_wp2_with fail
        refine (AW.out _ HI.out).mono ?_
        rintro e w90 ⟨rfl, b⟩
        have HI := Lib.hid (HI.out.trans (b.mono HI.out.size))
        clear b
        go_wp2
        go_ret
        exact ⟨rfl, HI.out⟩
      · by_cases h1 : 1099511623679 < t
        · clear hM hS hA hT hn
          go_enter Tryd.func8, Tryd.ntmps8
          go_wp2_with fail
          refine (AW.out _ HI.out).mono ?_
          rintro e w91 ⟨rfl, b⟩
          have HI := Lib.hid (HI.out.trans (b.mono HI.out.size))
          clear b
          go_wp2_with fail
          refine (OW.out _ HI.out).mono ?_
          rintro e w92 ⟨A1, c1, rfl, ho, b⟩
          have HO := Lib.hid ho
          have HI := Lib.hid (HI.out.trans (b.mono HI.out.size))
          clear b ho
          go_wp2_with fail
          refine (KC.out _ _ _ HI.out HO.out.shps).mono ?_
          rintro e w93 ⟨rfl, b⟩
          have HI := Lib.hid (HI.out.trans (b.mono HI.out.size))
          clear b HO
          go_wp2_with fail
          refine (AW.out _ HI.out).mono ?_
          rintro e w94 ⟨rfl, b⟩
          have HI := Lib.hid (HI.out.trans (b.mono HI.out.size))
          clear b
          go_wp2
          go_ret
          exact ⟨rfl, HI.out⟩
        · obtain ⟨hh0, hh1⟩ := hor_le (L := es)
          have em := demE_more hM (t := t) (by omega)
          have bl := blkE_less hM (t := t) (u := t + horE es) (by omega)
          have bz := blkE_far hM (t := t + horE es) (by omega)
          have ea1 : atE es t = 0 := atE_may hM (by omega) (by omega)
          have ea2 : atE es (t + horE es) = 0 := atE_may hM (by omega) (by omega)
          have ea3 : atE es (horE es) = 0 := atE_may hM (by omega) (by omega)
          have KH := Lib.hid (fun A1 c1 W (b : Below w.heap.size w W) (h2 : Shps W W.heap.size A1 es) => ehor_any (c := c1) W (hT.via b) hn hl h2)
          have KD1 := Lib.hid (fun A1 c1 W (b : Below w.heap.size w W) (h2 : Shps W W.heap.size A1 es) => eDemand_any (c := c1) t W (hT.via b) hn hl h2)
          have KD2 := Lib.hid (fun A1 c1 W (b : Below w.heap.size w W) (h2 : Shps W W.heap.size A1 es) => eDemand_any (c := c1) (t + horE es) W (hT.via b) hn hl h2)
          have KD3 := Lib.hid (fun A1 c1 W (b : Below w.heap.size w W) (h2 : Shps W W.heap.size A1 es) => eDemand_any (c := c1) (horE es) W (hT.via b) hn hl h2)
          have KB1 := Lib.hid (fun A1 c1 W (b : Below w.heap.size w W) (h2 : Shps W W.heap.size A1 es) => eBlock_any (c := c1) t W (hT.via b) hn hl h2)
          have KB2 := Lib.hid (fun A1 c1 W (b : Below w.heap.size w W) (h2 : Shps W W.heap.size A1 es) => eBlock_any (c := c1) (t + horE es) W (hT.via b) hn hl h2)
          obtain ⟨d10, d11⟩ := demE_le hM (t := t) (by omega)
          obtain ⟨d30, d31⟩ := demE_le hM (t := horE es) (by omega)
          rw [ea1, show demV es t = demE es t from if_pos ea1] at KD1
          rw [ea2, show demV es (t + horE es) = demE es (t + horE es) from if_pos ea2] at KD2
          rw [ea3, show demV es (horE es) = demE es (horE es) from if_pos ea3] at KD3
          rw [ea1, show blkV es t = blkE es t from if_pos ea1] at KB1
          rw [ea2, show blkV es (t + horE es) = blkE es (t + horE es) from if_pos ea2] at KB2
          rw [em] at KD2
          rw [bz] at KB2 bl
          clear em bz ea1 ea2 ea3
          obtain ⟨hv, hhv⟩ : ∃ x, x = horE es := ⟨_, rfl⟩
          rw [← hhv] at KH KD2 KD3 KB2 hh0 hh1 d30 d31
          obtain ⟨x1, hx1⟩ : ∃ x, x = demE es t := ⟨_, rfl⟩
          obtain ⟨x3, hx3⟩ : ∃ x, x = demE es hv := ⟨_, rfl⟩
          obtain ⟨y1, hy1⟩ : ∃ x, x = blkE es t := ⟨_, rfl⟩
          rw [← hx1] at KD1 KD2 d10 d11
          rw [← hx3] at KD2 KD3 d30 d31
          rw [← hy1] at KB1 bl
          clear hx1 hx3 hy1 hhv hM hS hA hT hn
          by_cases hn0 : n = 0
          · subst hn0
            go_enter Tryd.func8, Tryd.ntmps8
            go_wp2_with fail
            refine (AW.out _ HI.out).mono ?_
            rintro e w95 ⟨rfl, b⟩
            have HI := Lib.hid (HI.out.trans (b.mono HI.out.size))
            clear b
            go_wp2_with fail
            refine (OW.out _ HI.out).mono ?_
            rintro e w96 ⟨A1, c1, rfl, ho, b⟩
            have HO := Lib.hid ho
            have HI := Lib.hid (HI.out.trans (b.mono HI.out.size))
            clear b ho
            go_wp2_with fail
            refine (KC.out _ _ _ HI.out HO.out.shps).mono ?_
            rintro e w97 ⟨rfl, b⟩
            have HI := Lib.hid (HI.out.trans (b.mono HI.out.size))
            clear b HO
            go_wp2_with fail
            refine (OW.out _ HI.out).mono ?_
            rintro e w98 ⟨A1, c1, rfl, ho, b⟩
            have HO := Lib.hid ho
            have HI := Lib.hid (HI.out.trans (b.mono HI.out.size))
            clear b ho
            go_wp2_with fail
            refine (KH.out _ _ _ HI.out HO.out.shps).mono ?_
            rintro e w99 ⟨rfl, b⟩
            have HI := Lib.hid (HI.out.trans (b.mono HI.out.size))
            clear b HO
            go_wp2_with fail
            refine (OW.out _ HI.out).mono ?_
            rintro e w100 ⟨A1, c1, rfl, ho, b⟩
            have HO := Lib.hid ho
            have HI := Lib.hid (HI.out.trans (b.mono HI.out.size))
            clear b ho
            go_wp2_with fail
            refine (KD1.out _ _ _ HI.out HO.out.shps).mono ?_
            rintro e w101 ⟨rfl, b⟩
            have HI := Lib.hid (HI.out.trans (b.mono HI.out.size))
            clear b HO
            go_wp2_with fail
            refine (OW.out _ HI.out).mono ?_
            rintro e w102 ⟨A1, c1, rfl, ho, b⟩
            have HO := Lib.hid ho
            have HI := Lib.hid (HI.out.trans (b.mono HI.out.size))
            clear b ho
            go_wp2_with fail
            refine (KD2.out _ _ _ HI.out HO.out.shps).mono ?_
            rintro e w103 ⟨rfl, b⟩
            have HI := Lib.hid (HI.out.trans (b.mono HI.out.size))
            clear b HO
            go_wp2_with fail
            refine (OW.out _ HI.out).mono ?_
            rintro e w104 ⟨A1, c1, rfl, ho, b⟩
            have HO := Lib.hid ho
            have HI := Lib.hid (HI.out.trans (b.mono HI.out.size))
            clear b ho
            go_wp2_with fail
            refine (KD3.out _ _ _ HI.out HO.out.shps).mono ?_
            rintro e w105 ⟨rfl, b⟩
            have HI := Lib.hid (HI.out.trans (b.mono HI.out.size))
            clear b HO
            go_wp2_with fail
            refine (OW.out _ HI.out).mono ?_
            rintro e w106 ⟨A1, c1, rfl, ho, b⟩
            have HO := Lib.hid ho
            have HI := Lib.hid (HI.out.trans (b.mono HI.out.size))
            clear b ho
            go_wp2_with fail
            refine (KB1.out _ _ _ HI.out HO.out.shps).mono ?_
            rintro e w107 ⟨rfl, b⟩
            have HI := Lib.hid (HI.out.trans (b.mono HI.out.size))
            clear b HO
            go_wp2_with fail
            refine (OW.out _ HI.out).mono ?_
            rintro e w108 ⟨A1, c1, rfl, ho, b⟩
            have HO := Lib.hid ho
            have HI := Lib.hid (HI.out.trans (b.mono HI.out.size))
            clear b ho
            go_wp2_with fail
            refine (KB2.out _ _ _ HI.out HO.out.shps).mono ?_
            rintro e w109 ⟨rfl, b⟩
            have HI := Lib.hid (HI.out.trans (b.mono HI.out.size))
            clear b HO
            go_wp2
            go_ret
            exact ⟨rfl, HI.out⟩
          · go_enter Tryd.func8, Tryd.ntmps8
            go_wp2_with fail
            refine (AW.out _ HI.out).mono ?_
            rintro e w110 ⟨rfl, b⟩
            have HI := Lib.hid (HI.out.trans (b.mono HI.out.size))
            clear b
            go_wp2_with fail
            refine (OW.out _ HI.out).mono ?_
            rintro e w111 ⟨A1, c1, rfl, ho, b⟩
            have HO := Lib.hid ho
            have HI := Lib.hid (HI.out.trans (b.mono HI.out.size))
            clear b ho
            go_wp2_with fail
            refine (KC.out _ _ _ HI.out HO.out.shps).mono ?_
            rintro e w112 ⟨rfl, b⟩
            have HI := Lib.hid (HI.out.trans (b.mono HI.out.size))
            clear b HO
            go_wp2_with fail
            refine (OW.out _ HI.out).mono ?_
            rintro e w113 ⟨A1, c1, rfl, ho, b⟩
            have HO := Lib.hid ho
            have HI := Lib.hid (HI.out.trans (b.mono HI.out.size))
            clear b ho
            go_wp2_with fail
            refine (KH.out _ _ _ HI.out HO.out.shps).mono ?_
            rintro e w114 ⟨rfl, b⟩
            have HI := Lib.hid (HI.out.trans (b.mono HI.out.size))
            clear b HO
            go_wp2_with fail
            refine (OW.out _ HI.out).mono ?_
            rintro e w115 ⟨A1, c1, rfl, ho, b⟩
            have HO := Lib.hid ho
            have HI := Lib.hid (HI.out.trans (b.mono HI.out.size))
            clear b ho
            go_wp2_with fail
            refine (KD1.out _ _ _ HI.out HO.out.shps).mono ?_
            rintro e w116 ⟨rfl, b⟩
            have HI := Lib.hid (HI.out.trans (b.mono HI.out.size))
            clear b HO
            go_wp2_with fail
            refine (OW.out _ HI.out).mono ?_
            rintro e w117 ⟨A1, c1, rfl, ho, b⟩
            have HO := Lib.hid ho
            have HI := Lib.hid (HI.out.trans (b.mono HI.out.size))
            clear b ho
            go_wp2_with fail
            refine (KD2.out _ _ _ HI.out HO.out.shps).mono ?_
            rintro e w118 ⟨rfl, b⟩
            have HI := Lib.hid (HI.out.trans (b.mono HI.out.size))
            clear b HO
            go_wp2_with fail
            refine (OW.out _ HI.out).mono ?_
            rintro e w119 ⟨A1, c1, rfl, ho, b⟩
            have HO := Lib.hid ho
            have HI := Lib.hid (HI.out.trans (b.mono HI.out.size))
            clear b ho
            go_wp2_with fail
            refine (KD3.out _ _ _ HI.out HO.out.shps).mono ?_
            rintro e w120 ⟨rfl, b⟩
            have HI := Lib.hid (HI.out.trans (b.mono HI.out.size))
            clear b HO
            go_wp2_with fail
            refine (OW.out _ HI.out).mono ?_
            rintro e w121 ⟨A1, c1, rfl, ho, b⟩
            have HO := Lib.hid ho
            have HI := Lib.hid (HI.out.trans (b.mono HI.out.size))
            clear b ho
            go_wp2_with fail
            refine (KB1.out _ _ _ HI.out HO.out.shps).mono ?_
            rintro e w122 ⟨rfl, b⟩
            have HI := Lib.hid (HI.out.trans (b.mono HI.out.size))
            clear b HO
            go_wp2_with fail
            refine (OW.out _ HI.out).mono ?_
            rintro e w123 ⟨A1, c1, rfl, ho, b⟩
            have HO := Lib.hid ho
            have HI := Lib.hid (HI.out.trans (b.mono HI.out.size))
            clear b ho
            go_wp2_with fail
            refine (KB2.out _ _ _ HI.out HO.out.shps).mono ?_
            rintro e w124 ⟨rfl, b⟩
            have HI := Lib.hid (HI.out.trans (b.mono HI.out.size))
            clear b HO
            go_wp2
            go_ret
            exact ⟨rfl, HI.out⟩
    · rw [chkE_no hM] at KC
      clear hM hS hA hT hn
      go_enter Tryd.func8, Tryd.ntmps8
      go_wp2_with fail
      refine (AW.out _ HI.out).mono ?_
      rintro e w125 ⟨rfl, b⟩
      have HI := Lib.hid (HI.out.trans (b.mono HI.out.size))
      clear b
      go_wp2_with fail
      refine (OW.out _ HI.out).mono ?_
      rintro e w126 ⟨A1, c1, rfl, ho, b⟩
      have HO := Lib.hid ho
      have HI := Lib.hid (HI.out.trans (b.mono HI.out.size))
      clear b ho
      go_wp2_with fail
      refine (KC.out _ _ _ HI.out HO.out.shps).mono ?_
      rintro e w127 ⟨rfl, b⟩
      have HI := Lib.hid (HI.out.trans (b.mono HI.out.size))
      clear b HO
      go_wp2_with fail
      refine (AW.out _ HI.out).mono ?_
      rintro e w128 ⟨rfl, b⟩
      have HI := Lib.hid (HI.out.trans (b.mono HI.out.size))
      clear b
      go_wp2
      go_ret
      exact ⟨rfl, HI.out⟩
  · clear hS hA hT hn
    have hl : 20 < n := by omega
    go_enter Tryd.func8, Tryd.ntmps8
    go_wp2_with fail
    refine (AW.out _ HI.out).mono ?_
    rintro e w129 ⟨rfl, b⟩
    have HI := Lib.hid (HI.out.trans (b.mono HI.out.size))
    clear b
    go_wp2_with fail
    refine (AW.out _ HI.out).mono ?_
    rintro e w130 ⟨rfl, b⟩
    have HI := Lib.hid (HI.out.trans (b.mono HI.out.size))
    clear b
    go_wp2
    go_ret
    exact ⟨rfl, HI.out⟩
end Go.Proofs.YtohgdeddepfanaaDoor
