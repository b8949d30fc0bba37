/- The walk of the law EdfTells, in the seat YtohgdeddepfanaaDoor (printed by edf/mk_laws.py). No statement is proved here. -/
import Derived.Test.YtohgdeddepfanaaDoorEdfAwake
set_option linter.unusedVariables false
set_option linter.unusedSimpArgs false
namespace Go.Proofs.YtohgdeddepfanaaDoor
open Go Go.RowKit

set_option maxRecDepth 100000 in
set_option maxHeartbeats 32000000 in
theorem law_EdfTells {A : Option Addr} {n c : Nat} {es : List Shp} (t : Int) (w : World) (hT : DTab w) (hn : es.length = n) (hS : Shps w w.heap.size A es) (hA : A = none → n = 0 ∧ c = 0) :
    Calls Tryd.prog 3 #[.slice A n c, .int .i64 t] w fun e w' => e = .returned (.bool true) ∧ Below w.heap.size w w' := by
  have TT := Lib.hid (fun W (b : Below w.heap.size w W) => (hT.via b : DTab W))
  have AW := Lib.hid (fun W (b : Below w.heap.size w W) => awake15_any W (TT.out W b))
  have HI := Lib.hid (Below.refl w.heap.size w)
  by_cases hl20 : n ≤ 20
  · have hl : n ≤ 1000 := by omega
    have OW := Lib.hid (fun W (b : Below w.heap.size w W) => own15n (c := c) W hn hl (hS.via b) hA)
    have KD := Lib.hid (fun A1 c1 W (b : Below w.heap.size w W) (h2 : Shps W W.heap.size A1 es) => eDemand_any (c := c1) t W (hT.via b) hn hl h2)
    have KB := Lib.hid (fun A1 c1 W (b : Below w.heap.size w W) (h2 : Shps W W.heap.size A1 es) => eBlock_any (c := c1) t W (hT.via b) hn hl h2)
    have KC := Lib.hid (fun A1 c1 W (b : Below w.heap.size w W) (h2 : Shps W W.heap.size A1 es) => echeck_any (c := c1) W (hT.via b) hn hl h2)
    have KH := Lib.hid (fun A1 c1 W (b : Below w.heap.size w W) (h2 : Shps W W.heap.size A1 es) => ehor_any (c := c1) W (hT.via b) hn hl h2)
    have RC := Lib.hid (fun W (b : Below w.heap.size w W) => rcheck15_any (c := c) W hn hl (hS.via b))
    have RH := Lib.hid (fun W (b : Below w.heap.size w W) => rhor_any (c := c) W hn hl (hS.via b))
    obtain ⟨hz, hhz⟩ : ∃ x, x = horE es := ⟨_, rfl⟩
    rw [← hhz] at KH RH
    clear hhz
    by_cases hM : MayE es
    · have RB := Lib.hid (fun W (b : Below w.heap.size w W) => rblock_any (c := c) t W hn hl (hS.via b))
      rw [chkE_ok hM] at KC
      rw [decide_eq_true hM] at RC
      by_cases h0 : t < 0
      · have ea : atE es t = 151 := by unfold atE; rw [if_pos hM, if_pos (.inl h0)]
        have ed : demV es t = 0 := if_neg (by rw [ea]; decide)
        have eb : blkV es t = 0 := if_neg (by rw [ea]; decide)
        rw [ea, ed] at KD
        rw [ea, eb] at KB
        clear ea ed eb hM RB hS hA hT hn
        go_enter Tryd.func3, Tryd.ntmps3
        go_wp2_with fail
        refine (AW.out _ HI.out).mono ?_
        rintro e w1 ⟨rfl, b⟩
        have HI := Lib.hid (HI.out.trans (b.mono HI.out.size))
        clear b
        go_wp2_with fail
        refine (OW.out _ HI.out).mono ?_
        rintro e w2 ⟨A1, c1, rfl, ho, b⟩
        have HO := Lib.hid ho
        have HI := Lib.hid (HI.out.trans (b.mono HI.out.size))
        clear b ho
        go_wp2_with fail
        refine (KD.out _ _ _ HI.out HO.out.shps).mono ?_
        rintro e w3 ⟨rfl, b⟩
        have HI := Lib.hid (HI.out.trans (b.mono HI.out.size))
        clear b HO
        go_wp2_with fail
        refine (OW.out _ HI.out).mono ?_
        rintro e w4 ⟨A1, c1, rfl, ho, b⟩
        have HO := Lib.hid ho
        have HI := Lib.hid (HI.out.trans (b.mono HI.out.size))
        clear b ho
        go_wp2_with fail
        refine (KB.out _ _ _ HI.out HO.out.shps).mono ?_
        rintro e w5 ⟨rfl, b⟩
        have HI := Lib.hid (HI.out.trans (b.mono HI.out.size))
        clear b HO
        go_wp2_with fail
        refine (RC.out _ HI.out).mono ?_
        rintro e w6 ⟨rfl, b⟩
        have HI := Lib.hid (HI.out.trans (b.mono HI.out.size))
        clear b
        go_wp2_with fail
        refine (OW.out _ HI.out).mono ?_
        rintro e w7 ⟨A1, c1, rfl, ho, b⟩
        have HO := Lib.hid ho
        have HI := Lib.hid (HI.out.trans (b.mono HI.out.size))
        clear b ho
        go_wp2_with fail
        refine (KC.out _ _ _ HI.out HO.out.shps).mono ?_
        rintro e w8 ⟨rfl, b⟩
        have HI := Lib.hid (HI.out.trans (b.mono HI.out.size))
        clear b HO
        go_wp2_with fail
        refine (RC.out _ HI.out).mono ?_
        rintro e w9 ⟨rfl, b⟩
        have HI := Lib.hid (HI.out.trans (b.mono HI.out.size))
        clear b
        go_wp2_with fail
        refine (OW.out _ HI.out).mono ?_
        rintro e w10 ⟨A1, c1, rfl, ho, b⟩
        have HO := Lib.hid ho
        have HI := Lib.hid (HI.out.trans (b.mono HI.out.size))
        clear b ho
        go_wp2_with fail
        refine (KH.out _ _ _ HI.out HO.out.shps).mono ?_
        rintro e w11 ⟨rfl, b⟩
        have HI := Lib.hid (HI.out.trans (b.mono HI.out.size))
        clear b HO
        go_wp2_with fail
        refine (RH.out _ HI.out).mono ?_
        rintro e w12 ⟨rfl, b⟩
        have HI := Lib.hid (HI.out.trans (b.mono HI.out.size))
        clear b
        go_wp2
        go_ret
        exact ⟨rfl, HI.out⟩
      · by_cases h1 : 1099511627775 < t
        · have ea : atE es t = 151 := by unfold atE; rw [if_pos hM, if_pos (.inr h1)]
          have ed : demV es t = 0 := if_neg (by rw [ea]; decide)
          have eb : blkV es t = 0 := if_neg (by rw [ea]; decide)
          rw [ea, ed] at KD
          rw [ea, eb] at KB
          clear ea ed eb hM RB hS hA hT hn
          go_enter Tryd.func3, Tryd.ntmps3
          go_wp2_with fail
          refine (AW.out _ HI.out).mono ?_
          rintro e w13 ⟨rfl, b⟩
          have HI := Lib.hid (HI.out.trans (b.mono HI.out.size))
          clear b
          go_wp2_with fail
          refine (OW.out _ HI.out).mono ?_
          rintro e w14 ⟨A1, c1, rfl, ho, b⟩
          have HO := Lib.hid ho
          have HI := Lib.hid (HI.out.trans (b.mono HI.out.size))
          clear b ho
          go_wp2_with fail
          refine (KD.out _ _ _ HI.out HO.out.shps).mono ?_
          rintro e w15 ⟨rfl, b⟩
          have HI := Lib.hid (HI.out.trans (b.mono HI.out.size))
          clear b HO
          go_wp2_with fail
          refine (OW.out _ HI.out).mono ?_
          rintro e w16 ⟨A1, c1, rfl, ho, b⟩
          have HO := Lib.hid ho
          have HI := Lib.hid (HI.out.trans (b.mono HI.out.size))
          clear b ho
          go_wp2_with fail
          refine (KB.out _ _ _ HI.out HO.out.shps).mono ?_
          rintro e w17 ⟨rfl, b⟩
          have HI := Lib.hid (HI.out.trans (b.mono HI.out.size))
          clear b HO
          go_wp2_with fail
          refine (RC.out _ HI.out).mono ?_
          rintro e w18 ⟨rfl, b⟩
          have HI := Lib.hid (HI.out.trans (b.mono HI.out.size))
          clear b
          go_wp2_with fail
          refine (OW.out _ HI.out).mono ?_
          rintro e w19 ⟨A1, c1, rfl, ho, b⟩
          have HO := Lib.hid ho
          have HI := Lib.hid (HI.out.trans (b.mono HI.out.size))
          clear b ho
          go_wp2_with fail
          refine (KC.out _ _ _ HI.out HO.out.shps).mono ?_
          rintro e w20 ⟨rfl, b⟩
          have HI := Lib.hid (HI.out.trans (b.mono HI.out.size))
          clear b HO
          go_wp2_with fail
          refine (RC.out _ HI.out).mono ?_
          rintro e w21 ⟨rfl, b⟩
          have HI := Lib.hid (HI.out.trans (b.mono HI.out.size))
          clear b
          go_wp2_with fail
          refine (OW.out _ HI.out).mono ?_
          rintro e w22 ⟨A1, c1, rfl, ho, b⟩
          have HO := Lib.hid ho
          have HI := Lib.hid (HI.out.trans (b.mono HI.out.size))
          clear b ho
          go_wp2_with fail
          refine (KH.out _ _ _ HI.out HO.out.shps).mono ?_
          rintro e w23 ⟨rfl, b⟩
          have HI := Lib.hid (HI.out.trans (b.mono HI.out.size))
          clear b HO
          go_wp2_with fail
          refine (RH.out _ HI.out).mono ?_
          rintro e w24 ⟨rfl, b⟩
          have HI := Lib.hid (HI.out.trans (b.mono HI.out.size))
          clear b
          go_wp2
          go_ret
          exact ⟨rfl, HI.out⟩
        · have ea : atE es t = 0 := atE_may hM (by omega) (by omega)
          have ed : demV es t = demE es t := if_pos ea
          have eb : blkV es t = blkE es t := if_pos ea
          rw [ea, ed] at KD
          rw [ea, eb] at KB
          have RD := Lib.hid (fun W (b : Below w.heap.size w W) => rdemand_any (c := c) t W hn (hS.via b) hM (by omega) (by omega))
          obtain ⟨dv, hdv⟩ : ∃ x, x = demE es t := ⟨_, rfl⟩
          obtain ⟨bv, hbv⟩ : ∃ x, x = blkE es t := ⟨_, rfl⟩
          rw [← hdv] at KD RD
          rw [← hbv] at KB RB
          clear ea ed eb hM hdv hbv hS hA hT hn
          go_enter Tryd.func3, Tryd.ntmps3
          go_wp2_with fail
          refine (AW.out _ HI.out).mono ?_
          rintro e w25 ⟨rfl, b⟩
          have HI := Lib.hid (HI.out.trans (b.mono HI.out.size))
          clear b
          go_wp2_with fail
          refine (OW.out _ HI.out).mono ?_
          rintro e w26 ⟨A1, c1, rfl, ho, b⟩
          have HO := Lib.hid ho
          have HI := Lib.hid (HI.out.trans (b.mono HI.out.size))
          clear b ho
          go_wp2_with fail
          refine (KD.out _ _ _ HI.out HO.out.shps).mono ?_
          rintro e w27 ⟨rfl, b⟩
          have HI := Lib.hid (HI.out.trans (b.mono HI.out.size))
          clear b HO
          go_wp2_with fail
          refine (OW.out _ HI.out).mono ?_
          rintro e w28 ⟨A1, c1, rfl, ho, b⟩
          have HO := Lib.hid ho
          have HI := Lib.hid (HI.out.trans (b.mono HI.out.size))
          clear b ho
          go_wp2_with fail
          refine (KB.out _ _ _ HI.out HO.out.shps).mono ?_
          rintro e w29 ⟨rfl, b⟩
          have HI := Lib.hid (HI.out.trans (b.mono HI.out.size))
          clear b HO
          go_wp2_with fail
          refine (RC.out _ HI.out).mono ?_
          rintro e w30 ⟨rfl, b⟩
          have HI := Lib.hid (HI.out.trans (b.mono HI.out.size))
          clear b
          go_wp2_with fail
          refine (OW.out _ HI.out).mono ?_
          rintro e w31 ⟨A1, c1, rfl, ho, b⟩
          have HO := Lib.hid ho
          have HI := Lib.hid (HI.out.trans (b.mono HI.out.size))
          clear b ho
          go_wp2_with fail
          refine (KC.out _ _ _ HI.out HO.out.shps).mono ?_
          rintro e w32 ⟨rfl, b⟩
          have HI := Lib.hid (HI.out.trans (b.mono HI.out.size))
          clear b HO
          go_wp2_with fail
          refine (RC.out _ HI.out).mono ?_
          rintro e w33 ⟨rfl, b⟩
          have HI := Lib.hid (HI.out.trans (b.mono HI.out.size))
          clear b
          go_wp2_with fail
          refine (OW.out _ HI.out).mono ?_
          rintro e w34 ⟨A1, c1, rfl, ho, b⟩
          have HO := Lib.hid ho
          have HI := Lib.hid (HI.out.trans (b.mono HI.out.size))
          clear b ho
          go_wp2_with fail
          refine (KH.out _ _ _ HI.out HO.out.shps).mono ?_
          rintro e w35 ⟨rfl, b⟩
          have HI := Lib.hid (HI.out.trans (b.mono HI.out.size))
          clear b HO
          go_wp2_with fail
          refine (RH.out _ HI.out).mono ?_
          rintro e w36 ⟨rfl, b⟩
          have HI := Lib.hid (HI.out.trans (b.mono HI.out.size))
          clear b
          go_wp2_with fail
          refine (RD.out _ HI.out).mono ?_
          rintro e w37 ⟨rfl, b⟩
          have HI := Lib.hid (HI.out.trans (b.mono HI.out.size))
          clear b
          go_wp2_with fail
          refine (RB.out _ HI.out).mono ?_
          rintro e w38 ⟨rfl, rfl⟩
          go_wp2
          go_ret
          exact ⟨rfl, HI.out⟩
    · have ea : atE es t = 150 := if_neg hM
      have ed : demV es t = 0 := if_neg (by rw [ea]; decide)
      have eb : blkV es t = 0 := if_neg (by rw [ea]; decide)
      rw [ea, ed] at KD
      rw [ea, eb] at KB
      rw [chkE_no hM] at KC
      rw [decide_eq_false hM] at RC
      clear ea ed eb hM hS hA hT hn
      go_enter Tryd.func3, Tryd.ntmps3
      go_wp2_with fail
      refine (AW.out _ HI.out).mono ?_
      rintro e w39 ⟨rfl, b⟩
      have HI := Lib.hid (HI.out.trans (b.mono HI.out.size))
      clear b
      go_wp2_with fail
      refine (OW.out _ HI.out).mono ?_
      rintro e w40 ⟨A1, c1, rfl, ho, b⟩
      have HO := Lib.hid ho
      have HI := Lib.hid (HI.out.trans (b.mono HI.out.size))
      clear b ho
      go_wp2_with fail
      refine (KD.out _ _ _ HI.out HO.out.shps).mono ?_
      rintro e w41 ⟨rfl, b⟩
      have HI := Lib.hid (HI.out.trans (b.mono HI.out.size))
      clear b HO
      go_wp2_with fail
      refine (OW.out _ HI.out).mono ?_
      rintro e w42 ⟨A1, c1, rfl, ho, b⟩
      have HO := Lib.hid ho
      have HI := Lib.hid (HI.out.trans (b.mono HI.out.size))
      clear b ho
      go_wp2_with fail
      refine (KB.out _ _ _ HI.out HO.out.shps).mono ?_
      rintro e w43 ⟨rfl, b⟩
      have HI := Lib.hid (HI.out.trans (b.mono HI.out.size))
      clear b HO
      go_wp2_with fail
      refine (RC.out _ HI.out).mono ?_
      rintro e w44 ⟨rfl, b⟩
      have HI := Lib.hid (HI.out.trans (b.mono HI.out.size))
      clear b
      go_wp2_with fail
      refine (OW.out _ HI.out).mono ?_
      rintro e w45 ⟨A1, c1, rfl, ho, b⟩
      have HO := Lib.hid ho
      have HI := Lib.hid (HI.out.trans (b.mono HI.out.size))
      clear b ho
      go_wp2_with fail
      refine (KC.out _ _ _ HI.out HO.out.shps).mono ?_
      rintro e w46 ⟨rfl, b⟩
      have HI := Lib.hid (HI.out.trans (b.mono HI.out.size))
      clear b HO
      go_wp2_with fail
      refine (RC.out _ HI.out).mono ?_
      rintro e w47 ⟨rfl, b⟩
      have HI := Lib.hid (HI.out.trans (b.mono HI.out.size))
      clear b
      go_wp2_with fail
      refine (OW.out _ HI.out).mono ?_
      rintro e w48 ⟨A1, c1, rfl, ho, b⟩
      have HO := Lib.hid ho
      have HI := Lib.hid (HI.out.trans (b.mono HI.out.size))
      clear b ho
      go_wp2_with fail
      refine (KH.out _ _ _ HI.out HO.out.shps).mono ?_
      rintro e w49 ⟨rfl, b⟩
      have HI := Lib.hid (HI.out.trans (b.mono HI.out.size))
      clear b HO
      go_wp2_with fail
      refine (RH.out _ HI.out).mono ?_
      rintro e w50 ⟨rfl, b⟩
      have HI := Lib.hid (HI.out.trans (b.mono HI.out.size))
      clear b
      go_wp2
      go_ret
      exact ⟨rfl, HI.out⟩
  · clear hS hA hT hn
    have hl : 20 < n := by omega
    go_enter Tryd.func3, Tryd.ntmps3
    go_wp2_with fail
    refine (AW.out _ HI.out).mono ?_
    rintro e w51 ⟨rfl, b⟩
    have HI := Lib.hid (HI.out.trans (b.mono HI.out.size))
    clear b
    go_wp2_with fail
    refine (AW.out _ HI.out).mono ?_
    rintro e w52 ⟨rfl, b⟩
    have HI := Lib.hid (HI.out.trans (b.mono HI.out.size))
    clear b
    go_wp2
    go_ret
    exact ⟨rfl, HI.out⟩
end Go.Proofs.YtohgdeddepfanaaDoor
