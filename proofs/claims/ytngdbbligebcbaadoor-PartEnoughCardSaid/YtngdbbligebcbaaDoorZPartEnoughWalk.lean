/- The walk of the law PartEnough, in the seat YtngdbbligebcbaaDoor (printed by part/mk_laws.py). No statement is proved here. -/
import Derived.Test.YtngdbbligebcbaaDoorZM10
set_option linter.unusedSimpArgs false
set_option linter.unusedVariables false
set_option linter.unusedSimpArgs false
namespace Go.Proofs.YtngdbbligebcbaaDoor
open Go Go.RowKit

set_option maxRecDepth 100000 in
set_option maxHeartbeats 32000000 in
theorem law_PartEnough {A : Option Addr} {n c : Nat} {es : List Shp} (m : Int) (w : World) (hT : DTab w) (hn : es.length = n) (hS : Shps w w.heap.size A es) (hA : A = none → n = 0 ∧ c = 0) (hm : -9223372036854775808 ≤ m ∧ m ≤ 9223372036854775807) :
    Calls Tryd.prog 4 #[.slice A n c, .int .i64 m] w fun e w' => e = .returned (.bool true) ∧ Below w.heap.size w w' := by
  have AW := Lib.hid (fun W (b : Below w.heap.size w W) => awake16_any W (hT.via b))
  have HI := Lib.hid (Below.refl w.heap.size w)
  by_cases hl20 : n ≤ 20
  · have hl : n ≤ 1000 := by omega
    have OW := Lib.hid (fun W (b : Below w.heap.size w W) => own15n (c := c) W hn hl (hS.via b) hA)
    have CK := Lib.hid (fun A1 c1 W (b : Below w.heap.size w W) (h1 : Shps W W.heap.size A1 es) => echeck_any (c := c1) W (hT.via b) hn hl h1)
    by_cases hM : MayE es
    · rw [chkE_ok hM] at CK
      by_cases hm0 : m < 0
      · clear hS hA hT hn hl
        go_enter Tryd.func4, Tryd.ntmps4
        go_wp2_with fail
        refine (AW.out _ HI.out).mono ?_
        rintro e w1 ⟨rfl, b⟩
        have HI := Lib.hid (HI.out.trans (b.mono HI.out.size))
        clear b
        go_wp2_with fail
        refine (OW.out _ HI.out).mono ?_
        rintro e w2 ⟨A2, c2, rfl, ho, b⟩
        have HO := Lib.hid (ho.down (Nat.zero_le _))
        have HI := Lib.hid (HI.out.trans (b.mono HI.out.size))
        clear b ho
        go_wp2_with fail
        refine (CK.out _ _ _ HI.out HO.out.shps).mono ?_
        rintro e w3 ⟨rfl, b⟩
        have HO := Lib.hid (HO.out.below b)
        have HI := Lib.hid (HI.out.trans (b.mono HI.out.size))
        clear b
        go_wp2_with fail
        refine (AW.out _ HI.out).mono ?_
        rintro e w4 ⟨rfl, b⟩
        have HO := Lib.hid (HO.out.below b)
        have HI := Lib.hid (HI.out.trans (b.mono HI.out.size))
        clear b
        go_wp2
        go_ret
        exact ⟨rfl, HI.out⟩
      · by_cases hm8 : 8 < m
        · clear hS hA hT hn hl
          go_enter Tryd.func4, Tryd.ntmps4
          go_wp2_with fail
          refine (AW.out _ HI.out).mono ?_
          rintro e w1 ⟨rfl, b⟩
          have HI := Lib.hid (HI.out.trans (b.mono HI.out.size))
          clear b
          go_wp2_with fail
          refine (OW.out _ HI.out).mono ?_
          rintro e w2 ⟨A2, c2, rfl, ho, b⟩
          have HO := Lib.hid (ho.down (Nat.zero_le _))
          have HI := Lib.hid (HI.out.trans (b.mono HI.out.size))
          clear b ho
          go_wp2_with fail
          refine (CK.out _ _ _ HI.out HO.out.shps).mono ?_
          rintro e w3 ⟨rfl, b⟩
          have HO := Lib.hid (HO.out.below b)
          have HI := Lib.hid (HI.out.trans (b.mono HI.out.size))
          clear b
          go_wp2_with fail
          refine (AW.out _ HI.out).mono ?_
          rintro e w4 ⟨rfl, b⟩
          have HO := Lib.hid (HO.out.below b)
          have HI := Lib.hid (HI.out.trans (b.mono HI.out.size))
          clear b
          go_wp2
          go_ret
          exact ⟨rfl, HI.out⟩
        · obtain ⟨L, er, hP⟩ := plcA_is es m
          obtain ⟨L1, er1, hP1⟩ := plcA_is es 1
          obtain ⟨x, hx⟩ := existsB (FitE es)
          obtain ⟨he1, he2⟩ := hP.enough hM (by omega) (by omega)
          rw [hn] at he2
          obtain ⟨hq1, hq2⟩ := hP1.one hM
          have KP := Lib.hid (fun A1 c1 W (b : Below w.heap.size w W) (h : Shps W W.heap.size A1 es) => place_any (c := c1) m hP W (hT.via b) hn hl h)
          have KQ := Lib.hid (fun A1 c1 W (b : Below w.heap.size w W) (h : Shps W W.heap.size A1 es) => place_any (c := c1) 1 hP1 W (hT.via b) hn hl h)
          have KF := Lib.hid (fun (L1 : List Shp) (x : Bool) (hx : x = true ↔ FitE L1) A1 n1 c1 W (b : Below w.heap.size w W) (h1 : L1.length = n1) (h2 : n1 ≤ 1000) (h3 : Shps W W.heap.size A1 L1) => efits_any (c := c1) x hx W (hT.via b) h1 h2 h3)
          have hl1 : L1.length ≤ 20 := by
            by_cases h : er1 = 0
            · have := (hP1.zero h).2.2.2.2.len
              omega
            · rw [(hP1.non h).1]; decide
          have HL1 := Lib.hid hl1
          clear hl1
          have HX := Lib.hid hx
          have HNL := Lib.hid (show es.length = n ∧ n ≤ 1000 from ⟨hn, hl⟩)
          have HQ := Lib.hid hq2
          have hfe : (er1 == 0) = x := by
            cases x with
            | true => exact beq_iff_eq.mpr (hq1.mpr (hx.mp rfl))
            | false => exact beq_eq_false_iff_ne.mpr fun q => Bool.noConfusion (hx.mpr (hq1.mp q))
          rcases he1 with rfl | rfl
          · clear hS hA hT hn hP hP1 hl hm hq1 hq2 hx hM he2
            go_enter Tryd.func4, Tryd.ntmps4
            go_wp2_with fail
            refine (AW.out _ HI.out).mono ?_
            rintro e w1 ⟨rfl, b⟩
            have HI := Lib.hid (HI.out.trans (b.mono HI.out.size))
            clear b
            go_wp2_with fail
            refine (OW.out _ HI.out).mono ?_
            rintro e w2 ⟨A2, c2, rfl, ho, b⟩
            have HO := Lib.hid (ho.down (Nat.zero_le _))
            have HI := Lib.hid (HI.out.trans (b.mono HI.out.size))
            clear b ho
            go_wp2_with fail
            refine (CK.out _ _ _ HI.out HO.out.shps).mono ?_
            rintro e w3 ⟨rfl, b⟩
            have HO := Lib.hid (HO.out.below b)
            have HI := Lib.hid (HI.out.trans (b.mono HI.out.size))
            clear b
            clear HO
            go_wp2_with fail
            refine (OW.out _ HI.out).mono ?_
            rintro e w4 ⟨A4, c4, rfl, ho, b⟩
            have HO := Lib.hid (ho.down (Nat.zero_le _))
            have HI := Lib.hid (HI.out.trans (b.mono HI.out.size))
            clear b ho
            go_wp2_with fail
            refine (KP.out _ _ _ HI.out HO.out.shps).mono ?_
            rintro e w5 ⟨A5, n5, c5, rfl, hna, ho, b⟩
            have HO := Lib.hid (HO.out.below b)
            have HAt := Lib.hid (ho.down (Nat.zero_le _))
            have HI := Lib.hid (HI.out.trans (b.mono HI.out.size))
            clear b ho
            have HNA := Lib.hid hna
            clear hna
            clear HO
            clear HAt
            clear HNA
            go_wp2_with fail
            refine (OW.out _ HI.out).mono ?_
            rintro e w6 ⟨A6, c6, rfl, ho, b⟩
            have HO := Lib.hid (ho.down (Nat.zero_le _))
            have HI := Lib.hid (HI.out.trans (b.mono HI.out.size))
            clear b ho
            go_wp2_with fail
            refine (KQ.out _ _ _ HI.out HO.out.shps).mono ?_
            rintro e w7 ⟨A7, n7, c7, rfl, hna, ho, b⟩
            have HO := Lib.hid (HO.out.below b)
            have HBt := Lib.hid (ho.down (Nat.zero_le _))
            have HI := Lib.hid (HI.out.trans (b.mono HI.out.size))
            clear b ho
            have HNB := Lib.hid hna
            clear hna
            clear HO
            have hnb : n7 ≤ 20 := by rw [← HNB.out]; exact HL1.out
            go_wp2
            go_loopw [9] (fun v wr => ∃ j : Nat, j ≤ n7 ∧ v = .int .i64 j ∧ Hid (OwnI wr 0 (.slice A7 n7 c7) L1) ∧ Hid (Below w.heap.size w wr)) (fun v _ => n7 - (intOf v).toNat)
            case atStart => exact ⟨0, Nat.zero_le _, rfl, HBt, HI⟩
            case round =>
              clear HBt HI
              obtain ⟨j, hj, rfl, HBt, HI⟩ := hrel
              by_cases hlt : j < n7
              · obtain ⟨bq, oq, z, rfl, hbq, hz, dq⟩ := HBt.out.ints.at_ (k := j) (by have := HNB.out; omega)
                obtain rfl : z = 0 := HQ.out z (List.mem_of_getElem? hz)
                clear hz
                go_wp2
                go_roundw
                case rel => exact ⟨j + 1, by omega, by go_num, HBt, HI⟩
                case measure => simp [intOf]; omega
              · obtain rfl : n7 = j := by omega
                go_wp2_with fail
                refine (OW.out _ HI.out).mono ?_
                rintro e w8 ⟨A8, c8, rfl, ho, b⟩
                have HO := Lib.hid (ho.down (Nat.zero_le _))
                have HI := Lib.hid (HI.out.trans (b.mono HI.out.size))
                clear b ho
                go_wp2_with fail
                refine (KF.out _ x HX.out _ _ _ _ HI.out HNL.out.1 HNL.out.2 HO.out.shps).mono ?_
                rintro e w9 ⟨rfl, b⟩
                have HI := Lib.hid (HI.out.trans (b.mono HI.out.size))
                clear b HO
                go_wp2
                go_ret
                exact ⟨rfl, HI.out⟩
          · have hlm : m < n := by
              apply Int.lt_of_not_ge
              exact fun q => absurd (he2 q) (by decide)
            clear hS hA hT hn hP hP1 hl hm hq1 hq2 hx hM he2
            go_enter Tryd.func4, Tryd.ntmps4
            go_wp2_with fail
            refine (AW.out _ HI.out).mono ?_
            rintro e w1 ⟨rfl, b⟩
            have HI := Lib.hid (HI.out.trans (b.mono HI.out.size))
            clear b
            go_wp2_with fail
            refine (OW.out _ HI.out).mono ?_
            rintro e w2 ⟨A2, c2, rfl, ho, b⟩
            have HO := Lib.hid (ho.down (Nat.zero_le _))
            have HI := Lib.hid (HI.out.trans (b.mono HI.out.size))
            clear b ho
            go_wp2_with fail
            refine (CK.out _ _ _ HI.out HO.out.shps).mono ?_
            rintro e w3 ⟨rfl, b⟩
            have HO := Lib.hid (HO.out.below b)
            have HI := Lib.hid (HI.out.trans (b.mono HI.out.size))
            clear b
            clear HO
            go_wp2_with fail
            refine (OW.out _ HI.out).mono ?_
            rintro e w4 ⟨A4, c4, rfl, ho, b⟩
            have HO := Lib.hid (ho.down (Nat.zero_le _))
            have HI := Lib.hid (HI.out.trans (b.mono HI.out.size))
            clear b ho
            go_wp2_with fail
            refine (KP.out _ _ _ HI.out HO.out.shps).mono ?_
            rintro e w5 ⟨A5, n5, c5, rfl, hna, ho, b⟩
            have HO := Lib.hid (HO.out.below b)
            have HAt := Lib.hid (ho.down (Nat.zero_le _))
            have HI := Lib.hid (HI.out.trans (b.mono HI.out.size))
            clear b ho
            have HNA := Lib.hid hna
            clear hna
            clear HO
            clear HAt
            clear HNA
            go_wp2_with fail
            refine (OW.out _ HI.out).mono ?_
            rintro e w6 ⟨A6, c6, rfl, ho, b⟩
            have HO := Lib.hid (ho.down (Nat.zero_le _))
            have HI := Lib.hid (HI.out.trans (b.mono HI.out.size))
            clear b ho
            go_wp2_with fail
            refine (KQ.out _ _ _ HI.out HO.out.shps).mono ?_
            rintro e w7 ⟨A7, n7, c7, rfl, hna, ho, b⟩
            have HO := Lib.hid (HO.out.below b)
            have HBt := Lib.hid (ho.down (Nat.zero_le _))
            have HI := Lib.hid (HI.out.trans (b.mono HI.out.size))
            clear b ho
            have HNB := Lib.hid hna
            clear hna
            clear HO
            have hnb : n7 ≤ 20 := by rw [← HNB.out]; exact HL1.out
            go_wp2
            go_loopw [9] (fun v wr => ∃ j : Nat, j ≤ n7 ∧ v = .int .i64 j ∧ Hid (OwnI wr 0 (.slice A7 n7 c7) L1) ∧ Hid (Below w.heap.size w wr)) (fun v _ => n7 - (intOf v).toNat)
            case atStart => exact ⟨0, Nat.zero_le _, rfl, HBt, HI⟩
            case round =>
              clear HBt HI
              obtain ⟨j, hj, rfl, HBt, HI⟩ := hrel
              by_cases hlt : j < n7
              · obtain ⟨bq, oq, z, rfl, hbq, hz, dq⟩ := HBt.out.ints.at_ (k := j) (by have := HNB.out; omega)
                obtain rfl : z = 0 := HQ.out z (List.mem_of_getElem? hz)
                clear hz
                go_wp2
                go_roundw
                case rel => exact ⟨j + 1, by omega, by go_num, HBt, HI⟩
                case measure => simp [intOf]; omega
              · obtain rfl : n7 = j := by omega
                go_wp2_with fail
                refine (OW.out _ HI.out).mono ?_
                rintro e w8 ⟨A8, c8, rfl, ho, b⟩
                have HO := Lib.hid (ho.down (Nat.zero_le _))
                have HI := Lib.hid (HI.out.trans (b.mono HI.out.size))
                clear b ho
                go_wp2_with fail
                refine (KF.out _ x HX.out _ _ _ _ HI.out HNL.out.1 HNL.out.2 HO.out.shps).mono ?_
                rintro e w9 ⟨rfl, b⟩
                have HI := Lib.hid (HI.out.trans (b.mono HI.out.size))
                clear b HO
                go_wp2
                go_ret
                exact ⟨rfl, HI.out⟩
    · rw [chkE_no hM] at CK
      clear hS hA hT hn hl
      go_enter Tryd.func4, Tryd.ntmps4
      go_wp2_with fail
      refine (AW.out _ HI.out).mono ?_
      rintro e w1 ⟨rfl, b⟩
      have HI := Lib.hid (HI.out.trans (b.mono HI.out.size))
      clear b
      go_wp2_with fail
      refine (OW.out _ HI.out).mono ?_
      rintro e w2 ⟨A2, c2, rfl, ho, b⟩
      have HO := Lib.hid (ho.down (Nat.zero_le _))
      have HI := Lib.hid (HI.out.trans (b.mono HI.out.size))
      clear b ho
      go_wp2_with fail
      refine (CK.out _ _ _ HI.out HO.out.shps).mono ?_
      rintro e w3 ⟨rfl, b⟩
      have HO := Lib.hid (HO.out.below b)
      have HI := Lib.hid (HI.out.trans (b.mono HI.out.size))
      clear b
      go_wp2_with fail
      refine (AW.out _ HI.out).mono ?_
      rintro e w4 ⟨rfl, b⟩
      have HO := Lib.hid (HO.out.below b)
      have HI := Lib.hid (HI.out.trans (b.mono HI.out.size))
      clear b
      go_wp2
      go_ret
      exact ⟨rfl, HI.out⟩
  · clear hS hA hT hn
    have hl20 : 20 < n := by omega
    go_enter Tryd.func4, Tryd.ntmps4
    go_wp2_with fail
    refine (AW.out _ HI.out).mono ?_
    rintro e w1 ⟨rfl, b⟩
    have HI := Lib.hid (HI.out.trans (b.mono HI.out.size))
    clear b
    go_wp2_with fail
    refine (AW.out _ HI.out).mono ?_
    rintro e w2 ⟨rfl, b⟩
    have HI := Lib.hid (HI.out.trans (b.mono HI.out.size))
    clear b
    go_wp2
    go_ret
    exact ⟨rfl, HI.out⟩
end Go.Proofs.YtngdbbligebcbaaDoor
