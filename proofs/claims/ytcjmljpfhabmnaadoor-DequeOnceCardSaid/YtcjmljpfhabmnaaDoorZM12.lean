/- trefoillaw12.awake in the seat YtcjmljpfhabmnaaDoor: it holds.
   trefoilref12.Take in the seat YtcjmljpfhabmnaaDoor: its contract.
   What layer 12's rows hand over: a deque, a taker, in the seat YtcjmljpfhabmnaaDoor.
   No statement is proved here. -/
import Derived.Test.YtcjmljpfhabmnaaDoorZM11
import Derived.KernelRfl
import Derived.Test.YtcjmljpfhabmnaaDoorZM8
import Derived.Test.YtcjmljpfhabmnaaDoorZM4
import Derived.Test.YtcjmljpfhabmnaaDoorZM1
import Derived.Test.YtcjmljpfhabmnaaDoorZM3
import Derived.Lib.SmallJoins
set_option linter.unusedSimpArgs false
set_option linter.unusedVariables false
set_option linter.unusedSimpArgs false
namespace Go.Proofs.YtcjmljpfhabmnaaDoor
open Go Go.RowKit

theorem len4 {a b c d : Int} : ((([a, b, c, d] : List Int).length : Nat) : Int) = 4 := rfl
theorem pushE4 {T B : Int} (h : 0 ≤ T) (h1 : T ≤ B) (h2 : B < T + 4) (h3 : T ≤ 1000) : pushE 4 T B = 0 := by
  unfold pushE
  rw [if_neg (fun q => q ⟨by unfold SizeOk; omega, h, by omega, by omega, by omega⟩), if_neg (by omega)]
theorem got_push4 {a b c d T B x : Int} {w w' : World} {e : Ending} (h : 0 ≤ T) (h1 : T ≤ B) (h2 : B < T + 4) (h3 : T ≤ 1000) (hg : GotPush [a, b, c, d] T B x w e w') :
    ∃ A' c', e = .returned (.tuple #[.agg #[.slice A' 4 c', .int .i64 T, .int .i64 (B + 1)], .int .i64 0]) ∧ OwnQ w' w.heap.size A' 4 c' ([a, b, c, d].set (plN 4 B) x) ∧ Below w.heap.size w w' := by
  obtain ⟨A', n', c', he, ho, hb⟩ := hg
  have hE : pushE (([a, b, c, d] : List Int).length : Int) T B = 0 := pushE4 h h1 h2 h3
  have hE2 : pushE (((4 : Nat) : Int)) T B = 0 := pushE4 h h1 h2 h3
  unfold pushT pushB at he
  rw [hE, if_pos rfl, if_pos rfl] at he
  unfold pushR at ho
  rw [hE, if_pos rfl] at ho
  have hn := ho.2.1
  rw [List.length_set] at hn
  obtain rfl : n' = 4 := hn.symm
  exact ⟨A', c', he, ho, hb⟩
theorem got_run4 {a b c d T B : Int} {t : Tkr} {s : Int × Int × Int × Tkr} {w w' : World} {e : Ending} (hs : s = (0, T, B, t)) (hg : GotRun 4 [a, b, c, d] s w e w') :
    ∃ A' c', e = .returned (.tuple #[.agg #[.slice A' 4 c', .int .i64 T, .int .i64 B], .agg #[.bool t.steal, .int .i64 t.at_, .int .i64 t.top, .int .i64 t.bot, .int .i64 t.got, .int .i64 t.end_], .int .i64 0]) ∧ OwnQ w' w.heap.size A' 4 c' [a, b, c, d] ∧ Below w.heap.size w w' := by
  subst hs
  obtain ⟨A', n', c', he, ho, hn, hl, hb⟩ := hg
  simp only [if_true] at ho hn
  obtain rfl : n' = 4 := hn.symm
  exact ⟨A', c', he, ⟨ho, rfl, hl⟩, hb⟩
theorem awk_pop : takeQ [3, 4, 5, 0] 0 3 false = (0, 0, 2, ⟨false, 1, 0, 2, 5, 1⟩) := by kernel_rfl
theorem awk_steal : takeQ [3, 4, 5, 0] 0 2 true = (0, 1, 2, ⟨true, 3, 0, 2, 3, 1⟩) := by kernel_rfl
theorem awk_step : stepQ [3, 4, 5, 0] 0 3 (newTk true) = (0, 0, 3, ⟨true, 1, 0, 0, 0, 0⟩) := by kernel_rfl
theorem awk_items : itemsE [3, 4, 5, 0] 1 2 = [4] := by decide +kernel
theorem awk_same : ¬ SameQ [3, 4, 5, 0] 1 2 [3, 4, 5, 0] 0 3 := by decide +kernel
theorem awk_chk : chkQE ((4 : Nat) : Int) 1 2 = 0 := by decide +kernel
set_option maxRecDepth 100000 in
set_option maxHeartbeats 16000000 in
theorem awakeD_any (w : World) (hT : DTab w) : Calls Tryd.prog 5 #[] w fun e w' => e = .returned (.bool true) ∧ Below w.heap.size w w' := by
  have CN := Lib.hid (dnew_any 4 w hT)
  have HT := Lib.hid hT
  clear hT
  go_enter Tryd.func5, Tryd.ntmps5
  go_wp2_with fail
  refine CN.out.mono ?_
  rintro e w1 ⟨A1, n1, c1, rfl, ho1, hb1⟩
  have hz : newEd 4 = 0 := by decide +kernel
  have hr : newRd 4 = [0, 0, 0, 0] := by decide +kernel
  rw [hz]
  rw [hr] at ho1
  obtain rfl : n1 = 4 := ho1.2.1.symm
  obtain ⟨w2, hw2⟩ : ∃ w2, w2 = w1.alloc (.cells #[.slice A1 4 c1, .int .i64 0, .int .i64 0] 27) := ⟨_, rfl⟩
  obtain ⟨g, hg⟩ : ∃ g, g = w1.heap.size := ⟨_, rfl⟩
  have HB2 : Hid (Below w.heap.size w w2) := Lib.hid (by rw [hw2]; exact hb1.trans ((below_alloc _).mono hb1.size))
  have HR2 : Hid (RowV g 27 [.slice A1 4 c1, .int .i64 0, .int .i64 0] w2) := Lib.hid (by rw [hw2, hg]; exact RowV.new _ _ _)
  have hq2 : IsQ w2 A1 4 c1 [0, 0, 0, 0] := by rw [hw2]; exact ho1.isQ.below (below_alloc _)
  have HG : Hid (w.heap.size ≤ g) := Lib.hid (by rw [hg]; exact hb1.size)
  have C2 := Lib.hid (dpush_any 0 0 3 w2 hq2 (HT.out.via HB2.out))
  have HW2 := Lib.hid hw2
  have HGE := Lib.hid hg
  clear hw2 hg hz hr ho1 hb1 hq2 CN
  go_wp2_with fail
  rw [← HW2.out, ← HGE.out]
  clear HW2 HGE
  refine C2.out.mono ?_
  rintro e v2 hgp
  obtain ⟨A2, c2, rfl, ho, hb⟩ := got_push4 (by omega) (by omega) (by omega) (by omega) hgp
  have e0 := (HR2.out.below hb HR2.out.lt).cell (j := 0) rfl
  have e1 := (HR2.out.below hb HR2.out.lt).cell (j := 1) rfl
  have e2 := (HR2.out.below hb HR2.out.lt).cell (j := 2) rfl
  have z0 := (HR2.out.below hb HR2.out.lt).frozen 0
  have z1 := (HR2.out.below hb HR2.out.lt).frozen 1
  have z2 := (HR2.out.below hb HR2.out.lt).frozen 2
  obtain ⟨w3, hw⟩ : ∃ w3, w3 = ((v2.setCell ⟨g, 0, none⟩ (.slice A2 4 c2)).setCell ⟨g, 1, none⟩ (.int .i64 0)).setCell ⟨g, 2, none⟩ (.int .i64 1) := ⟨_, rfl⟩
  have HR3 : Hid (RowV g 27 [.slice A2 4 c2, .int .i64 0, .int .i64 1] w3) := Lib.hid (by rw [hw]; exact (((HR2.out.below hb HR2.out.lt).set 0 _).set 1 _).set 2 _)
  have HB3 : Hid (Below w.heap.size w w3) := Lib.hid (by rw [hw]; exact (((HB2.out.trans (hb.mono HB2.out.size)).setCell (by exact HG.out) _).setCell (by exact HG.out) _).setCell (by exact HG.out) _)
  have hq : IsQ w3 A2 4 c2 [3, 0, 0, 0] := by
    rw [hw]
    exact own_isQ (((ho.1.setFar HR2.out.lt).setFar HR2.out.lt).setFar HR2.out.lt) rfl (by decide)
  have HW := Lib.hid hw
  have HQ3 := Lib.hid hq
  have C3 := Lib.hid (dpush_any 0 1 4 w3 hq (HT.out.via HB3.out))
  clear hw ho hb hq hgp C2 HR2 HB2
  go_wp2_with fail
  rw [← HW.out]
  clear HW e0 e1 e2 z0 z1 z2
  refine C3.out.mono ?_
  rintro e v3 hgp
  obtain ⟨A3, c3, rfl, ho, hb⟩ := got_push4 (by omega) (by omega) (by omega) (by omega) hgp
  have e0 := (HR3.out.below hb HR3.out.lt).cell (j := 0) rfl
  have e1 := (HR3.out.below hb HR3.out.lt).cell (j := 1) rfl
  have e2 := (HR3.out.below hb HR3.out.lt).cell (j := 2) rfl
  have z0 := (HR3.out.below hb HR3.out.lt).frozen 0
  have z1 := (HR3.out.below hb HR3.out.lt).frozen 1
  have z2 := (HR3.out.below hb HR3.out.lt).frozen 2
  obtain ⟨w4, hw⟩ : ∃ w4, w4 = ((v3.setCell ⟨g, 0, none⟩ (.slice A3 4 c3)).setCell ⟨g, 1, none⟩ (.int .i64 0)).setCell ⟨g, 2, none⟩ (.int .i64 2) := ⟨_, rfl⟩
  have HR4 : Hid (RowV g 27 [.slice A3 4 c3, .int .i64 0, .int .i64 2] w4) := Lib.hid (by rw [hw]; exact (((HR3.out.below hb HR3.out.lt).set 0 _).set 1 _).set 2 _)
  have HB4 : Hid (Below w.heap.size w w4) := Lib.hid (by rw [hw]; exact (((HB3.out.trans (hb.mono HB3.out.size)).setCell (by exact HG.out) _).setCell (by exact HG.out) _).setCell (by exact HG.out) _)
  have hq : IsQ w4 A3 4 c3 [3, 4, 0, 0] := by
    rw [hw]
    exact own_isQ (((ho.1.setFar HR3.out.lt).setFar HR3.out.lt).setFar HR3.out.lt) rfl (by decide)
  have HW := Lib.hid hw
  have HQ4 := Lib.hid hq
  have C4 := Lib.hid (dpush_any 0 2 5 w4 hq (HT.out.via HB4.out))
  clear hw ho hb hq hgp C3 HR3 HB3
  go_wp2_with fail
  rw [← HW.out]
  clear HW e0 e1 e2 z0 z1 z2
  refine C4.out.mono ?_
  rintro e v4 hgp
  obtain ⟨A4, c4, rfl, ho, hb⟩ := got_push4 (by omega) (by omega) (by omega) (by omega) hgp
  have e0 := (HR4.out.below hb HR4.out.lt).cell (j := 0) rfl
  have e1 := (HR4.out.below hb HR4.out.lt).cell (j := 1) rfl
  have e2 := (HR4.out.below hb HR4.out.lt).cell (j := 2) rfl
  have z0 := (HR4.out.below hb HR4.out.lt).frozen 0
  have z1 := (HR4.out.below hb HR4.out.lt).frozen 1
  have z2 := (HR4.out.below hb HR4.out.lt).frozen 2
  obtain ⟨w5, hw⟩ : ∃ w5, w5 = ((v4.setCell ⟨g, 0, none⟩ (.slice A4 4 c4)).setCell ⟨g, 1, none⟩ (.int .i64 0)).setCell ⟨g, 2, none⟩ (.int .i64 3) := ⟨_, rfl⟩
  have HR5 : Hid (RowV g 27 [.slice A4 4 c4, .int .i64 0, .int .i64 3] w5) := Lib.hid (by rw [hw]; exact (((HR4.out.below hb HR4.out.lt).set 0 _).set 1 _).set 2 _)
  have HB5 : Hid (Below w.heap.size w w5) := Lib.hid (by rw [hw]; exact (((HB4.out.trans (hb.mono HB4.out.size)).setCell (by exact HG.out) _).setCell (by exact HG.out) _).setCell (by exact HG.out) _)
  have hq : IsQ w5 A4 4 c4 [3, 4, 5, 0] := by
    rw [hw]
    exact own_isQ (((ho.1.setFar HR4.out.lt).setFar HR4.out.lt).setFar HR4.out.lt) rfl (by decide)
  have HW := Lib.hid hw
  have HQ5 := Lib.hid hq
  have C5 := Lib.hid (dtake_any 0 3 false w5 hq (HT.out.via HB5.out))
  clear hw ho hb hq hgp C4 HR4 HB4
  have f0 := HR5.out.cell (j := 0) rfl
  have f1 := HR5.out.cell (j := 1) rfl
  have f2 := HR5.out.cell (j := 2) rfl
  go_wp2_with fail
  rw [← HW.out]
  clear HW e0 e1 e2 z0 z1 z2
  refine C5.out.mono ?_
  rintro e v5 hgr
  obtain ⟨A5, c5, rfl, ho, hb⟩ := got_run4 awk_pop hgr
  simp only
  obtain ⟨w6, hw⟩ : ∃ w6, w6 = (v5.alloc (.cells #[.slice A5 4 c5, .int .i64 0, .int .i64 2] 27)).alloc (.cells #[.bool false, .int .i64 1, .int .i64 0, .int .i64 2, .int .i64 5, .int .i64 1] 42) := ⟨_, rfl⟩
  have hbb : Below w5.heap.size w5 w6 := by rw [hw]; exact hb.trans ((below2 _ _ 0).mono hb.size)
  obtain ⟨g6, hg6⟩ : ∃ g6, g6 = v5.heap.size := ⟨_, rfl⟩
  have HR6 := Lib.hid (HR5.out.below hbb HR5.out.lt)
  have HB6 := Lib.hid (HB5.out.trans (hbb.mono HB5.out.size))
  have HQ6 := Lib.hid (HQ5.out.below hbb)
  have HS6 : Hid (RowV g6 27 [.slice A5 4 c5, .int .i64 0, .int .i64 2] w6) := Lib.hid (by rw [hw, hg6]; exact RowV.alloc (RowV.new _ _ _) _)
  have HU6 : Hid (RowV (g6 + 1) 42 [.bool false, .int .i64 1, .int .i64 0, .int .i64 2, .int .i64 5, .int .i64 1] w6) := Lib.hid (by
    rw [hw, hg6]
    have := RowV.new (v5.alloc (.cells #[.slice A5 4 c5, .int .i64 0, .int .i64 2] 27)) 42 [.bool false, .int .i64 1, .int .i64 0, .int .i64 2, .int .i64 5, .int .i64 1]
    simpa using this)
  have hq : IsQ w6 A5 4 c5 [3, 4, 5, 0] := by rw [hw]; exact ho.isQ.below (below2 _ _ 0)
  have C6 := Lib.hid (dtake_any 0 2 true w6 hq (HT.out.via HB6.out))
  have HW := Lib.hid hw
  have HG6 := Lib.hid hg6
  clear hw ho hb hbb hq hg6 hgr C5 HR5 HB5 HQ5 f0 f1 f2
  go_wp2_with fail
  rw [← HW.out, ← HG6.out]
  clear HW HG6
  refine C6.out.mono ?_
  rintro e v6 hgr
  obtain ⟨A6, c6, rfl, ho, hb⟩ := got_run4 awk_steal hgr
  simp only
  obtain ⟨w7, hw⟩ : ∃ w7, w7 = (v6.alloc (.cells #[.slice A6 4 c6, .int .i64 1, .int .i64 2] 27)).alloc (.cells #[.bool true, .int .i64 3, .int .i64 0, .int .i64 2, .int .i64 3, .int .i64 1] 42) := ⟨_, rfl⟩
  have hbb : Below w6.heap.size w6 w7 := by rw [hw]; exact hb.trans ((below2 _ _ 0).mono hb.size)
  obtain ⟨g7, hg7⟩ : ∃ g7, g7 = v6.heap.size := ⟨_, rfl⟩
  have HR7 := Lib.hid (HR6.out.below hbb HR6.out.lt)
  have HB7 := Lib.hid (HB6.out.trans (hbb.mono HB6.out.size))
  have HQ7 := Lib.hid (HQ6.out.below hbb)
  have HU7 := Lib.hid (HU6.out.below hbb HU6.out.lt)
  have HS7 : Hid (RowV g7 27 [.slice A6 4 c6, .int .i64 1, .int .i64 2] w7) := Lib.hid (by rw [hw, hg7]; exact RowV.alloc (RowV.new _ _ _) _)
  have HV7 : Hid (RowV (g7 + 1) 42 [.bool true, .int .i64 3, .int .i64 0, .int .i64 2, .int .i64 3, .int .i64 1] w7) := Lib.hid (by
    rw [hw, hg7]
    have := RowV.new (v6.alloc (.cells #[.slice A6 4 c6, .int .i64 1, .int .i64 2] 27)) 42 [.bool true, .int .i64 3, .int .i64 0, .int .i64 2, .int .i64 3, .int .i64 1]
    simpa using this)
  have HK7 : Hid (IsQ w7 A6 4 c6 [3, 4, 5, 0]) := Lib.hid (by rw [hw]; exact ho.isQ.below (below2 _ _ 0))
  have C7 := Lib.hid (dstep_any 0 3 (newTk true) w7 HQ7.out (HT.out.via HB7.out))
  unfold vT newTk at C7
  have HW := Lib.hid hw
  have HG7 := Lib.hid hg7
  have F6 := HR6.out.below hb HR6.out.lt
  have f0 := F6.cell (j := 0) rfl
  have f1 := F6.cell (j := 1) rfl
  have f2 := F6.cell (j := 2) rfl
  have hlt6 := F6.lt
  clear F6 hw ho hb hbb hg7 hgr C6 HR6 HB6 HQ6 HU6 HS6
  go_wp2_with fail
  rw [← HW.out, ← HG7.out]
  clear HW HG7 f0 f1 f2 hlt6
  refine C7.out.mono ?_
  rintro e v7 hgr
  obtain ⟨A7, c7, rfl, ho, hb⟩ := got_run4 awk_step hgr
  simp only
  obtain ⟨w8, hw⟩ : ∃ w8, w8 = (v7.alloc (.cells #[.slice A7 4 c7, .int .i64 0, .int .i64 3] 27)).alloc (.cells #[.bool true, .int .i64 1, .int .i64 0, .int .i64 0, .int .i64 0, .int .i64 0] 42) := ⟨_, rfl⟩
  have hbb : Below w7.heap.size w7 w8 := by rw [hw]; exact hb.trans ((below2 _ _ 0).mono hb.size)
  obtain ⟨g8, hg8⟩ : ∃ g8, g8 = v7.heap.size := ⟨_, rfl⟩
  have HR8 := Lib.hid (HR7.out.below (hbb) HR7.out.lt)
  have HU8 := Lib.hid (HU7.out.below (hbb) HU7.out.lt)
  have HS8 := Lib.hid (HS7.out.below (hbb) HS7.out.lt)
  have HV8 := Lib.hid (HV7.out.below (hbb) HV7.out.lt)
  have HB8 := Lib.hid (HB7.out.trans (hbb.mono HB7.out.size))
  have HQ8 := Lib.hid (HQ7.out.below hbb)
  have HK8 := Lib.hid (HK7.out.below hbb)
  have HX8 : Hid (RowV (g8 + 1) 42 [.bool true, .int .i64 1, .int .i64 0, .int .i64 0, .int .i64 0, .int .i64 0] w8) := Lib.hid (by
    rw [hw, hg8]
    have := RowV.new (v7.alloc (.cells #[.slice A7 4 c7, .int .i64 0, .int .i64 3] 27)) 42 [.bool true, .int .i64 1, .int .i64 0, .int .i64 0, .int .i64 0, .int .i64 0]
    simpa using this)
  have C8 := Lib.hid (dnew_any 3 w8 (HT.out.via HB8.out))
  have HW := Lib.hid hw
  have HG8 := Lib.hid hg8
  clear hw ho hb hbb hg8 hgr C7 HR7 HB7 HQ7 HU7 HS7 HV7 HK7
  go_wp2_with fail
  rw [← HW.out, ← HG8.out]
  clear HW HG8
  refine C8.out.mono ?_
  rintro e v8 ⟨A8, n8, c8, rfl, ho, hb⟩
  rw [show newEd 3 = 120 from by decide +kernel]
  obtain ⟨w9, hw⟩ : ∃ w9, w9 = v8.alloc (.cells #[.slice A8 n8 c8, .int .i64 0, .int .i64 0] 27) := ⟨_, rfl⟩
  have hbb : Below w8.heap.size w8 w9 := by rw [hw]; exact hb.trans ((below_alloc _).mono hb.size)
  have FR := HR8.out.below hb HR8.out.lt
  have FU := HU8.out.below hb HU8.out.lt
  have FS := HS8.out.below hb HS8.out.lt
  have FV := HV8.out.below hb HV8.out.lt
  have FX := HX8.out.below hb HX8.out.lt
  have fR0 := FR.cell (j := 0) rfl
  have fR1 := FR.cell (j := 1) rfl
  have fR2 := FR.cell (j := 2) rfl
  have fRl := FR.lt
  have fU0 := FU.cell (j := 0) rfl
  have fU1 := FU.cell (j := 1) rfl
  have fU2 := FU.cell (j := 2) rfl
  have fU3 := FU.cell (j := 3) rfl
  have fU4 := FU.cell (j := 4) rfl
  have fU5 := FU.cell (j := 5) rfl
  have fUl := FU.lt
  have fS0 := FS.cell (j := 0) rfl
  have fS1 := FS.cell (j := 1) rfl
  have fS2 := FS.cell (j := 2) rfl
  have fSl := FS.lt
  have fV0 := FV.cell (j := 0) rfl
  have fV1 := FV.cell (j := 1) rfl
  have fV2 := FV.cell (j := 2) rfl
  have fV3 := FV.cell (j := 3) rfl
  have fV4 := FV.cell (j := 4) rfl
  have fV5 := FV.cell (j := 5) rfl
  have fVl := FV.lt
  have fX0 := FX.cell (j := 0) rfl
  have fX1 := FX.cell (j := 1) rfl
  have fX2 := FX.cell (j := 2) rfl
  have fX3 := FX.cell (j := 3) rfl
  have fX4 := FX.cell (j := 4) rfl
  have fX5 := FX.cell (j := 5) rfl
  have fXl := FX.lt
  have HR9 := Lib.hid (HR8.out.below (hbb) HR8.out.lt)
  have HU9 := Lib.hid (HU8.out.below (hbb) HU8.out.lt)
  have HS9 := Lib.hid (HS8.out.below (hbb) HS8.out.lt)
  have HV9 := Lib.hid (HV8.out.below (hbb) HV8.out.lt)
  have HX9 := Lib.hid (HX8.out.below (hbb) HX8.out.lt)
  have HB9 := Lib.hid (HB8.out.trans (hbb.mono HB8.out.size))
  have HQ9 := Lib.hid (HQ8.out.below hbb)
  have HK9 := Lib.hid (HK8.out.below hbb)
  have C9 := Lib.hid (ditems_any 1 2 w9 HK9.out (HT.out.via HB9.out))
  have HW := Lib.hid hw
  clear hw ho hb hbb C8 HR8 HB8 HQ8 HU8 HS8 HV8 HK8 HX8 FR FU FS FV FX
  go_wp2_with fail
  rw [← HW.out]
  clear HW
  clear fR0 fR1 fR2 fRl fU0 fU1 fU2 fU3 fU4 fU5 fUl fS0 fS1 fS2 fSl fV0 fV1 fV2 fV3 fV4 fV5 fVl fX0 fX1 fX2 fX3 fX4 fX5 fXl
  refine C9.out.mono ?_
  rintro e v9 ⟨A9, n9, c9, rfl, ho, hb⟩
  rw [awk_items] at ho
  obtain rfl : n9 = 1 := ho.2.1.symm
  obtain ⟨w10, hw⟩ : ∃ w10, w10 = v9.alloc (.cells #[.int .i64 4] 3) := ⟨_, rfl⟩
  obtain ⟨g10, hg10⟩ : ∃ g10, g10 = v9.heap.size := ⟨_, rfl⟩
  have hbb : Below w9.heap.size w9 w10 := by rw [hw]; exact hb.trans ((below_alloc _).mono hb.size)
  have HR10 := Lib.hid (HR9.out.below (hbb) HR9.out.lt)
  have HU10 := Lib.hid (HU9.out.below (hbb) HU9.out.lt)
  have HS10 := Lib.hid (HS9.out.below (hbb) HS9.out.lt)
  have HV10 := Lib.hid (HV9.out.below (hbb) HV9.out.lt)
  have HX10 := Lib.hid (HX9.out.below (hbb) HX9.out.lt)
  have HB10 := Lib.hid (HB9.out.trans (hbb.mono HB9.out.size))
  have HQ10 := Lib.hid (HQ9.out.below hbb)
  have HK10 := Lib.hid (HK9.out.below hbb)
  have hi1 : Ints w10 w10.heap.size A9 [4] := by rw [hw]; exact (ho.isQ.below (below_alloc _)).ints
  have hi2 : Ints w10 w10.heap.size (some ⟨g10, 0, none⟩) [4] := fun _ => ⟨g10, 0, rfl, by rw [hw, hg10]; simp, fun k hk => by
    obtain rfl : k = 0 := by simp at hk; omega
    rw [hw, hg10, World.cell?_alloc_at _ _ _ _ rfl]; rfl⟩
  have C10 := Lib.hid (ints_any w10.heap.size A9 (some ⟨g10, 0, none⟩) c9 1 [4] [4] w10 (by decide) (by decide) hi1 hi2)
  rw [decide_eq_true (show ([4] : List Int) = [4] from rfl)] at C10
  have HW := Lib.hid hw
  have HG10 := Lib.hid hg10
  clear hw ho hb hbb hi1 hi2 hg10 C9 HR9 HB9 HQ9 HU9 HS9 HV9 HK9 HX9
  go_wp2_with fail
  rw [← HW.out, ← HG10.out]
  clear HW HG10
  refine C10.out.mono ?_
  rintro e w11 ⟨rfl, N, hdr⟩
  have hbb : Below w10.heap.size w10 w11 := by rw [hdr]; exact below_drewN (Below.refl _ _) N
  have HR11 := Lib.hid (HR10.out.below (hbb) HR10.out.lt)
  have HU11 := Lib.hid (HU10.out.below (hbb) HU10.out.lt)
  have HS11 := Lib.hid (HS10.out.below (hbb) HS10.out.lt)
  have HV11 := Lib.hid (HV10.out.below (hbb) HV10.out.lt)
  have HX11 := Lib.hid (HX10.out.below (hbb) HX10.out.lt)
  have HB11 := Lib.hid (HB10.out.trans (hbb.mono HB10.out.size))
  have HQ11 := Lib.hid (HQ10.out.below hbb)
  have HK11 := Lib.hid (HK10.out.below hbb)
  have C11 := Lib.hid (dcheck_any A6 4 c6 1 2 w11 (by decide) (HT.out.via HB11.out))
  rw [awk_chk] at C11
  have fR0 := HR11.out.cell (j := 0) rfl
  have fR1 := HR11.out.cell (j := 1) rfl
  have fR2 := HR11.out.cell (j := 2) rfl
  have fRl := HR11.out.lt
  have fU0 := HU11.out.cell (j := 0) rfl
  have fU1 := HU11.out.cell (j := 1) rfl
  have fU2 := HU11.out.cell (j := 2) rfl
  have fU3 := HU11.out.cell (j := 3) rfl
  have fU4 := HU11.out.cell (j := 4) rfl
  have fU5 := HU11.out.cell (j := 5) rfl
  have fUl := HU11.out.lt
  have fS0 := HS11.out.cell (j := 0) rfl
  have fS1 := HS11.out.cell (j := 1) rfl
  have fS2 := HS11.out.cell (j := 2) rfl
  have fSl := HS11.out.lt
  have fV0 := HV11.out.cell (j := 0) rfl
  have fV1 := HV11.out.cell (j := 1) rfl
  have fV2 := HV11.out.cell (j := 2) rfl
  have fV3 := HV11.out.cell (j := 3) rfl
  have fV4 := HV11.out.cell (j := 4) rfl
  have fV5 := HV11.out.cell (j := 5) rfl
  have fVl := HV11.out.lt
  have fX0 := HX11.out.cell (j := 0) rfl
  have fX1 := HX11.out.cell (j := 1) rfl
  have fX2 := HX11.out.cell (j := 2) rfl
  have fX3 := HX11.out.cell (j := 3) rfl
  have fX4 := HX11.out.cell (j := 4) rfl
  have fX5 := HX11.out.cell (j := 5) rfl
  have fXl := HX11.out.lt
  clear hdr hbb C10 HR10 HB10 HQ10 HU10 HS10 HV10 HK10 HX10
  go_wp2_with fail
  refine C11.out.mono ?_
  rintro e w12 ⟨rfl, hbb⟩
  clear fR0 fR1 fR2 fRl fU0 fU1 fU2 fU3 fU4 fU5 fUl fS0 fS1 fS2 fSl fV0 fV1 fV2 fV3 fV4 fV5 fVl fX0 fX1 fX2 fX3 fX4 fX5 fXl
  have HR12 := Lib.hid (HR11.out.below (hbb) HR11.out.lt)
  have HU12 := Lib.hid (HU11.out.below (hbb) HU11.out.lt)
  have HS12 := Lib.hid (HS11.out.below (hbb) HS11.out.lt)
  have HV12 := Lib.hid (HV11.out.below (hbb) HV11.out.lt)
  have HX12 := Lib.hid (HX11.out.below (hbb) HX11.out.lt)
  have HB12 := Lib.hid (HB11.out.trans (hbb.mono HB11.out.size))
  have HQ12 := Lib.hid (HQ11.out.below hbb)
  have HK12 := Lib.hid (HK11.out.below hbb)
  have C12 := Lib.hid (dsame_d 1 2 1 2 w12 HK12.out HK12.out)
  rw [decide_eq_true (show SameQ [3, 4, 5, 0] 1 2 [3, 4, 5, 0] 1 2 from ⟨rfl, rfl, rfl⟩)] at C12
  have fR0 := HR12.out.cell (j := 0) rfl
  have fR1 := HR12.out.cell (j := 1) rfl
  have fR2 := HR12.out.cell (j := 2) rfl
  have fRl := HR12.out.lt
  have fU0 := HU12.out.cell (j := 0) rfl
  have fU1 := HU12.out.cell (j := 1) rfl
  have fU2 := HU12.out.cell (j := 2) rfl
  have fU3 := HU12.out.cell (j := 3) rfl
  have fU4 := HU12.out.cell (j := 4) rfl
  have fU5 := HU12.out.cell (j := 5) rfl
  have fUl := HU12.out.lt
  have fS0 := HS12.out.cell (j := 0) rfl
  have fS1 := HS12.out.cell (j := 1) rfl
  have fS2 := HS12.out.cell (j := 2) rfl
  have fSl := HS12.out.lt
  have fV0 := HV12.out.cell (j := 0) rfl
  have fV1 := HV12.out.cell (j := 1) rfl
  have fV2 := HV12.out.cell (j := 2) rfl
  have fV3 := HV12.out.cell (j := 3) rfl
  have fV4 := HV12.out.cell (j := 4) rfl
  have fV5 := HV12.out.cell (j := 5) rfl
  have fVl := HV12.out.lt
  have fX0 := HX12.out.cell (j := 0) rfl
  have fX1 := HX12.out.cell (j := 1) rfl
  have fX2 := HX12.out.cell (j := 2) rfl
  have fX3 := HX12.out.cell (j := 3) rfl
  have fX4 := HX12.out.cell (j := 4) rfl
  have fX5 := HX12.out.cell (j := 5) rfl
  have fXl := HX12.out.lt
  clear hbb C11 HR11 HB11 HQ11 HU11 HS11 HV11 HK11 HX11
  go_wp2_with fail
  refine C12.out.mono ?_
  rintro e w13 ⟨rfl, hbb⟩
  clear fR0 fR1 fR2 fRl fU0 fU1 fU2 fU3 fU4 fU5 fUl fS0 fS1 fS2 fSl fV0 fV1 fV2 fV3 fV4 fV5 fVl fX0 fX1 fX2 fX3 fX4 fX5 fXl
  have HR13 := Lib.hid (HR12.out.below (hbb) HR12.out.lt)
  have HU13 := Lib.hid (HU12.out.below (hbb) HU12.out.lt)
  have HS13 := Lib.hid (HS12.out.below (hbb) HS12.out.lt)
  have HV13 := Lib.hid (HV12.out.below (hbb) HV12.out.lt)
  have HX13 := Lib.hid (HX12.out.below (hbb) HX12.out.lt)
  have HB13 := Lib.hid (HB12.out.trans (hbb.mono HB12.out.size))
  have HQ13 := Lib.hid (HQ12.out.below hbb)
  have HK13 := Lib.hid (HK12.out.below hbb)
  have C13 := Lib.hid (dsame_d 1 2 0 3 w13 HK13.out HQ13.out)
  rw [decide_eq_false awk_same] at C13
  have fR0 := HR13.out.cell (j := 0) rfl
  have fR1 := HR13.out.cell (j := 1) rfl
  have fR2 := HR13.out.cell (j := 2) rfl
  have fRl := HR13.out.lt
  have fU0 := HU13.out.cell (j := 0) rfl
  have fU1 := HU13.out.cell (j := 1) rfl
  have fU2 := HU13.out.cell (j := 2) rfl
  have fU3 := HU13.out.cell (j := 3) rfl
  have fU4 := HU13.out.cell (j := 4) rfl
  have fU5 := HU13.out.cell (j := 5) rfl
  have fUl := HU13.out.lt
  have fS0 := HS13.out.cell (j := 0) rfl
  have fS1 := HS13.out.cell (j := 1) rfl
  have fS2 := HS13.out.cell (j := 2) rfl
  have fSl := HS13.out.lt
  have fV0 := HV13.out.cell (j := 0) rfl
  have fV1 := HV13.out.cell (j := 1) rfl
  have fV2 := HV13.out.cell (j := 2) rfl
  have fV3 := HV13.out.cell (j := 3) rfl
  have fV4 := HV13.out.cell (j := 4) rfl
  have fV5 := HV13.out.cell (j := 5) rfl
  have fVl := HV13.out.lt
  have fX0 := HX13.out.cell (j := 0) rfl
  have fX1 := HX13.out.cell (j := 1) rfl
  have fX2 := HX13.out.cell (j := 2) rfl
  have fX3 := HX13.out.cell (j := 3) rfl
  have fX4 := HX13.out.cell (j := 4) rfl
  have fX5 := HX13.out.cell (j := 5) rfl
  have fXl := HX13.out.lt
  clear hbb C12 HR12 HB12 HQ12 HU12 HS12 HV12 HK12 HX12
  go_wp2_with fail
  refine C13.out.mono ?_
  rintro e w14 ⟨rfl, hbb⟩
  have HB14 := Lib.hid (HB13.out.trans (hbb.mono HB13.out.size))
  clear fR0 fR1 fR2 fRl fU0 fU1 fU2 fU3 fU4 fU5 fUl fS0 fS1 fS2 fSl fV0 fV1 fV2 fV3 fV4 fV5 fVl fX0 fX1 fX2 fX3 fX4 fX5 fXl
  clear hbb C13 HR13 HB13 HQ13 HU13 HS13 HV13 HK13 HX13
  go_wp2
  go_ret
  exact ⟨rfl, HB14.out⟩
end Go.Proofs.YtcjmljpfhabmnaaDoor
set_option linter.unusedVariables false
set_option linter.unusedSimpArgs false
namespace Go.Proofs.YtcjmljpfhabmnaaDoor
open Go Go.RowKit

section
variable {A : Option Addr} {n c : Nat} {R : List Int}
def rowsTk (A : Option Addr) (n c : Nat) (T B : Int) (t : Tkr) (v x y : Value) (u : Tkr) : List (TypeId × List Value) :=
  [(27, [.slice A n c, .int .i64 T, .int .i64 B]), (27, [v, x, y]), (42, cT u), (42, cT t)]
theorem gs_ok {V : Value} {S : Int × Int × Int × Tkr} {T B a tp bt gt en : Int} {st : Bool} (hV : V = if S.1 = 0 then Value.slice A n c else Value.slice none 0 0) (h : S = (0, T, B, ⟨st, a, tp, bt, gt, en⟩)) :
    Ending.returned (.tuple #[.agg #[.slice A n c, .int .i64 T, .int .i64 B], .agg #[.bool st, .int .i64 a, .int .i64 tp, .int .i64 bt, .int .i64 gt, .int .i64 en], .int .i64 0]) = Ending.returned (.tuple #[.agg #[V, .int .i64 S.2.1, .int .i64 S.2.2.1], .agg #[.bool S.2.2.2.steal, .int .i64 S.2.2.2.at_, .int .i64 S.2.2.2.top, .int .i64 S.2.2.2.bot, .int .i64 S.2.2.2.got, .int .i64 S.2.2.2.end_], .int .i64 S.1]) := by
  subst h
  rw [hV, if_pos rfl]
theorem gs_bad {V : Value} {S : Int × Int × Int × Tkr} {z : Int} (hV : V = if S.1 = 0 then Value.slice A n c else Value.slice none 0 0) (h : S = (z, 0, 0, newTk false)) (hz : z ≠ 0) :
    Ending.returned (.tuple #[.agg #[.slice none 0 0, .int .i64 0, .int .i64 0], .agg #[.bool false, .int .i64 0, .int .i64 0, .int .i64 0, .int .i64 0, .int .i64 0], .int .i64 z]) = Ending.returned (.tuple #[.agg #[V, .int .i64 S.2.1, .int .i64 S.2.2.1], .agg #[.bool S.2.2.2.steal, .int .i64 S.2.2.2.at_, .int .i64 S.2.2.2.top, .int .i64 S.2.2.2.bot, .int .i64 S.2.2.2.got, .int .i64 S.2.2.2.end_], .int .i64 S.1]) := by
  subst h
  rw [hV, if_neg hz]
  rfl
end
end Go.Proofs.YtcjmljpfhabmnaaDoor
set_option linter.unusedVariables false
namespace Go.Proofs.YtcjmljpfhabmnaaDoor
open Go.ChangeShapes Go.WideShapes Go.ChangeAt Go.RowKit Go.Joins Go.Deep

/-- A ring that came in, of whatever length. -/
structure InD (w : World) (A : Option Addr) (n c : Nat) (R : List Int) : Prop where
  hn : R.length = n
  big : n ≤ 9223372036854775807
  ints : Ints w w.heap.size A R
  hA : A = none → n = 0 ∧ c = 0
theorem InD.isQ {w : World} {A : Option Addr} {n c : Nat} {R : List Int} (h : InD w A n c R) : n ≤ 130 → IsQ w A n c R := fun hn => ⟨h.hn, by omega, h.ints, h.hA⟩
section
variable {H : Type} {enc : TypeId × Value → H} {W : World}
set_option maxRecDepth 100000 in
theorem open_intsD {fuel : Nat} {cs : List Value} {x : DataW H × List MemPlace} (h1 : DataW.trod enc Tryd.prog W 0 (fun _ => true) true fuel 25 cs = some x) :
    ∃ A n c, ∃ zs : List Int, cs = [.slice A n c] ∧ zs.length = n ∧ Ints W W.heap.size A zs ∧ n ≤ 9223372036854775807 ∧ n ≤ c ∧ (A = none → n = 0 ∧ c = 0) := by
  obtain ⟨A, n, c, zs, rfl, hrow⟩ : ∃ A n c zs, cs = [.slice A n c] ∧ IsRow .i64 W A n c zs := by
    rcases open_ints Tryd.underlying25 Tryd.underlying3 (by kernel_rfl) h1 with ⟨hcs, _⟩ | ⟨x, l, c, zs, hcs, _, hl, hm, hz, _, hcell, hwz⟩
    · exact ⟨none, 0, 0, [], hcs, .inl ⟨rfl, rfl, rfl, rfl⟩⟩
    · exact ⟨_, _, _, zs, hcs, .inr ⟨_, rfl, hl, hm, by simpa using hz, hcell, hwz⟩⟩
  obtain ⟨r1, r2, r3, r4, r5⟩ := row_ints hrow
  refine ⟨A, n, c, zs.take n, rfl, r2, r1, r4, r5, fun e => ?_⟩
  have := r3 e
  omega
set_option maxRecDepth 100000 in
theorem open_deque {base : Nat} {v : Value} {d : DataW H} {p : List MemPlace}
    (hv : Value.okWide Tryd.prog W .any base 27 v) (h : DataW.Trod enc Tryd.prog W 0 (fun _ => true) true 27 v d p) :
    ∃ A n c R T B, v = .agg #[.slice A n c, .int .i64 T, .int .i64 B] ∧ InD W A n c R := by
  obtain ⟨v0, v1, v2, y0, y1, y2, k, rfl, _, _, h0, h1, h2⟩ := open_agg3 Tryd.underlying27 (by kernel_rfl) (by kernel_rfl) hv h
  obtain ⟨A, n, c, zs, e0, l0, m0, b0, s0, w0⟩ := open_intsD h0
  obtain ⟨n1, e1, _, _⟩ := DataW.trod_int Tryd.underlying3 h1
  obtain ⟨n2, e2, _, _⟩ := DataW.trod_int Tryd.underlying3 h2
  simp at e0 e1 e2
  subst e0 e1 e2
  exact ⟨A, n, c, zs, n1, n2, rfl, l0, b0, m0, w0⟩
theorem array6 {α : Type} {cs : Array α} (h : cs.size = 6) : ∃ c0 c1 c2 c3 c4 c5, cs = #[c0, c1, c2, c3, c4, c5] := by
  obtain ⟨l⟩ := cs
  match l, h with
  | [c0, c1, c2, c3, c4, c5], _ => exact ⟨c0, c1, c2, c3, c4, c5, rfl⟩
set_option maxRecDepth 100000 in
theorem open_taker {base : Nat} {v : Value} {d : DataW H} {p : List MemPlace}
    (hv : Value.okWide Tryd.prog W .any base 42 v) (h : DataW.Trod enc Tryd.prog W 0 (fun _ => true) true 42 v d p) :
    ∃ t : Tkr, v = vT t := by
  obtain ⟨cs, rfl, hsz⟩ := okWide_struct Tryd.underlying42 hv
  obtain ⟨c0, c1, c2, c3, c4, c5, rfl⟩ := array6 (hsz.trans (by kernel_rfl))
  obtain ⟨fuel, hf⟩ := h
  obtain ⟨xs, k, _, _, _, hlen, hx⟩ := DataW.trod_struct Tryd.underlying42 hf
  match xs, hlen with
  | [y0, y1, y2, y3, y4, y5], _ =>
    have cb : Tryd.prog.cellsOf 4 = 1 := by kernel_rfl
    have ci : Tryd.prog.cellsOf 3 = 1 := by kernel_rfl
    have ce : Tryd.prog.cellsOf 40 = 1 := by kernel_rfl
    have ec : (Value.agg #[c0, c1, c2, c3, c4, c5]).cells.toList = [c0, c1, c2, c3, c4, c5] := rfl
    have h0 := hx 0 _ rfl
    have h1 := hx 1 _ rfl
    have h2 := hx 2 _ rfl
    have h3 := hx 3 _ rfl
    have h4 := hx 4 _ rfl
    have h5 := hx 5 _ rfl
    simp only [ec] at h0 h1 h2 h3 h4 h5
    obtain ⟨b0, e0, _⟩ := DataW.trod_bool (x := y0) Tryd.underlying4 h0
    obtain ⟨n1, e1, _, _⟩ := DataW.trod_int (x := y1) Tryd.underlying3 h1
    obtain ⟨n2, e2, _, _⟩ := DataW.trod_int (x := y2) Tryd.underlying3 h2
    obtain ⟨n3, e3, _, _⟩ := DataW.trod_int (x := y3) Tryd.underlying3 h3
    obtain ⟨n4, e4, _, _⟩ := DataW.trod_int (x := y4) Tryd.underlying3 h4
    obtain ⟨n5, e5, _, _⟩ := DataW.trod_int (x := y5) Tryd.underlying40 h5
    simp [cb, ci, ce] at e0 e1 e2 e3 e4 e5
    subst e0 e1 e2 e3 e4 e5
    exact ⟨⟨b0, n1, n2, n3, n4, n5⟩, rfl⟩
end
end Go.Proofs.YtcjmljpfhabmnaaDoor
