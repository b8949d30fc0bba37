/- eval.Run in the seat YtecjpclkiiaidaaGreatDoor: its contract. No statement is proved here. -/
import Derived.Test.YtecjpclkiiaidaaGreatDoorZEvalFinish
import Derived.Test.YtecjpclkiiaidaaGreatDoorZM19
set_option linter.unusedSimpArgs false
set_option linter.unusedVariables false
namespace Go.Proofs.YtecjpclkiiaidaaGreatDoor
open Go.RowKit

/-- What Run hands back. -/
def GotRun (T : Task) (inp : List Int) (w : World) (e : Ending) (w' : World) : Prop :=
  (∃ A k c, e = .returned (.tuple #[.slice A k c, .int .i64 (lowX T)]) ∧ (runV T inp).length = k ∧ Ints w' w'.heap.size A (runV T inp)) ∧ Below w.heap.size w w'
section
variable {s : Sh} {T : Task} {inp : List Int} {Ai : Option Addr} {ni ci : Nat}
set_option maxRecDepth 100000 in
set_option maxHeartbeats 32000000 in
theorem run_bad (w : World) (hD : IsD w s T) (hN : ¬ LowOk T) :
    Calls Tryz.prog 26 #[s.arg T.period T.deadline, .slice Ai ni ci] w (GotRun T inp w) := by
  have hX : lowX T ≠ 0 := fun k => hN (lowX_zero.mp k)
  have HRV : Hid (runV T inp = []) := Lib.hid (by unfold runV; rw [if_neg hN])
  have HS := Lib.hid (Bx1T.start hD.t)
  have HD := Lib.hid hD
  obtain ⟨P, np, pc, E, ne, ec, Fu, nf, fc, R, nr, rc⟩ := s
  obtain ⟨nw, hnw⟩ : ∃ n, (lowWv T).length = n := ⟨_, rfl⟩
  obtain ⟨nE, hnE⟩ : ∃ n, (lowEv T).length = n := ⟨_, rfl⟩
  obtain ⟨nP, hnP⟩ : ∃ n, (lowPv T).length = n := ⟨_, rfl⟩
  have CL := Lib.hid (fun W s (h : IsD W s T) => lower_sz hnw hnE hnP h)
  obtain ⟨r, hr⟩ : ∃ r, r = lowX T := ⟨_, rfl⟩
  unfold GotRun
  rw [← hr] at CL hX ⊢
  have hb : (r != 0) = true := bne_iff_ne.mpr hX
  simp only at HS
  obtain ⟨w0, hw0⟩ : ∃ w0, w0 = w.alloc (.cells #[.int .i64 T.period, .int .i64 T.deadline, .slice P np pc, .slice E ne ec, .slice Fu nf fc, .slice R nr rc] 34) := ⟨_, rfl⟩
  rw [← hw0] at HS
  have hb0 : Below w.heap.size w w0 := by rw [hw0]; exact below_alloc _
  have HD0 := Lib.hid (HD.out.below hb0)
  have HB0 := Lib.hid hb0
  have HW := Lib.hid hw0
  clear hD hX hr hw0 hb0 HD hnw hnE hnP
  go_enter Tryz.func26, Tryz.ntmps26
  go_wp2_with fail
  rw [← HW.out]
  clear HW
  refine (CL.out _ _ HD0.out).mono ?_
  rintro e w2 ⟨A1, c1, F1, d1, R1, e1, rfl, _, b2⟩
  have HB2 := Lib.hid (HB0.out.trans (b2.mono HB0.out.size))
  clear b2 CL HD0 HS HB0
  go_wp2
  refine bodyPost_ret (v := .tuple #[.slice none 0 0, .int .i64 r]) (by simp [results, Tryz.results26, go_sem]) rfl ?_
  exact ⟨⟨none, 0, 0, rfl, by rw [HRV.out]; rfl, by rw [HRV.out]; exact Ints.nil_ _ _ _⟩, HB2.out.alloc HB2.out.size _⟩
set_option maxRecDepth 100000 in
set_option maxHeartbeats 32000000 in
theorem run_ok (w : World) (hD : IsD w s T) (hL : LowOk T) (hI : Ints w w.heap.size Ai inp) (hi : inp.length = ni) (li : ni ≤ 1000) :
    Calls Tryz.prog 26 #[s.arg T.period T.deadline, .slice Ai ni ci] w (GotRun T inp w) := by
  have hX := lowX_zero.mpr hL
  have HLE := Lib.hid (low_few hL.1)
  have HPL := Lib.hid hD.t.hp
  have hnp4 : s.np ≤ 400 := by have h1 := hD.few.np; have h2 := hD.t.hp; omega
  have HS := Lib.hid (show Bx1D w s T _ from ⟨(Bx1T.start hD.t).bel, (Bx1T.start hD.t).c, hD.below (below_alloc _)⟩)
  have HI := Lib.hid hI
  have HNI := Lib.hid hi
  have HOK := Lib.hid hL
  have CL := Lib.hid (fun W s (h : IsD W s T) => lower_ok hL h)
  obtain ⟨P, np, pc, E, ne, ec, Fu, nf, fc, R, nr, rc⟩ := s
  simp only at HS HPL hnp4
  have hnodes : (lowW T).length = (lowP T).length := by rw [lowW_len hL.1, lowP_len hL.1]
  obtain ⟨ls, hls⟩ : ∃ ls, ls = ord (lowW T).length (lowE T) := ⟨_, rfl⟩
  have hordd : Ordered (lowW T).length (lowE T) ls := by rw [hls]; exact ordK_ordered hL.2.fits _
  have hordl : ls.length = (lowW T).length := by rw [hls]; exact ordK_length hL.2.fits hL.2.acyc _ (Nat.le_refl _)
  have HRV : Hid (runV T inp = runK T inp ls) := Lib.hid (by unfold runV; rw [if_pos hL, hls])
  have hrep : List.replicate T.parts.length (0 : Int) = runK T inp [] := rfl
  have HREP : Hid (List.replicate np (0 : Int) = runK T inp []) := Lib.hid (by rw [← HPL.out]; exact hrep)
  have HRL := Lib.hid (fun l => (runK_len T inp l).trans HPL.out)
  have HLS := Lib.hid hls
  obtain ⟨nw, hnw⟩ : ∃ n, (lowW T).length = n := ⟨_, rfl⟩
  obtain ⟨nE, hnE⟩ : ∃ n, (lowE T).length = n := ⟨_, rfl⟩
  obtain ⟨nP, hnP⟩ : ∃ n, (lowP T).length = n := ⟨_, rfl⟩
  rw [hnw, hnE, hnP] at CL HLE
  rw [hnw] at hordd hordl HLS
  rw [hnw, hnP] at hnodes
  subst hnodes
  have HOR := Lib.hid hordd
  have HOL := Lib.hid hordl
  have HNP := Lib.hid hnP
  have hnp3 : nw ≤ 400 := by have := HLE.out.2.2; omega
  unfold GotRun
  rw [hX]
  obtain ⟨w0, hw0⟩ : ∃ w0, w0 = w.alloc (.cells #[.int .i64 T.period, .int .i64 T.deadline, .slice P np pc, .slice E ne ec, .slice Fu nf fc, .slice R nr rc] 34) := ⟨_, rfl⟩
  rw [← hw0] at HS
  have hi0 : Ints w0 w0.heap.size Ai inp := by
    have hb : Below w.heap.size w w0 := HS.out.bel
    exact (hI.below hb).more hb.size
  have HI0 := Lib.hid hi0
  have HW := Lib.hid hw0
  clear hD hL hI hi hX hw0 hi0 hnw hnE hnP hordd hordl hls hrep HI
  go_enter Tryz.func26, Tryz.ntmps26
  go_wp2_with fail
  rw [← HW.out]
  clear HW
  refine (CL.out _ _ HS.out.d).mono ?_
  rintro e w1 ⟨A1, c1, F1, d1, R1, e1, rfl, hl, b1⟩
  obtain ⟨w2, hw2⟩ : ∃ w2, w2 = w1.alloc (.cells #[.slice A1 nw c1, .slice F1 nE d1, .slice R1 nw e1] 60) := ⟨_, rfl⟩
  have hb2 : Below w1.heap.size w1 w2 := by rw [hw2]; exact below_alloc _
  have hrl : w2.heap[w1.heap.size]? = some (.cells #[.slice A1 nw c1, .slice F1 nE d1, .slice R1 nw e1] 60 (0, 0)) := by rw [hw2]; exact heap_alloc_new w1 _
  have S2 := (HS.out.next b1).next hb2
  have hi2 := ((HI0.out.below b1).more b1.size).below hb2
  have HI2 := Lib.hid (hi2.more hb2.size)
  have HS2 := Lib.hid S2
  have HL2 := Lib.hid (hl.below hb2)
  have HR2 := Lib.hid hrl
  have HLT : Hid (w1.heap.size < w2.heap.size) := Lib.hid (by rw [hw2]; simp)
  have HW2 := Lib.hid hw2
  obtain ⟨t0, t1, t2, t3, t4, t5⟩ := S2.c
  simp only at t2 t3 t4 t5
  have l0 := cell_of_row w2 _ 0 _ _ _ hrl
  have l1 := cell_of_row w2 _ 1 _ _ _ hrl
  have l2 := cell_of_row w2 _ 2 _ _ _ hrl
  simp at l0 l1 l2
  rw [hw2] at t0 t1 t2 t3 t4 t5 l0 l1 l2
  clear b1 hl hb2 hrl S2 hi2 hw2 HS CL HI0
  go_wp2_with fail
  rw [← HW2.out]
  clear HW2 t0 t1 t2 t3 t4 t5 l0 l1 l2
  refine (nothing_any w2 hnp3 hnp4).mono ?_
  rintro e w3 ⟨gD, gV, rfl, hgD, hgV, hrD, hrV, b3⟩
  have HST3 : Hid (StM w2 gD gV (List.replicate nw false) (List.replicate np 0) w3) := Lib.hid ⟨b3, hgD, hgV, hrD.rowC, hrV.rowC⟩
  have HI3 := Lib.hid ((HI2.out.below b3).more b3.size)
  have HRR := Lib.hid (And.intro hrD.lt hrV.lt)
  clear b3 hrD hrV hgD hgV
  go_wp2_with fail
  refine (places_any Ai ni ci inp w3 HNI.out li HI3.out).mono ?_
  rintro e w4 ⟨b, kb, DM, rfl, hbl, hO4, hT4, b4⟩
  obtain ⟨w5, hw5⟩ : ∃ w5, w5 = w4.alloc (.cells #[.slice (some ⟨gD, 0, none⟩) nw nw, .slice (some ⟨gV, 0, none⟩) np np] 37) := ⟨_, rfl⟩
  have hb5 : Below w4.heap.size w4 w5 := by rw [hw5]; exact below_alloc _
  have hr5 : w5.heap[w4.heap.size]? = some (.cells #[.slice (some ⟨gD, 0, none⟩) nw nw, .slice (some ⟨gV, 0, none⟩) np np] 37 (0, 0)) := by rw [hw5]; exact heap_alloc_new w4 _
  have HS5 : Hid (w4.heap.size < w5.heap.size) := Lib.hid (by rw [hw5]; simp)
  have HST5 := Lib.hid ((HST3.out.next b4).next hb5)
  have HO5 := Lib.hid (hO4.below hb5)
  have HTI := Lib.hid hT4
  have HNE : Hid (b ≠ gD ∧ b ≠ gV ∧ w4.heap.size ≠ gD ∧ w4.heap.size ≠ gV ∧ gD < w4.heap.size ∧ gV < w4.heap.size) := Lib.hid (by
    have h1 := HRR.out.1
    have h2 := HRR.out.2
    have h3 := b4.size
    refine ⟨?_, ?_, ?_, ?_, ?_, ?_⟩ <;> omega)
  have HR5 := Lib.hid hr5
  have HW5 := Lib.hid hw5
  have hbx := HST5.out.bel
  have k0 := (hbx.cell (p := ⟨w1.heap.size, 0, none⟩) HLT.out).trans (by rw [cell_of_row _ _ _ _ _ _ HR2.out]; rfl : w2.cell? ⟨w1.heap.size, 0, none⟩ = some (.slice A1 nw c1))
  have k1 := (hbx.cell (p := ⟨w1.heap.size, 1, none⟩) HLT.out).trans (by rw [cell_of_row _ _ _ _ _ _ HR2.out]; rfl : w2.cell? ⟨w1.heap.size, 1, none⟩ = some (.slice F1 nE d1))
  rw [hw5] at k0 k1
  clear b4 hb5 hbl hO4 hT4 hr5 hw5 hbx HST3 HI3 HRR
  go_wp2_with fail
  rw [← HW5.out]
  clear HW5 k0 k1
  refine (order_own w5 (HL2.out.g.below HST5.out.bel) HOK.out.2).mono ?_
  rintro e w6 ⟨Al, cl, rfl, hil, hal, b6⟩
  rw [← HLS.out] at hil
  have HST6 := Lib.hid (HST5.out.next b6)
  have HO6 := Lib.hid (HO5.out.below b6)
  have HR6 := Lib.hid ((b6.block _ HS5.out).trans HR5.out)
  have HIL := Lib.hid hil
  have HAL : Hid (∀ bb o s, Al = some ⟨bb, o, s⟩ → bb ≠ gD ∧ bb ≠ gV) := Lib.hid (fun bb o s he => by
    have h1 := hal bb o s he
    have h2 := HS5.out
    have h3 := HNE.out
    omega)
  clear hil hal b6 HST5 HO5 HR5 HS5
  go_wp2
  go_loopw [29] (fun i wr => ∃ (j : Nat) (Dj : List Bool), j ≤ nw ∧ i = .int .i64 j ∧ Hid (Dj.length = nw) ∧ Hid (StM w2 gD gV Dj (runK T inp (ls.take j)) wr) ∧ Hid (Only gD gV w6 wr)) (fun i _ => nw - (intOf i).toNat)
  case atStart => exact ⟨0, List.replicate nw false, Nat.zero_le _, rfl, Lib.hid (by simp), Lib.hid (by rw [List.take_zero, ← HREP.out]; exact HST6.out), Lib.hid (Only.refl _ _ _)⟩
  case round =>
    obtain ⟨j, Dj, hj, rfl, HDL, HST, HON⟩ := hrel
    have hrm := (HON.out.block _ (Array.getElem?_eq_some_iff.1 HR6.out).1 HNE.out.2.2.1 HNE.out.2.2.2.1).trans HR6.out
    have m0 := cell_of_row wr _ 0 _ _ _ hrm
    have m1 := cell_of_row wr _ 1 _ _ _ hrm
    simp at m0 m1
    by_cases hlt : j < nw
    · obtain ⟨bk, o, z, hAe, hbg, hzj, hc1⟩ := HIL.out.at_ (k := j) (by rw [nums_length, HOL.out]; exact hlt)
      have hne := HAL.out _ _ _ hAe
      have q1 := (cell_same (HON.out.block bk hbg hne.1 hne.2)).trans hc1
      obtain ⟨x, hx⟩ : ∃ x, ls[j]? = some x := ⟨_, List.getElem?_eq_getElem (by rw [HOL.out]; exact hlt)⟩
      have hzx : z = ((x : Nat) : Int) := by
        unfold nums at hzj
        rw [List.getElem?_map, hx] at hzj
        exact (Option.some.inj hzj).symm
      subst hzx
      subst hAe
      have hxn : x < nw := HOR.out.lt x (List.mem_of_getElem? hx)
      have HRK := Lib.hid (runK_snoc T inp hx)
      have hbx := HST.out.bel
      obtain ⟨t0, t1, t2, t3, t4, t5⟩ := HS2.out.c.next hbx
      simp only at t2 t3 t4 t5
      have l0 := (hbx.cell (p := ⟨w1.heap.size, 0, none⟩) HLT.out).trans (by rw [cell_of_row _ _ _ _ _ _ HR2.out]; rfl : w2.cell? ⟨w1.heap.size, 0, none⟩ = some (.slice A1 nw c1))
      have l1 := (hbx.cell (p := ⟨w1.heap.size, 1, none⟩) HLT.out).trans (by rw [cell_of_row _ _ _ _ _ _ HR2.out]; rfl : w2.cell? ⟨w1.heap.size, 1, none⟩ = some (.slice F1 nE d1))
      have l2 := (hbx.cell (p := ⟨w1.heap.size, 2, none⟩) HLT.out).trans (by rw [cell_of_row _ _ _ _ _ _ HR2.out]; rfl : w2.cell? ⟨w1.heap.size, 2, none⟩ = some (.slice R1 nw e1))
      have HO := Lib.hid (HO6.out.same (HON.out.block b HO6.out.lt HNE.out.1 HNE.out.2.1))
      clear hrm hbg hzj hc1 hne hx hbx
      go_wp2_with fail
      refine (settle_any (s := ⟨P, np, pc, E, ne, ec, Fu, nf, fc, R, nr, rc⟩) (T := T) (inp := inp) (node := x) wr HOK.out HS2.out.d HL2.out HST.out HO.out HTI.out HDL.out HNP.out.symm (HRL.out _) HPL.out.symm hxn).mono ?_
      rintro e w8 ⟨rfl, h5, h6⟩
      have H5 := Lib.hid h5
      have H6 := Lib.hid (HON.out.trans h6)
      clear h5 h6 t0 t1 t2 t3 t4 t5 l0 l1 l2 q1 m0 m1 HST HON HO
      go_wp2
      go_roundw
      case rel => exact ⟨j + 1, Dj.set x true, by omega, by go_num, Lib.hid (by rw [List.length_set]; exact HDL.out), Lib.hid (by rw [HRK.out]; exact H5.out), H6⟩
      case measure => simp [intOf]; omega
    · obtain rfl : nw = j := by omega
      have hst := HST.out
      rw [List.take_of_length_le (by rw [HOL.out]; exact Nat.le_refl _)] at hst
      have HSF := Lib.hid hst
      clear hrm hst HST
      go_wp2
      refine bodyPost_ret (v := .tuple #[.slice (some ⟨gV, 0, none⟩) np np, .int .i64 0]) (by simp [results, Tryz.results26, go_sem]) rfl ?_
      exact ⟨⟨_, _, _, rfl, by rw [HRV.out]; exact HRL.out _, by
        rw [HRV.out]
        exact fun _ => ⟨gV, 0, rfl, HSF.out.rV.lt, fun k hk => by rw [Nat.zero_add]; exact HSF.out.rV.cell (intsV_at hk)⟩⟩, HS2.out.bel.trans (HSF.out.bel.mono HS2.out.bel.size)⟩
theorem run_any (w : World) (hD : IsD w s T) (hI : Ints w w.heap.size Ai inp) (hi : inp.length = ni) (li : ni ≤ 1000) :
    Calls Tryz.prog 26 #[s.arg T.period T.deadline, .slice Ai ni ci] w (GotRun T inp w) := by
  by_cases hL : LowOk T
  · exact run_ok w hD hL hI hi li
  · exact run_bad w hD hL
end
end Go.Proofs.YtecjpclkiiaidaaGreatDoor
