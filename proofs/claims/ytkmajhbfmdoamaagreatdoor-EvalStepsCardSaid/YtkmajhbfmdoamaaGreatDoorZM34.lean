/- eval.Run in the seat YtkmajhbfmdoamaaGreatDoor: its contract.
   The contract of awake of trefoillaw08 in the seat YtkmajhbfmdoamaaGreatDoor.
   No statement is proved here. -/
import Derived.Test.YtkmajhbfmdoamaaGreatDoorZEvalFinish
import Derived.Test.YtkmajhbfmdoamaaGreatDoorZM19
import Derived.Test.YtkmajhbfmdoamaaGreatDoorZM27
import Derived.Test.YtkmajhbfmdoamaaGreatDoorZM29
import Derived.Test.YtkmajhbfmdoamaaGreatDoorZLowAwake
import Derived.Test.YtkmajhbfmdoamaaGreatDoorZM1
set_option linter.unusedSimpArgs false
set_option linter.unusedVariables false
namespace Go.Proofs.YtkmajhbfmdoamaaGreatDoor
open Go.RowKit

/-- What Run hands back. -/
def GotRun (T : Task) (inp : List Int) (w : World) (e : Ending) (w' : World) : Prop :=
  (∃ A k c, e = .returned (.tuple #[.slice A k c, .int .i64 (lowX T)]) ∧ (runV T inp).length = k ∧ Ints w' w'.heap.size A (runV T inp)) ∧ Below w.heap.size w w'
section
variable {s : Sh} {T : Task} {inp : List Int} {Ai : Option Addr} {ni ci : Nat}
set_option maxRecDepth 100000 in
set_option maxHeartbeats 32000000 in
theorem run_bad (w : World) (hD : IsD w s T) (hN : ¬ LowOk T) :
    Calls Tryz.prog 17 #[s.arg T.period T.deadline, .slice Ai ni ci] w (GotRun T inp w) := by
  have hX : lowX T ≠ 0 := fun k => hN (lowX_zero.mp k)
  have HRV : Hid (runV T inp = []) := Lib.hid (by unfold runV; rw [if_neg hN])
  have HS := Lib.hid (Bx1T.start hD.t)
  have HD := Lib.hid hD
  obtain ⟨P, np, pc, E, ne, ec, Fu, nf, fc, R, nr, rc⟩ := s
  obtain ⟨nw, hnw⟩ : ∃ n, (lowWv T).length = n := ⟨_, rfl⟩
  obtain ⟨nE, hnE⟩ : ∃ n, (lowEv T).length = n := ⟨_, rfl⟩
  obtain ⟨nP, hnP⟩ : ∃ n, (lowPv T).length = n := ⟨_, rfl⟩
  have CL := Lib.hid (fun W s (h : IsD W s T) => lower_sz hnw hnE hnP h)
  obtain ⟨r, hr⟩ : ∃ r, r = lowX T := ⟨_, rfl⟩
  unfold GotRun
  rw [← hr] at CL hX ⊢
  have hb : (r != 0) = true := bne_iff_ne.mpr hX
  simp only at HS
  obtain ⟨w0, hw0⟩ : ∃ w0, w0 = w.alloc (.cells #[.int .i64 T.period, .int .i64 T.deadline, .slice P np pc, .slice E ne ec, .slice Fu nf fc, .slice R nr rc] 27) := ⟨_, rfl⟩
  rw [← hw0] at HS
  have hb0 : Below w.heap.size w w0 := by rw [hw0]; exact below_alloc _
  have HD0 := Lib.hid (HD.out.below hb0)
  have HB0 := Lib.hid hb0
  have HW := Lib.hid hw0
  clear hD hX hr hw0 hb0 HD hnw hnE hnP
  go_enter Tryz.func17, Tryz.ntmps17
  go_wp2_with fail
  rw [← HW.out]
  clear HW
  refine (CL.out _ _ HD0.out).mono ?_
  rintro e w2 ⟨A1, c1, F1, d1, R1, e1, rfl, _, b2⟩
  have HB2 := Lib.hid (HB0.out.trans (b2.mono HB0.out.size))
  clear b2 CL HD0 HS HB0
  go_wp2
  refine bodyPost_ret (v := .tuple #[.slice none 0 0, .int .i64 r]) (by simp [results, Tryz.results17, go_sem]) rfl ?_
  exact ⟨⟨none, 0, 0, rfl, by rw [HRV.out]; rfl, by rw [HRV.out]; exact Ints.nil_ _ _ _⟩, HB2.out.alloc HB2.out.size _⟩
set_option maxRecDepth 100000 in
set_option maxHeartbeats 32000000 in
theorem run_ok (w : World) (hD : IsD w s T) (hL : LowOk T) (hI : Ints w w.heap.size Ai inp) (hi : inp.length = ni) (li : ni ≤ 1000) :
    Calls Tryz.prog 17 #[s.arg T.period T.deadline, .slice Ai ni ci] w (GotRun T inp w) := by
  have hX := lowX_zero.mpr hL
  have HLE := Lib.hid (low_few hL.1)
  have HPL := Lib.hid hD.t.hp
  have hnp4 : s.np ≤ 400 := by have h1 := hD.few.np; have h2 := hD.t.hp; omega
  have HS := Lib.hid (show Bx1D w s T _ from ⟨(Bx1T.start hD.t).bel, (Bx1T.start hD.t).c, hD.below (below_alloc _)⟩)
  have HI := Lib.hid hI
  have HNI := Lib.hid hi
  have HOK := Lib.hid hL
  have CL := Lib.hid (fun W s (h : IsD W s T) => lower_ok hL h)
  obtain ⟨P, np, pc, E, ne, ec, Fu, nf, fc, R, nr, rc⟩ := s
  simp only at HS HPL hnp4
  have hnodes : (lowW T).length = (lowP T).length := by rw [lowW_len hL.1, lowP_len hL.1]
  obtain ⟨ls, hls⟩ : ∃ ls, ls = ord (lowW T).length (lowE T) := ⟨_, rfl⟩
  have hordd : Ordered (lowW T).length (lowE T) ls := by rw [hls]; exact ordK_ordered hL.2.fits _
  have hordl : ls.length = (lowW T).length := by rw [hls]; exact ordK_length hL.2.fits hL.2.acyc _ (Nat.le_refl _)
  have HRV : Hid (runV T inp = runK T inp ls) := Lib.hid (by unfold runV; rw [if_pos hL, hls])
  have hrep : List.replicate T.parts.length (0 : Int) = runK T inp [] := rfl
  have HREP : Hid (List.replicate np (0 : Int) = runK T inp []) := Lib.hid (by rw [← HPL.out]; exact hrep)
  have HRL := Lib.hid (fun l => (runK_len T inp l).trans HPL.out)
  have HLS := Lib.hid hls
  obtain ⟨nw, hnw⟩ : ∃ n, (lowW T).length = n := ⟨_, rfl⟩
  obtain ⟨nE, hnE⟩ : ∃ n, (lowE T).length = n := ⟨_, rfl⟩
  obtain ⟨nP, hnP⟩ : ∃ n, (lowP T).length = n := ⟨_, rfl⟩
  rw [hnw, hnE, hnP] at CL HLE
  rw [hnw] at hordd hordl HLS
  rw [hnw, hnP] at hnodes
  subst hnodes
  have HOR := Lib.hid hordd
  have HOL := Lib.hid hordl
  have HNP := Lib.hid hnP
  have hnp3 : nw ≤ 400 := by have := HLE.out.2.2; omega
  unfold GotRun
  rw [hX]
  obtain ⟨w0, hw0⟩ : ∃ w0, w0 = w.alloc (.cells #[.int .i64 T.period, .int .i64 T.deadline, .slice P np pc, .slice E ne ec, .slice Fu nf fc, .slice R nr rc] 27) := ⟨_, rfl⟩
  rw [← hw0] at HS
  have hi0 : Ints w0 w0.heap.size Ai inp := by
    have hb : Below w.heap.size w w0 := HS.out.bel
    exact (hI.below hb).more hb.size
  have HI0 := Lib.hid hi0
  have HW := Lib.hid hw0
  clear hD hL hI hi hX hw0 hi0 hnw hnE hnP hordd hordl hls hrep HI
  go_enter Tryz.func17, Tryz.ntmps17
  go_wp2_with fail
  rw [← HW.out]
  clear HW
  refine (CL.out _ _ HS.out.d).mono ?_
  rintro e w1 ⟨A1, c1, F1, d1, R1, e1, rfl, hl, b1⟩
  obtain ⟨w2, hw2⟩ : ∃ w2, w2 = w1.alloc (.cells #[.slice A1 nw c1, .slice F1 nE d1, .slice R1 nw e1] 60) := ⟨_, rfl⟩
  have hb2 : Below w1.heap.size w1 w2 := by rw [hw2]; exact below_alloc _
  have hrl : w2.heap[w1.heap.size]? = some (.cells #[.slice A1 nw c1, .slice F1 nE d1, .slice R1 nw e1] 60 (0, 0)) := by rw [hw2]; exact heap_alloc_new w1 _
  have S2 := (HS.out.next b1).next hb2
  have hi2 := ((HI0.out.below b1).more b1.size).below hb2
  have HI2 := Lib.hid (hi2.more hb2.size)
  have HS2 := Lib.hid S2
  have HL2 := Lib.hid (hl.below hb2)
  have HR2 := Lib.hid hrl
  have HLT : Hid (w1.heap.size < w2.heap.size) := Lib.hid (by rw [hw2]; simp)
  have HW2 := Lib.hid hw2
  obtain ⟨t0, t1, t2, t3, t4, t5⟩ := S2.c
  simp only at t2 t3 t4 t5
  have l0 := cell_of_row w2 _ 0 _ _ _ hrl
  have l1 := cell_of_row w2 _ 1 _ _ _ hrl
  have l2 := cell_of_row w2 _ 2 _ _ _ hrl
  simp at l0 l1 l2
  rw [hw2] at t0 t1 t2 t3 t4 t5 l0 l1 l2
  clear b1 hl hb2 hrl S2 hi2 hw2 HS CL HI0
  go_wp2_with fail
  rw [← HW2.out]
  clear HW2 t0 t1 t2 t3 t4 t5 l0 l1 l2
  refine (nothing_any w2 hnp3 hnp4).mono ?_
  rintro e w3 ⟨gD, gV, rfl, hgD, hgV, hrD, hrV, b3⟩
  have HST3 : Hid (StM w2 gD gV (List.replicate nw false) (List.replicate np 0) w3) := Lib.hid ⟨b3, hgD, hgV, hrD.rowC, hrV.rowC⟩
  have HI3 := Lib.hid ((HI2.out.below b3).more b3.size)
  have HRR := Lib.hid (And.intro hrD.lt hrV.lt)
  clear b3 hrD hrV hgD hgV
  go_wp2_with fail
  refine (places_any Ai ni ci inp w3 HNI.out li HI3.out).mono ?_
  rintro e w4 ⟨b, kb, DM, rfl, hbl, hO4, hT4, b4⟩
  obtain ⟨w5, hw5⟩ : ∃ w5, w5 = w4.alloc (.cells #[.slice (some ⟨gD, 0, none⟩) nw nw, .slice (some ⟨gV, 0, none⟩) np np] 31) := ⟨_, rfl⟩
  have hb5 : Below w4.heap.size w4 w5 := by rw [hw5]; exact below_alloc _
  have hr5 : w5.heap[w4.heap.size]? = some (.cells #[.slice (some ⟨gD, 0, none⟩) nw nw, .slice (some ⟨gV, 0, none⟩) np np] 31 (0, 0)) := by rw [hw5]; exact heap_alloc_new w4 _
  have HS5 : Hid (w4.heap.size < w5.heap.size) := Lib.hid (by rw [hw5]; simp)
  have HST5 := Lib.hid ((HST3.out.next b4).next hb5)
  have HO5 := Lib.hid (hO4.below hb5)
  have HTI := Lib.hid hT4
  have HNE : Hid (b ≠ gD ∧ b ≠ gV ∧ w4.heap.size ≠ gD ∧ w4.heap.size ≠ gV ∧ gD < w4.heap.size ∧ gV < w4.heap.size) := Lib.hid (by
    have h1 := HRR.out.1
    have h2 := HRR.out.2
    have h3 := b4.size
    refine ⟨?_, ?_, ?_, ?_, ?_, ?_⟩ <;> omega)
  have HR5 := Lib.hid hr5
  have HW5 := Lib.hid hw5
  have hbx := HST5.out.bel
  have k0 := (hbx.cell (p := ⟨w1.heap.size, 0, none⟩) HLT.out).trans (by rw [cell_of_row _ _ _ _ _ _ HR2.out]; rfl : w2.cell? ⟨w1.heap.size, 0, none⟩ = some (.slice A1 nw c1))
  have k1 := (hbx.cell (p := ⟨w1.heap.size, 1, none⟩) HLT.out).trans (by rw [cell_of_row _ _ _ _ _ _ HR2.out]; rfl : w2.cell? ⟨w1.heap.size, 1, none⟩ = some (.slice F1 nE d1))
  rw [hw5] at k0 k1
  clear b4 hb5 hbl hO4 hT4 hr5 hw5 hbx HST3 HI3 HRR
  go_wp2_with fail
  rw [← HW5.out]
  clear HW5 k0 k1
  refine (order_own w5 (HL2.out.g.below HST5.out.bel) HOK.out.2).mono ?_
  rintro e w6 ⟨Al, cl, rfl, hil, hal, b6⟩
  rw [← HLS.out] at hil
  have HST6 := Lib.hid (HST5.out.next b6)
  have HO6 := Lib.hid (HO5.out.below b6)
  have HR6 := Lib.hid ((b6.block _ HS5.out).trans HR5.out)
  have HIL := Lib.hid hil
  have HAL : Hid (∀ bb o s, Al = some ⟨bb, o, s⟩ → bb ≠ gD ∧ bb ≠ gV) := Lib.hid (fun bb o s he => by
    have h1 := hal bb o s he
    have h2 := HS5.out
    have h3 := HNE.out
    omega)
  clear hil hal b6 HST5 HO5 HR5 HS5
  go_wp2
  go_loopw [29] (fun i wr => ∃ (j : Nat) (Dj : List Bool), j ≤ nw ∧ i = .int .i64 j ∧ Hid (Dj.length = nw) ∧ Hid (StM w2 gD gV Dj (runK T inp (ls.take j)) wr) ∧ Hid (Only gD gV w6 wr)) (fun i _ => nw - (intOf i).toNat)
  case atStart => exact ⟨0, List.replicate nw false, Nat.zero_le _, rfl, Lib.hid (by simp), Lib.hid (by rw [List.take_zero, ← HREP.out]; exact HST6.out), Lib.hid (Only.refl _ _ _)⟩
  case round =>
    obtain ⟨j, Dj, hj, rfl, HDL, HST, HON⟩ := hrel
    have hrm := (HON.out.block _ (Array.getElem?_eq_some_iff.1 HR6.out).1 HNE.out.2.2.1 HNE.out.2.2.2.1).trans HR6.out
    have m0 := cell_of_row wr _ 0 _ _ _ hrm
    have m1 := cell_of_row wr _ 1 _ _ _ hrm
    simp at m0 m1
    by_cases hlt : j < nw
    · obtain ⟨bk, o, z, hAe, hbg, hzj, hc1⟩ := HIL.out.at_ (k := j) (by rw [nums_length, HOL.out]; exact hlt)
      have hne := HAL.out _ _ _ hAe
      have q1 := (cell_same (HON.out.block bk hbg hne.1 hne.2)).trans hc1
      obtain ⟨x, hx⟩ : ∃ x, ls[j]? = some x := ⟨_, List.getElem?_eq_getElem (by rw [HOL.out]; exact hlt)⟩
      have hzx : z = ((x : Nat) : Int) := by
        unfold nums at hzj
        rw [List.getElem?_map, hx] at hzj
        exact (Option.some.inj hzj).symm
      subst hzx
      subst hAe
      have hxn : x < nw := HOR.out.lt x (List.mem_of_getElem? hx)
      have HRK := Lib.hid (runK_snoc T inp hx)
      have hbx := HST.out.bel
      obtain ⟨t0, t1, t2, t3, t4, t5⟩ := HS2.out.c.next hbx
      simp only at t2 t3 t4 t5
      have l0 := (hbx.cell (p := ⟨w1.heap.size, 0, none⟩) HLT.out).trans (by rw [cell_of_row _ _ _ _ _ _ HR2.out]; rfl : w2.cell? ⟨w1.heap.size, 0, none⟩ = some (.slice A1 nw c1))
      have l1 := (hbx.cell (p := ⟨w1.heap.size, 1, none⟩) HLT.out).trans (by rw [cell_of_row _ _ _ _ _ _ HR2.out]; rfl : w2.cell? ⟨w1.heap.size, 1, none⟩ = some (.slice F1 nE d1))
      have l2 := (hbx.cell (p := ⟨w1.heap.size, 2, none⟩) HLT.out).trans (by rw [cell_of_row _ _ _ _ _ _ HR2.out]; rfl : w2.cell? ⟨w1.heap.size, 2, none⟩ = some (.slice R1 nw e1))
      have HO := Lib.hid (HO6.out.same (HON.out.block b HO6.out.lt HNE.out.1 HNE.out.2.1))
      clear hrm hbg hzj hc1 hne hx hbx
      go_wp2_with fail
      refine (settle_any (s := ⟨P, np, pc, E, ne, ec, Fu, nf, fc, R, nr, rc⟩) (T := T) (inp := inp) (node := x) wr HOK.out HS2.out.d HL2.out HST.out HO.out HTI.out HDL.out HNP.out.symm (HRL.out _) HPL.out.symm hxn).mono ?_
      rintro e w8 ⟨rfl, h5, h6⟩
      have H5 := Lib.hid h5
      have H6 := Lib.hid (HON.out.trans h6)
      clear h5 h6 t0 t1 t2 t3 t4 t5 l0 l1 l2 q1 m0 m1 HST HON HO
      go_wp2
      go_roundw
      case rel => exact ⟨j + 1, Dj.set x true, by omega, by go_num, Lib.hid (by rw [List.length_set]; exact HDL.out), Lib.hid (by rw [HRK.out]; exact H5.out), H6⟩
      case measure => simp [intOf]; omega
    · obtain rfl : nw = j := by omega
      have hst := HST.out
      rw [List.take_of_length_le (by rw [HOL.out]; exact Nat.le_refl _)] at hst
      have HSF := Lib.hid hst
      clear hrm hst HST
      go_wp2
      refine bodyPost_ret (v := .tuple #[.slice (some ⟨gV, 0, none⟩) np np, .int .i64 0]) (by simp [results, Tryz.results17, go_sem]) rfl ?_
      exact ⟨⟨_, _, _, rfl, by rw [HRV.out]; exact HRL.out _, by
        rw [HRV.out]
        exact fun _ => ⟨gV, 0, rfl, HSF.out.rV.lt, fun k hk => by rw [Nat.zero_add]; exact HSF.out.rV.cell (intsV_at hk)⟩⟩, HS2.out.bel.trans (HSF.out.bel.mono HS2.out.bel.size)⟩
theorem run_any (w : World) (hD : IsD w s T) (hI : Ints w w.heap.size Ai inp) (hi : inp.length = ni) (li : ni ≤ 1000) :
    Calls Tryz.prog 17 #[s.arg T.period T.deadline, .slice Ai ni ci] w (GotRun T inp w) := by
  by_cases hL : LowOk T
  · exact run_ok w hD hL hI hi li
  · exact run_bad w hD hL
end
end Go.Proofs.YtkmajhbfmdoamaaGreatDoor
set_option linter.unusedVariables false
namespace Go.Proofs.YtkmajhbfmdoamaaGreatDoor
open Go.RowKit

theorem Trips.three8 (w : World) (t : TypeId) (a b c d e f g h i : Int) : Trips (w.alloc (.cells #[.int .i64 a, .int .i64 b, .int .i64 c, .int .i64 d, .int .i64 e, .int .i64 f, .int .i64 g, .int .i64 h, .int .i64 i] t)) (w.heap.size + 1) (some ⟨w.heap.size, 0, none⟩) [(a, b, c), (d, e, f), (g, h, i)] := fun _ => by
  refine ⟨_, _, rfl, by simp, fun k x he => ?_⟩
  rw [World.cell?_alloc_at _ _ _ _ rfl, World.cell?_alloc_at _ _ _ _ rfl, World.cell?_alloc_at _ _ _ _ rfl]
  match k, he with
  | 0, he =>
    obtain rfl : (a, b, c) = x := by simpa using he
    exact ⟨rfl, rfl, rfl⟩
  | 1, he =>
    obtain rfl : (d, e, f) = x := by simpa using he
    exact ⟨rfl, rfl, rfl⟩
  | 2, he =>
    obtain rfl : (g, h, i) = x := by simpa using he
    exact ⟨rfl, rfl, rfl⟩
theorem Pairs.one8 (w : World) (t : TypeId) (a b : Int) : Pairs (w.alloc (.cells #[.int .i64 a, .int .i64 b] t)) (w.heap.size + 1) (some ⟨w.heap.size, 0, none⟩) [(a, b)] := fun _ => by
  refine ⟨_, _, rfl, by simp, fun k e he => ?_⟩
  rw [World.cell?_alloc_at _ _ _ _ rfl, World.cell?_alloc_at _ _ _ _ rfl]
  match k, he with
  | 0, he =>
    obtain rfl : (a, b) = e := by simpa using he
    exact ⟨rfl, rfl⟩
theorem ints_new8 (w : World) (zs : List Int) : Ints (w.alloc (.cells (intsV zs).toArray 3)) (w.alloc (.cells (intsV zs).toArray 3)).heap.size (some ⟨w.heap.size, 0, none⟩) zs := row_ints' (RowV.new w 3 (intsV zs))
/-- The example lies there. -/
structure StV (w w' : World) : Prop where
  bel : Below w.heap.size w w'
  lt : w.heap.size + 1 + 1 + 1 < w'.heap.size
  c0 : w'.cell? ⟨w.heap.size + 1 + 1 + 1, 0, none⟩ = some (.int .i64 8)
  c1 : w'.cell? ⟨w.heap.size + 1 + 1 + 1, 1, none⟩ = some (.int .i64 8)
  c2 : w'.cell? ⟨w.heap.size + 1 + 1 + 1, 2, none⟩ = some (.slice (some ⟨w.heap.size, 0, none⟩) 3 3)
  c3 : w'.cell? ⟨w.heap.size + 1 + 1 + 1, 3, none⟩ = some (.slice (some ⟨w.heap.size + 1, 0, none⟩) 1 1)
  c4 : w'.cell? ⟨w.heap.size + 1 + 1 + 1, 4, none⟩ = some (.slice (some ⟨w.heap.size + 1 + 1, 0, none⟩) 1 1)
  c5 : w'.cell? ⟨w.heap.size + 1 + 1 + 1, 5, none⟩ = some (.slice none 0 0)
  gd : IsD w' ⟨(some ⟨w.heap.size, 0, none⟩), 3, 3, (some ⟨w.heap.size + 1, 0, none⟩), 1, 1, (some ⟨w.heap.size + 1 + 1, 0, none⟩), 1, 1, none, 0, 0⟩ exV
theorem StV.next {w w1 w2 : World} (h : StV w w1) (hb : Below w1.heap.size w1 w2) : StV w w2 :=
  ⟨h.bel.trans (hb.mono h.bel.size), Nat.lt_of_lt_of_le h.lt hb.size, (hb.cell h.lt).trans h.c0, (hb.cell h.lt).trans h.c1, (hb.cell h.lt).trans h.c2, (hb.cell h.lt).trans h.c3, (hb.cell h.lt).trans h.c4, (hb.cell h.lt).trans h.c5, h.gd.below hb⟩
theorem StV.cells {w w' : World} (h : StV w w') : w.heap.size + 1 + 1 + 1 < w'.heap.size ∧ w'.cell? ⟨w.heap.size + 1 + 1 + 1, 0, none⟩ = some (.int .i64 8) ∧ w'.cell? ⟨w.heap.size + 1 + 1 + 1, 1, none⟩ = some (.int .i64 8) ∧ w'.cell? ⟨w.heap.size + 1 + 1 + 1, 2, none⟩ = some (.slice (some ⟨w.heap.size, 0, none⟩) 3 3) ∧ w'.cell? ⟨w.heap.size + 1 + 1 + 1, 3, none⟩ = some (.slice (some ⟨w.heap.size + 1, 0, none⟩) 1 1) ∧ w'.cell? ⟨w.heap.size + 1 + 1 + 1, 4, none⟩ = some (.slice (some ⟨w.heap.size + 1 + 1, 0, none⟩) 1 1) ∧ w'.cell? ⟨w.heap.size + 1 + 1 + 1, 5, none⟩ = some (.slice none 0 0) :=
  ⟨h.lt, h.c0, h.c1, h.c2, h.c3, h.c4, h.c5⟩
theorem StV.start (w : World) (hT : DTab w) : StV w ((((w.alloc (.cells #[.int .i64 1, .int .i64 1, .int .i64 1, .int .i64 0, .int .i64 0, .int .i64 1, .int .i64 5, .int .i64 0, .int .i64 2] 46)).alloc (.cells #[.int .i64 0, .int .i64 2] 48)).alloc (.cells #[.int .i64 1, .int .i64 2, .int .i64 1] 50)).alloc (.cells #[.int .i64 8, .int .i64 8, .slice (some ⟨w.heap.size, 0, none⟩) 3 3, .slice (some ⟨w.heap.size + 1, 0, none⟩) 1 1, .slice (some ⟨w.heap.size + 1 + 1, 0, none⟩) 1 1, .slice none 0 0] 27)) := by
  obtain ⟨w1, h1⟩ : ∃ w1, w1 = w.alloc (.cells #[.int .i64 1, .int .i64 1, .int .i64 1, .int .i64 0, .int .i64 0, .int .i64 1, .int .i64 5, .int .i64 0, .int .i64 2] 46) := ⟨_, rfl⟩
  obtain ⟨w2, h2⟩ : ∃ w2, w2 = w1.alloc (.cells #[.int .i64 0, .int .i64 2] 48) := ⟨_, rfl⟩
  obtain ⟨w3, h3⟩ : ∃ w3, w3 = w2.alloc (.cells #[.int .i64 1, .int .i64 2, .int .i64 1] 50) := ⟨_, rfl⟩
  obtain ⟨w4, h4⟩ : ∃ w4, w4 = w3.alloc (.cells #[.int .i64 8, .int .i64 8, .slice (some ⟨w.heap.size, 0, none⟩) 3 3, .slice (some ⟨w.heap.size + 1, 0, none⟩) 1 1, .slice (some ⟨w.heap.size + 1 + 1, 0, none⟩) 1 1, .slice none 0 0] 27) := ⟨_, rfl⟩
  rw [← h1, ← h2, ← h3, ← h4]
  have s1 : w1.heap.size = w.heap.size + 1 := by rw [h1]; simp
  have s2 : w2.heap.size = w.heap.size + 1 + 1 := by rw [h2]; simp [s1]
  have s3 : w3.heap.size = w.heap.size + 1 + 1 + 1 := by rw [h3]; simp [s2]
  have s4 : w4.heap.size = w.heap.size + 1 + 1 + 1 + 1 := by rw [h4]; simp [s3]
  have b3 : Below w3.heap.size w3 w4 := by rw [h4]; exact below_alloc _
  have b2 : Below w2.heap.size w2 w4 := (by rw [h3]; exact below_alloc _ : Below w2.heap.size w2 w3).trans (b3.mono (by omega))
  have b1 : Below w1.heap.size w1 w4 := (by rw [h2]; exact below_alloc _ : Below w1.heap.size w1 w2).trans (b2.mono (by omega))
  have b0 : Below w.heap.size w w4 := (by rw [h1]; exact below_alloc _ : Below w.heap.size w w1).trans (b1.mono (by omega))
  have t1 : Trips w1 w1.heap.size (some ⟨w.heap.size, 0, none⟩) exV.parts := by
    have h := Trips.three8 w 46 1 1 1 0 0 1 5 0 2
    rw [← h1] at h
    exact h.more (by omega)
  have t2 : Pairs w2 w2.heap.size (some ⟨w.heap.size + 1, 0, none⟩) exV.edges := by
    have h := Pairs.one8 w1 48 0 2
    rw [← h2, s1] at h
    exact h.more (by omega)
  have t3 : Trips w3 w3.heap.size (some ⟨w.heap.size + 1 + 1, 0, none⟩) exV.futures := by
    have h := Trips.one7 w2 50 1 2 1
    rw [← h3, s2] at h
    exact h.more (by omega)
  refine ⟨b0, by omega, ?_, ?_, ?_, ?_, ?_, ?_, ⟨⟨rfl, rfl, rfl, rfl, (t1.below b1).more b1.size, (t2.below b2).more b2.size, (t3.below b3).more b3.size, (fun h => absurd h (by decide)), (fun e => by cases e), (fun e => by cases e), (fun e => by cases e), (fun _ => ⟨rfl, rfl⟩)⟩, exVFew, hT.via b0, Nat.le_refl _, Nat.le_refl _⟩⟩ <;> (rw [h4, World.cell?_alloc_at _ _ _ _ s3.symm]; rfl)
/-- A memory in a box. -/
structure BxV8 (g : Nat) (A : Option Addr) (n c : Nat) (F : Option Addr) (m d : Nat) (D : List Bool) (V : List Int) (w' : World) : Prop where
  lt : g < w'.heap.size
  c0 : w'.cell? ⟨g, 0, none⟩ = some (.slice A n c)
  c1 : w'.cell? ⟨g, 1, none⟩ = some (.slice F m d)
  m : IsM w' A n c F m d D V
section
variable {g : Nat} {A : Option Addr} {n c : Nat} {F : Option Addr} {m d : Nat} {D : List Bool} {V : List Int} {w1 w2 : World}
theorem BxV8.next (h : BxV8 g A n c F m d D V w1) (hb : Below w1.heap.size w1 w2) : BxV8 g A n c F m d D V w2 :=
  ⟨Nat.lt_of_lt_of_le h.lt hb.size, (hb.cell h.lt).trans h.c0, (hb.cell h.lt).trans h.c1, h.m.below hb⟩
theorem BxV8.start (h : IsM w1 A n c F m d D V) : BxV8 w1.heap.size A n c F m d D V (w1.alloc (.cells #[.slice A n c, .slice F m d] 31)) :=
  ⟨by simp, by rw [World.cell?_alloc_at _ _ _ _ rfl]; rfl, by rw [World.cell?_alloc_at _ _ _ _ rfl]; rfl, h.below (below_alloc _)⟩
theorem BxV8.cells (h : BxV8 g A n c F m d D V w1) : g < w1.heap.size ∧ w1.cell? ⟨g, 0, none⟩ = some (.slice A n c) ∧ w1.cell? ⟨g, 1, none⟩ = some (.slice F m d) := ⟨h.lt, h.c0, h.c1⟩
end
theorem new_ex {w : World} {s : Sh} (h : IsD w s exV) : Calls Tryz.prog 18 #[s.arg 8 8] w fun e w' =>
    ∃ A F, e = .returned (.tuple #[.agg #[.slice (some ⟨A, 0, none⟩) 4 4, .slice (some ⟨F, 0, none⟩) 3 3], .int .i64 0]) ∧ IsM w' (some ⟨A, 0, none⟩) 4 4 (some ⟨F, 0, none⟩) 3 3 exD0 [0, 0, 0] ∧ Below w.heap.size w w' := by
  refine (enew_any w h).mono ?_
  rintro e w' ⟨hb, ⟨_, A, F, rfl, hm⟩ | ⟨hno, _⟩⟩
  · refine ⟨A, F, ?_, ?_, hb⟩
    · rw [exVP]; rfl
    · rw [exVP] at hm; exact hm
  · exact absurd exVOk hno
theorem run_ex {w : World} {s : Sh} {A : Option Addr} {c : Nat} (h : IsD w s exV) (hI : Ints w w.heap.size A [2]) : Calls Tryz.prog 17 #[s.arg 8 8, .slice A 1 c] w fun e w' =>
    ∃ A1 c1, e = .returned (.tuple #[.slice A1 3 c1, .int .i64 0]) ∧ Ints w' w'.heap.size A1 [1, 2, 6760] ∧ Below w.heap.size w w' := by
  refine (run_any (inp := [2]) w h hI rfl (by decide)).mono ?_
  rintro e w' ⟨⟨A1, k, c1, rfl, hk, hi⟩, hb⟩
  rw [exVRun] at hk hi
  subst hk
  exact ⟨A1, c1, by rw [exVX]; rfl, hi, hb⟩
theorem fin_ex0 {w : World} {s : Sh} {Ai : Option Addr} {ci : Nat} {A : Option Addr} {c : Nat} {F : Option Addr} {d : Nat} (h : IsD w s exV) (hI : Ints w w.heap.size Ai [2]) (hM : IsM w A 4 c F 3 d exD0 [0, 0, 0]) : Calls Tryz.prog 6 #[s.arg 8 8, .slice Ai 1 ci, .agg #[.slice A 4 c, .slice F 3 d], .int .i64 0] w fun e w' =>
    ∃ A1 c1 F1 d1, e = .returned (.tuple #[.agg #[.slice A1 4 c1, .slice F1 3 d1], .int .i64 0]) ∧ IsM w' A1 4 c1 F1 3 d1 exD1 [1, 0, 0] ∧ Below w.heap.size w w' := by
  refine (finish_any (inp := [2]) w 0 h hM hI rfl (by decide)).mono ?_
  rintro e w' ⟨⟨A1, n1, c1, F1, m1, d1, rfl, hm⟩, hb⟩
  rw [exVD, exVV] at hm
  obtain rfl := hm.hn
  obtain rfl := hm.hm
  exact ⟨A1, c1, F1, d1, by rw [exVF0]; rfl, hm, hb⟩
theorem fin_ex3 {w : World} {s : Sh} {Ai : Option Addr} {ci : Nat} {A : Option Addr} {c : Nat} {F : Option Addr} {d : Nat} (h : IsD w s exV) (hI : Ints w w.heap.size Ai [2]) (hM : IsM w A 4 c F 3 d exD0 [0, 0, 0]) : Calls Tryz.prog 6 #[s.arg 8 8, .slice Ai 1 ci, .agg #[.slice A 4 c, .slice F 3 d], .int .i64 3] w fun e w' =>
    ∃ A1 n1 c1 F1 m1 d1, e = .returned (.tuple #[.agg #[.slice A1 n1 c1, .slice F1 m1 d1], .int .i64 83]) ∧ Below w.heap.size w w' := by
  refine (finish_any (inp := [2]) w 3 h hM hI rfl (by decide)).mono ?_
  rintro e w' ⟨⟨A1, n1, c1, F1, m1, d1, rfl, hm⟩, hb⟩
  exact ⟨A1, n1, c1, F1, m1, d1, by rw [exVF3], hb⟩
theorem ready_ex {w : World} {s : Sh} {A : Option Addr} {c : Nat} {F : Option Addr} {d : Nat} (h : IsD w s exV) (hM : IsM w A 4 c F 3 d exD1 [1, 0, 0]) : Calls Tryz.prog 11 #[s.arg 8 8, .agg #[.slice A 4 c, .slice F 3 d]] w fun e w' =>
    ∃ A1 c1, e = .returned (.slice A1 2 c1) ∧ Ints w' w'.heap.size A1 [1, 2] ∧ Below w.heap.size w w' := by
  have K := eready_any w h hM
  rw [exVR] at K
  refine K.mono ?_
  rintro e w' ⟨A1, c1, rfl, ho, hb⟩
  exact ⟨A1, c1, rfl, ho.ints, hb⟩
theorem check_ex {w : World} {s : Sh} {A : Option Addr} {c : Nat} {F : Option Addr} {d : Nat} (h : IsD w s exV) (hM : IsM w A 4 c F 3 d exD1 [1, 0, 0]) : Calls Tryz.prog 15 #[s.arg 8 8, .agg #[.slice A 4 c, .slice F 3 d]] w fun e w' => e = .returned (.int .i64 0) ∧ Below w.heap.size w w' := by
  have K := echeck_any w h hM
  rw [exVC] at K
  exact K
theorem op_ex {w : World} {A : Option Addr} {c : Nat} (hI : Ints w w.heap.size A [1, 2]) : Calls Tryz.prog 19 #[.agg #[.int .i64 5, .int .i64 0, .int .i64 0], .slice none 0 0, .slice A 2 c] w fun e w' => e = .returned (.int .i64 6760) ∧ Below w.heap.size w w' := by
  have K := op_any 5 0 0 none 0 0 [] A 2 c [1, 2] w (by decide) (by decide) rfl (by decide) rfl (by decide) (Ints.nil_ _ _ _) hI
  rw [exVO] at K
  exact K
theorem same_list {w : World} {A A' : Option Addr} {c c' : Nat} {zs : List Int} {n : Nat} (hn : zs.length = n) (hl : n ≤ 1000) (h : Ints w w.heap.size A zs) (h' : Ints w w.heap.size A' zs) : Calls Tryz.prog 12 #[.slice A n c, .slice A' n c'] w fun e w' => e = .returned (.bool true) ∧ Below w.heap.size w w' := by
  subst hn
  refine (ints_any w.heap.size A A' c c' zs zs w hl hl h h').mono fun e w' ⟨he, N, hN⟩ => ⟨by rw [he, decide_eq_true rfl], by rw [hN]; exact below_drewN (Below.refl _ _) N⟩
set_option maxRecDepth 100000 in
set_option maxHeartbeats 16000000 in
theorem awakeE_any (w : World) (hT : DTab w) : Calls Tryz.prog 4 #[] w fun e w' => e = .returned (.bool true) ∧ Below w.heap.size w w' := by
  have H0 := Lib.hid (StV.start w hT)
  clear hT
  go_enter Tryz.func4, Tryz.ntmps4
  go_wp2_with fail
  -- Run
  obtain ⟨w1, hw1⟩ : ∃ w1, w1 = (((w.alloc (.cells #[.int .i64 1, .int .i64 1, .int .i64 1, .int .i64 0, .int .i64 0, .int .i64 1, .int .i64 5, .int .i64 0, .int .i64 2] 46)).alloc (.cells #[.int .i64 0, .int .i64 2] 48)).alloc (.cells #[.int .i64 1, .int .i64 2, .int .i64 1] 50)).alloc (.cells #[.int .i64 8, .int .i64 8, .slice (some ⟨w.heap.size, 0, none⟩) 3 3, .slice (some ⟨w.heap.size + 1, 0, none⟩) 1 1, .slice (some ⟨w.heap.size + 1 + 1, 0, none⟩) 1 1, .slice none 0 0] 27) := ⟨_, rfl⟩
  rw [← hw1] at H0 ⊢
  have s1 : w1.heap.size = w.heap.size + 1 + 1 + 1 + 1 := by rw [hw1]; simp
  clear hw1
  have hI2 : Ints (w1.alloc (.cells #[.int .i64 2] 3)) (w1.alloc (.cells #[.int .i64 2] 3)).heap.size (some ⟨w.heap.size + 1 + 1 + 1 + 1, 0, none⟩) [2] := by
    have h := ints_new8 w1 [2]
    rw [s1] at h
    exact h
  have E1 := H0.out.next (below_alloc (w := w1) (.cells #[.int .i64 2] 3))
  refine (run_ex E1.gd hI2).mono ?_
  rintro e w2 ⟨A1, c1, rfl, hi, b⟩
  have E2 := Lib.hid (E1.next b)
  have L2 := Lib.hid hi
  clear b hi H0 hI2 E1 s1
  obtain ⟨lt, c0, k1, c2, c3, c4, c5⟩ := E2.out.cells
  go_wp2_with fail
  -- New
  refine (new_ex E2.out.gd).mono ?_
  rintro e w3 ⟨A, F, rfl, hm, b⟩
  obtain ⟨w4, hw4⟩ : ∃ w4, w4 = w3.alloc (.cells #[.slice (some ⟨A, 0, none⟩) 4 4, .slice (some ⟨F, 0, none⟩) 3 3] 31) := ⟨_, rfl⟩
  have b4 : Below w3.heap.size w3 w4 := by rw [hw4]; exact below_alloc _
  have E4 := Lib.hid ((E2.out.next b).next b4)
  have L4 := Lib.hid (((L2.out.below b).more b.size).below b4 |>.more b4.size)
  have hM4 := BxV8.start hm
  rw [← hw4] at hM4
  have M4 := Lib.hid hM4
  have HW := Lib.hid hw4
  have S4 : Hid (w4.heap.size = w3.heap.size + 1) := Lib.hid (by rw [hw4]; simp)
  clear b hm b4 lt c0 k1 c2 c3 c4 c5 hM4
  obtain ⟨lt, c0, k1, c2, c3, c4, c5⟩ := E4.out.cells
  obtain ⟨ltm, m0, m1⟩ := M4.out.cells
  rw [hw4] at lt c0 k1 c2 c3 c4 c5 ltm m0 m1
  clear hw4
  go_wp2_with fail
  rw [← HW.out]
  clear HW lt c0 k1 c2 c3 c4 c5 ltm m0 m1
  -- Finish 0
  have hI4 : Ints (w4.alloc (.cells #[.int .i64 2] 3)) (w4.alloc (.cells #[.int .i64 2] 3)).heap.size (some ⟨w3.heap.size + 1, 0, none⟩) [2] := by
    have h := ints_new8 w4 [2]
    rw [S4.out] at h
    exact h
  have bA : Below w4.heap.size w4 (w4.alloc (.cells #[.int .i64 2] 3)) := below_alloc _
  refine (fin_ex0 (E4.out.next bA).gd hI4 (M4.out.next bA).m).mono ?_
  rintro e w5 ⟨Ax, cx, Fx, dx, rfl, hm, b⟩
  have b5 := bA.trans (b.mono bA.size)
  obtain ⟨w6, hw6⟩ : ∃ w6, w6 = w5.alloc (.cells #[.slice Ax 4 cx, .slice Fx 3 dx] 31) := ⟨_, rfl⟩
  have b6 : Below w5.heap.size w5 w6 := by rw [hw6]; exact below_alloc _
  have E6 := Lib.hid ((E4.out.next b5).next b6)
  have L6 := Lib.hid (((L4.out.below b5).more b5.size).below b6 |>.more b6.size)
  have M6 := Lib.hid ((M4.out.next b5).next b6)
  have hlm : w3.heap.size < w5.heap.size := (M4.out.next b5).lt
  have hlm2 : w3.heap.size < w5.heap.size + 1 := by omega
  have hX6 := BxV8.start hm
  rw [← hw6] at hX6
  have X6 := Lib.hid hX6
  have HW := Lib.hid hw6
  have S6 : Hid (w6.heap.size = w5.heap.size + 1) := Lib.hid (by rw [hw6]; simp)
  clear b hm b5 b6 hX6 bA hI4
  obtain ⟨lt, c0, k1, c2, c3, c4, c5⟩ := E6.out.cells
  obtain ⟨ltm, m0, m1⟩ := M6.out.cells
  rw [hw6] at lt c0 k1 c2 c3 c4 c5 ltm m0 m1
  clear hw6
  go_wp2_with fail
  rw [← HW.out]
  clear HW lt c0 k1 c2 c3 c4 c5 ltm m0 m1 hlm hlm2
  -- Finish 3
  have hI6 : Ints (w6.alloc (.cells #[.int .i64 2] 3)) (w6.alloc (.cells #[.int .i64 2] 3)).heap.size (some ⟨w5.heap.size + 1, 0, none⟩) [2] := by
    have h := ints_new8 w6 [2]
    rw [S6.out] at h
    exact h
  have bA : Below w6.heap.size w6 (w6.alloc (.cells #[.int .i64 2] 3)) := below_alloc _
  refine (fin_ex3 (E6.out.next bA).gd hI6 (M6.out.next bA).m).mono ?_
  rintro e w7 ⟨Ay, ny, cy, Fy, my, dy, rfl, b⟩
  have b7 := bA.trans (b.mono bA.size)
  obtain ⟨w8, hw8⟩ : ∃ w8, w8 = w7.alloc (.cells #[.slice Ay ny cy, .slice Fy my dy] 31) := ⟨_, rfl⟩
  have b8 : Below w7.heap.size w7 w8 := by rw [hw8]; exact below_alloc _
  have E8 := Lib.hid ((E6.out.next b7).next b8)
  have L8 := Lib.hid (((L6.out.below b7).more b7.size).below b8 |>.more b8.size)
  have M8 := Lib.hid ((M6.out.next b7).next b8)
  have X8 := Lib.hid ((X6.out.next b7).next b8)
  have HW := Lib.hid hw8
  have S8 : Hid (w8.heap.size = w7.heap.size + 1) := Lib.hid (by rw [hw8]; simp)
  clear b b7 b8 hw8 bA hI6
  go_wp2_with fail
  rw [← HW.out]
  clear HW
  -- the run's list
  have hI8 : Ints (w8.alloc (.cells #[.int .i64 1, .int .i64 2, .int .i64 6760] 3)) (w8.alloc (.cells #[.int .i64 1, .int .i64 2, .int .i64 6760] 3)).heap.size (some ⟨w7.heap.size + 1, 0, none⟩) [1, 2, 6760] := by
    have h := ints_new8 w8 [1, 2, 6760]
    rw [S8.out] at h
    exact h
  have bA : Below w8.heap.size w8 (w8.alloc (.cells #[.int .i64 1, .int .i64 2, .int .i64 6760] 3)) := below_alloc _
  refine (same_list (zs := [1, 2, 6760]) rfl (by decide) ((L8.out.below bA).more bA.size) hI8).mono ?_
  rintro e w9 ⟨rfl, b⟩
  have b9 := bA.trans (b.mono bA.size)
  have E9 := Lib.hid (E8.out.next b9)
  have M9 := Lib.hid (M8.out.next b9)
  have X9 := Lib.hid (X8.out.next b9)
  clear b b9 bA hI8
  obtain ⟨lt, c0, k1, c2, c3, c4, c5⟩ := E9.out.cells
  obtain ⟨ltx, x0, x1⟩ := X9.out.cells
  obtain ⟨bq, oq, z, rfl, hbq, hzq, hcq⟩ := X9.out.m.ints.at_ (k := 0) (by decide)
  obtain rfl : z = 1 := by simpa using hzq.symm
  simp only [Nat.add_zero] at hcq
  go_wp2_with fail
  clear hcq hzq hbq
  -- Ready
  refine (ready_ex E9.out.gd X9.out.m).mono ?_
  rintro e wa ⟨A2, c2', rfl, hi, b⟩
  have Ea := Lib.hid (E9.out.next b)
  have Ma := Lib.hid (M9.out.next b)
  have Xa := Lib.hid (X9.out.next b)
  have La := Lib.hid hi
  clear b hi lt c0 k1 c2 c3 c4 c5 ltx x0 x1
  go_wp2_with fail
  have hIa : Ints (wa.alloc (.cells #[.int .i64 1, .int .i64 2] 3)) (wa.alloc (.cells #[.int .i64 1, .int .i64 2] 3)).heap.size (some ⟨wa.heap.size, 0, none⟩) [1, 2] := ints_new8 wa [1, 2]
  have bA : Below wa.heap.size wa (wa.alloc (.cells #[.int .i64 1, .int .i64 2] 3)) := below_alloc _
  refine (same_list (zs := [1, 2]) rfl (by decide) ((La.out.below bA).more bA.size) hIa).mono ?_
  rintro e wb ⟨rfl, b⟩
  have bb := bA.trans (b.mono bA.size)
  have Eb := Lib.hid (Ea.out.next bb)
  have Mb := Lib.hid (Ma.out.next bb)
  have Xb := Lib.hid (Xa.out.next bb)
  clear b bb bA hIa
  obtain ⟨lt, c0, k1, c2, c3, c4, c5⟩ := Eb.out.cells
  obtain ⟨ltx, x0, x1⟩ := Xb.out.cells
  go_wp2_with fail
  -- Check
  refine (check_ex Eb.out.gd Xb.out.m).mono ?_
  rintro e wc ⟨rfl, b⟩
  have Ec := Lib.hid (Eb.out.next b)
  have Mc := Lib.hid (Mb.out.next b)
  have Xc := Lib.hid (Xb.out.next b)
  clear b lt c0 k1 c2 c3 c4 c5 ltx x0 x1
  obtain ⟨ltx, x0, x1⟩ := Xc.out.cells
  go_wp2_with fail
  -- Same
  refine (same_m wc Xc.out.m Xc.out.m).mono ?_
  rintro e wd ⟨rfl, b⟩
  rw [decide_eq_true (⟨rfl, rfl⟩ : exD1 = exD1 ∧ ([1, 0, 0] : List Int) = [1, 0, 0])]
  have Ed := Lib.hid (Ec.out.next b)
  have Md := Lib.hid (Mc.out.next b)
  have Xd := Lib.hid (Xc.out.next b)
  clear b ltx x0 x1
  obtain ⟨ltx, x0, x1⟩ := Xd.out.cells
  obtain ⟨ltm, m0, m1⟩ := Md.out.cells
  go_wp2_with fail
  refine (same_m wd Xd.out.m Md.out.m).mono ?_
  rintro e we ⟨rfl, b⟩
  rw [decide_eq_false (show ¬ (exD1 = exD0 ∧ ([1, 0, 0] : List Int) = [0, 0, 0]) by decide)]
  have Ee := Lib.hid (Ed.out.next b)
  clear b ltx x0 x1 ltm m0 m1
  go_wp2_with fail
  -- Op
  have hIe : Ints (we.alloc (.cells #[.int .i64 1, .int .i64 2] 3)) (we.alloc (.cells #[.int .i64 1, .int .i64 2] 3)).heap.size (some ⟨we.heap.size, 0, none⟩) [1, 2] := ints_new8 we [1, 2]
  have bA : Below we.heap.size we (we.alloc (.cells #[.int .i64 1, .int .i64 2] 3)) := below_alloc _
  refine (op_ex hIe).mono ?_
  rintro e wf ⟨rfl, b⟩
  have bf := bA.trans (b.mono bA.size)
  have Ef := Lib.hid (Ee.out.next bf)
  clear b bf
  go_wp2_with fail
  go_ret
  exact ⟨rfl, Ef.out.bel⟩
end Go.Proofs.YtkmajhbfmdoamaaGreatDoor
