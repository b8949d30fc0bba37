/- eval.Ready in the seat YtkmajhbfmdoamaaGreatDoor: its contract. No statement is proved here. -/
import Derived.Test.YtkmajhbfmdoamaaGreatDoorZEvalNew
import Derived.Test.YtkmajhbfmdoamaaGreatDoorZM11
set_option linter.unusedSimpArgs false
set_option linter.unusedVariables false
namespace Go.Proofs.YtkmajhbfmdoamaaGreatDoor
open Go.RowKit

def readyK (E : List (Int × Int)) (D : List Bool) (n : Nat) : List Nat := (List.range n).filter fun j => !D.getD j false && !waitB E D j
theorem readyK_step {E : List (Int × Int)} {D : List Bool} {n : Nat} {z y : Bool} (hz : D.getD n false = z) (hy : waitB E D n = y) : readyK E D (n + 1) = if (!z && !y) = true then readyK E D n ++ [n] else readyK E D n := by
  unfold readyK
  rw [List.range_succ, List.filter_append]
  have h : List.filter (fun j => !D.getD j false && !waitB E D j) [n] = if (!z && !y) = true then [n] else [] := by
    rw [List.filter_cons, hz, hy]
    rfl
  rw [h]
  split <;> simp
theorem readyK_len (E : List (Int × Int)) (D : List Bool) (n : Nat) : (readyK E D n).length ≤ n := by
  have := List.length_filter_le (fun j => !D.getD j false && !waitB E D j) (List.range n)
  rw [List.length_range] at this
  exact this
section
variable {s : Sh} {T : Task} {A : Option Addr} {n c : Nat} {F : Option Addr} {m d : Nat} {D : List Bool} {V : List Int}
set_option maxRecDepth 100000 in
set_option maxHeartbeats 16000000 in
theorem eready_any (w : World) (hD : IsD w s T) (hM : IsM w A n c F m d D V) :
    Calls Tryz.prog 11 #[s.arg T.period T.deadline, .agg #[.slice A n c, .slice F m d]] w (GotOwn (nums (readyM T D V)) w) := by
  have HS := Lib.hid (BxM.start hD hM)
  have HCZ := Lib.hid (fun h : MemOk T D V => chkM_zero.mpr h)
  have HCN := Lib.hid (fun h : ¬ MemOk T D V => fun e => h (chkM_zero.mp e))
  have HRY : Hid (MemOk T D V → readyM T D V = readyK (lowE T) D n) := Lib.hid fun h => by unfold readyM; rw [if_pos h, ← hM.hn]; rfl
  have HRN : Hid (¬ MemOk T D V → readyM T D V = []) := Lib.hid fun h => by unfold readyM; rw [if_neg h]
  have hn4 := hM.ln
  have HN := Lib.hid hM.hn
  obtain ⟨P, np, pc, E, ne, ec, Fu, nf, fc, R, nr, rc⟩ := s
  have CR := Lib.hid (fun W (h1 : IsD W ⟨P, np, pc, E, ne, ec, Fu, nf, fc, R, nr, rc⟩ T) (h2 : IsM W A n c F m d D V) => eread_any W h1 h2)
  obtain ⟨w0, hw0⟩ : ∃ w0, w0 = (w.alloc (.cells #[.int .i64 T.period, .int .i64 T.deadline, .slice P np pc, .slice E ne ec, .slice Fu nf fc, .slice R nr rc] 27)).alloc (.cells #[.slice A n c, .slice F m d] 31) := ⟨_, rfl⟩
  simp only at HS
  rw [← hw0] at HS
  have HW := Lib.hid hw0
  obtain ⟨r, hr⟩ : ∃ r, r = chkM T D V := ⟨_, rfl⟩
  obtain ⟨rl, hrl⟩ : ∃ rl, rl = readyM T D V := ⟨_, rfl⟩
  obtain ⟨nw, hnw⟩ : ∃ n, (lowW T).length = n := ⟨_, rfl⟩
  obtain ⟨nE, hnE⟩ : ∃ n, (lowE T).length = n := ⟨_, rfl⟩
  obtain ⟨nP, hnP⟩ : ∃ n, (lowP T).length = n := ⟨_, rfl⟩
  unfold GotRead at CR
  rw [hnw, hnE, hnP] at CR
  rw [← hr] at CR HCZ HCN
  rw [← hrl] at HRY HRN ⊢
  clear hD hM hw0 hr hrl hnw hnE hnP
  go_enter Tryz.func11, Tryz.ntmps11
  go_wp2_with fail
  rw [← HW.out]
  clear HW
  refine (CR.out _ HS.out.isd HS.out.mem).mono ?_
  rintro e w1 ⟨b1, ⟨hok, A1, c1, F1, d1, R1, e1, g, rfl, _, hg, hrow⟩ | ⟨hno, rfl⟩⟩
  · have hr0 := HCZ.out hok
    subst hr0
    have hrl := HRY.out hok
    subst hrl
    obtain ⟨w2, hw2⟩ : ∃ w2, w2 = w1.alloc (.cells #[.slice A1 nw c1, .slice F1 nE d1, .slice R1 nP e1] 60) := ⟨_, rfl⟩
    have hb2 : Below w1.heap.size w1 w2 := by rw [hw2]; exact below_alloc _
    have HS2 := Lib.hid ((HS.out.next b1).next hb2)
    have HROW := Lib.hid (hrow.below hb2 hrow.lt)
    have HW2 := Lib.hid hw2
    have q0 := HS2.out.m0
    rw [hw2] at q0
    clear b1 hok HCZ HCN HRY HRN CR HS hb2 hrow hw2 hg
    go_wp2
    clear q0
    rw [← HW2.out]
    clear HW2
    go_loopw [8, 23] (fun v i wr => ∃ (j k : Nat) (A' : Option Addr) (c' : Nat), j ≤ n ∧ i = .int .i64 j ∧ v = .slice A' k c' ∧ Hid ((readyK (lowE T) D j).length = k) ∧ Hid (OwnI wr w2.heap.size (.slice A' k c') (nums (readyK (lowE T) D j))) ∧ Hid (Below w2.heap.size w2 wr)) (fun _ i _ => n - (intOf i).toNat)
    case atStart => exact ⟨0, 0, none, 0, Nat.zero_le _, rfl, rfl, Lib.hid rfl, Lib.hid (ownI_nil _ _), Lib.hid (Below.refl _ _)⟩
    case round =>
      obtain ⟨j, k, A', c', hj, rfl, rfl, HK, HO, HB⟩ := hrel
      by_cases hlt : j < n
      · obtain ⟨bd, od, z, rfl, hbd, hzd, hcd⟩ := HS2.out.mem.bools.at2 (k := j) (by rw [HN.out]; exact hlt)
        have q1 := (HB.out.cell (p := ⟨bd, od + j, none⟩) hbd).trans hcd
        have HZ : Hid (D.getD j false = z) := Lib.hid (by rw [List.getD_eq_getElem?_getD, hzd]; rfl)
        have q2 := (HROW.out.below HB.out HROW.out.lt).cell (boolsV_at (l := waitL (lowE T) D n) (j := j) (by rw [waitL_len]; exact hlt))
        rw [waitL_at hlt] at q2
        obtain ⟨y, hy⟩ : ∃ y, waitB (lowE T) D j = y := ⟨_, rfl⟩
        rw [hy] at q2
        have HST := Lib.hid (readyK_step HZ.out hy)
        have hk : k ≤ 400 := by have := readyK_len (lowE T) D j; rw [HK.out] at this; omega
        clear hbd hzd hcd hy HZ
        cases z with
        | true =>
          rw [if_neg (by simp)] at HST
          go_wp2
          go_roundw
          case rel => exact ⟨j + 1, k, A', c', by omega, by go_num, rfl, Lib.hid (by rw [HST.out]; exact HK.out), Lib.hid (by rw [HST.out]; exact HO.out), HB⟩
          case measure => simp [intOf]; omega
        | false =>
          cases y with
          | true =>
            rw [if_neg (by simp)] at HST
            go_wp2
            go_roundw
            case rel => exact ⟨j + 1, k, A', c', by omega, by go_num, rfl, Lib.hid (by rw [HST.out]; exact HK.out), Lib.hid (by rw [HST.out]; exact HO.out), HB⟩
            case measure => simp [intOf]; omega
          | false =>
            rw [if_pos (by simp)] at HST
            have hws := HB.out.size
            go_wp2_with (at_builtin; refine wpList_push rfl _ _ rfl wr w2.heap.size _ (nums (readyK (lowE T) D j)) j k (by rw [nums_length]; exact HK.out) (by omega) HO.out hws rfl rfl ?_; intro A4 c4' w4 HO4 HB4; (have HO4' := Lib.hid HO4); (have HB4' := Lib.hid HB4); clear HO4 HB4)
            go_roundw
            case rel => exact ⟨j + 1, k + 1, A4, c4', by omega, by go_num, rfl, Lib.hid (by rw [HST.out, List.length_append, HK.out]; rfl), Lib.hid (by rw [HST.out, nums_snoc]; exact HO4'.out), Lib.hid (HB.out.trans HB4'.out)⟩
            case measure => simp [intOf]; omega
      · obtain rfl : j = n := by omega
        have HLN : Hid ((nums (readyK (lowE T) D j)).length = k) := Lib.hid (by rw [nums_length]; exact HK.out)
        have HE : Hid (OwnI wr w.heap.size (.slice A' k c') (nums (readyK (lowE T) D j)) ∧ Below w.heap.size w wr) := Lib.hid ⟨HO.out.down HS2.out.bel.size, HS2.out.bel.trans (HB.out.mono HS2.out.bel.size)⟩
        go_wp2
        go_ret
        exact ⟨A', c', by rw [HLN.out]; rfl, by rw [HLN.out]; exact HE.out.1, HE.out.2⟩
  · have hr0 := HCN.out hno
    have hrl := HRN.out hno
    subst hrl
    have hb : (r != 0) = true := bne_iff_ne.mpr hr0
    have HB := Lib.hid (HS.out.bel.trans (b1.mono HS.out.bel.size))
    clear b1 hno HCZ HCN HRY HRN CR HS hr0
    go_wp2
    go_ret
    exact ⟨none, 0, rfl, ownI_nil _ _, HB.out.alloc HB.out.size _⟩
end
end Go.Proofs.YtkmajhbfmdoamaaGreatDoor
