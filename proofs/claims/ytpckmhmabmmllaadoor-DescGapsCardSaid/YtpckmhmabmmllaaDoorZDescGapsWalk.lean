/- The walk of DescGaps in the seat YtpckmhmabmmllaaDoor, given what the program's functions answer (printed by desc/mk_walks.py). No statement is proved here. -/
import Derived.Test.YtpckmhmabmmllaaDoorZDescWalk0
set_option linter.unusedVariables false
namespace Go.Proofs.YtpckmhmabmmllaaDoor
open Go.RowKit

/-- The place of the touch ahead of the k-th. -/
def lastAt (fs : List (Int × Int × Int)) (l : List Nat) (k : Nat) : Int := if k = 0 then 0 else (futAt fs (l.getD (k - 1) 0)).2.2
theorem touLp {fs : List (Int × Int × Int)} {x : Int} (hn : (fs.map fun f => f.2).Nodup) : (touL fs x).Pairwise fun i j => (futAt fs i).2.2 < (futAt fs j).2.2 := by
  unfold touL
  exact touL_rises hn 99
theorem mem_touL {fs : List (Int × Int × Int)} {x : Int} {j : Nat} : j ∈ touL fs x ↔ j < fs.length ∧ (futAt fs j).2.1 = x ∧ 1 ≤ (futAt fs j).2.2 ∧ (futAt fs j).2.2 ≤ (99 : Nat) := by
  unfold touL
  exact mem_touK
theorem touL_at {T : Task} {x : Int} (hM : MayT T) {k j : Nat} (hj : (touL T.futures x)[k]? = some j) : ∃ f1 f3, T.futures[j]? = some (f1, x, f3) ∧ lastAt T.futures (touL T.futures x) k < f3 ∧ lastAt T.futures (touL T.futures x) (k + 1) = f3 := by
  obtain ⟨h1, h2, h3, _⟩ := mem_touL.mp (List.mem_of_getElem? hj)
  have hp := touLp (x := x) hM.futures.once
  generalize touL T.futures x = l at hj hp ⊢
  have hf : T.futures[j]? = some (futAt T.futures j) := by
    unfold futAt
    rw [List.getD_eq_getElem?_getD, List.getElem?_eq_getElem h1]
    rfl
  have e : futAt T.futures j = ((futAt T.futures j).1, x, (futAt T.futures j).2.2) := by rw [← h2]
  refine ⟨(futAt T.futures j).1, (futAt T.futures j).2.2, hf.trans (congrArg some e), ?_, ?_⟩
  · unfold lastAt
    split
    · omega
    · rename_i h0
      obtain ⟨hk, hkj⟩ := List.getElem?_eq_some_iff.1 hj
      have hq := List.pairwise_iff_getElem.mp hp (k - 1) k (by omega) hk (by omega)
      rw [hkj] at hq
      rw [List.getD_eq_getElem?_getD, List.getElem?_eq_getElem (by omega)]
      exact hq
  · unfold lastAt
    rw [if_neg (by omega), show k + 1 - 1 = k by omega, List.getD_eq_getElem?_getD, hj]
    rfl
theorem last_work {T : Task} {x : Int} (hM : MayT T) {e : Int × Int × Int} (he : T.parts[x.toNat]? = some e) : lastAt T.futures (touL T.futures x) (touL T.futures x).length < e.2.2 := by
  unfold lastAt
  split
  · have := (hM.parts e (List.mem_of_getElem? he)).2.2.2.2.1
    omega
  · rename_i h0
    have hl : (touL T.futures x).length - 1 < (touL T.futures x).length := by omega
    obtain ⟨h1, h2, _, _⟩ := mem_touL.mp (List.getElem_mem hl)
    rw [List.getD_eq_getElem?_getD, List.getElem?_eq_getElem hl]
    have hf := hM.futures.each _ (futAt_mem h1)
    exact hf.last e (by rw [h2]; exact he)
theorem feeds_ge {T : Task} {x : Int} : (touL T.futures x).length ≤ (feedsL T.edges T.futures x).length := by
  unfold feedsL feF
  rw [List.length_append, List.length_map]
  omega
set_option maxRecDepth 100000 in
set_option maxHeartbeats 8000000 in
theorem gaps_few (K : DescOk) (w : World) (s : Sh) (T : Task) (x : Int) (hx : -9223372036854775808 ≤ x ∧ x ≤ 9223372036854775807) (hT : DTab w) (h : InD w s T) (f : FewD T) :
    Calls Tryd.prog 5 #[s.arg T.period T.deadline, .int .i64 x] w fun e w' => e = .returned (.bool true) ∧ Below w.heap.size w w' := by
  have HK := Lib.hid K
  have HTW := Lib.hid (fun W (h : Below w.heap.size w W) => DTab.via hT h)
  have B0 := Lib.hid ((Bx1T.start h.t).few h hT f)
  have F1 := Lib.hid f
  have hnp := h.t.hp
  have HNP := Lib.hid hnp
  have HNF := Lib.hid h.t.hf
  have hl9 : s.np ≤ 400 := by have := f.np; omega
  clear K h hT f hnp
  obtain ⟨P, np, pc, E, ne, ec, F, nf, fc, R, nr, rc⟩ := s
  simp only at HNP HNF hl9
  obtain ⟨r, hr⟩ : ∃ r, r = chkT T := ⟨_, rfl⟩
  have CC := Lib.hid (fun W s (h : IsD W s T) => show Calls Tryd.prog 11 #[s.arg T.period T.deadline] W fun e w' => e = .returned (.int .i64 r) ∧ Below W.heap.size W w' by rw [hr]; exact HK.out.check W h)
  by_cases hM : MayT T
  · obtain rfl : r = 0 := hr.trans (chkT_zero.mpr hM)
    have HM := Lib.hid hM
    clear hr hM
    by_cases h0 : 0 ≤ x ∧ x < np
    · obtain ⟨u, rfl⟩ : ∃ u : Nat, x = (u : Int) := ⟨x.toNat, by omega⟩
      have hu : u < np := by omega
      have k1 : decide ((u : Int) < 0) = false := by rw [decide_eq_false_iff_not]; omega
      have k2 : decide ((np : Int) ≤ (u : Int)) = false := by rw [decide_eq_false_iff_not]; omega
      clear h0
      go_enter Tryd.func5, Tryd.ntmps5
      go_wp2_with fail
      refine (awake_any HK.out _ (HTW.out _ B0.out.bel)).mono ?_
      rintro e w1 ⟨rfl, b1⟩
      have B1 := Lib.hid (B0.out.next b1)
      clear b1
      obtain ⟨c1, c2, c3, c4, c5, c6⟩ := B1.out.c
      go_wp2_with fail
      refine (few_d B1.out.d.t F1.out).mono ?_
      rintro e w2 ⟨rfl, b2⟩
      have B2 := Lib.hid (B1.out.next b2)
      clear b2 c1 c2 c3 c4 c5 c6
      obtain ⟨c1, c2, c3, c4, c5, c6⟩ := B2.out.c
      go_wp2_with fail
      refine (own_d B2.out.d).mono ?_
      rintro e w3 ⟨sa, rfl, hd, b3⟩
      have B3 := Lib.hid (B2.out.next b3)
      have D3 := Lib.hid hd
      clear b3 c1 c2 c3 c4 c5 c6 hd
      go_wp2_with fail
      refine (CC.out _ _ D3.out).mono ?_
      rintro e w4 ⟨rfl, b4⟩
      have B4 := Lib.hid (B3.out.next b4)
      clear b4 D3
      obtain ⟨c1, c2, c3, c4, c5, c6⟩ := B4.out.c
      go_wp2_with fail
      refine (own_d B4.out.d).mono ?_
      rintro e w5 ⟨sa, rfl, hd, b5⟩
      have B5 := Lib.hid (B4.out.next b5)
      have D5 := Lib.hid hd
      clear b5 c1 c2 c3 c4 c5 c6 hd B0 B1 B2 B3 B4
      go_wp2_with fail
      refine (GotInts.lies (HK.out.touches _ (u : Int) hx.1 hx.2 D5.out)).mono ?_
      rintro e w6 ⟨_, rfl, ⟨A1, a1, rfl, i1⟩, b6⟩
      have B6 := Lib.hid (B5.out.next b6)
      have HTV : Hid (touchesV T (u : Int) = nums (touL T.futures (u : Int))) := Lib.hid (by unfold touchesV; rw [if_pos HM.out])
      rw [HTV.out] at i1 ⊢
      obtain ⟨tn, htn⟩ : ∃ n, n = (nums (touL T.futures (u : Int))).length := ⟨_, rfl⟩
      rw [← htn]
      have HTN := Lib.hid (show (touL T.futures (u : Int)).length = tn by rw [htn, nums_length])
      have htl : tn ≤ 400 := by
        have h1 := touK_len T.futures (u : Int) 99
        have h2 := B6.out.d.few.nf
        have h3 := HTN.out
        have h4 : (touL T.futures (u : Int)).length ≤ T.futures.length := h1
        omega
      have I1 := Lib.hid i1
      clear b6 i1 htn B5 D5
      go_wp2
      go_loopw [6, 7] (fun v i wr => ∃ k : Nat, k ≤ tn ∧ i = .int .i64 k ∧ v = .int .i64 (lastAt T.futures (touL T.futures (u : Int)) k) ∧ Hid (Bx1D w ⟨P, np, pc, E, ne, ec, F, nf, fc, R, nr, rc⟩ T wr) ∧ Hid (Ints wr wr.heap.size A1 (nums (touL T.futures (u : Int))))) (fun _ i _ => tn - (intOf i).toNat)
      case atStart => exact ⟨0, Nat.zero_le _, rfl, rfl, B6, I1⟩
      case round =>
        obtain ⟨k, hk, rfl, rfl, BR, IR⟩ := hrel
        clear B6 I1
        obtain ⟨c1, c2, c3, c4, c5, c6⟩ := BR.out.c
        simp only at c1 c2 c3 c4 c5 c6
        by_cases hlt : k < tn
        · obtain ⟨bk, off, z, rfl, hbg, hz, hcz⟩ := IR.out.at_ (k := k) (by rw [nums_length, HTN.out]; exact hlt)
          obtain ⟨j, rfl, hj⟩ := nums_at hz
          obtain ⟨f1, f3, hfj, hlast, hnext⟩ := touL_at HM.out hj
          have hjn : j < nf := by rw [← HNF.out]; exact (List.getElem?_eq_some_iff.1 hfj).1
          obtain ⟨bf, of, y1, y2, y3, hF, hbf, hfj2, d1, d2, d3⟩ := BR.out.d.t.futures.at_ (k := j) (by rw [HNF.out]; exact hjn)
          simp only at hF
          subst hF
          rw [hfj] at hfj2
          injection hfj2 with hfj2
          injection hfj2 with q1 q2
          injection q2 with q2 q3
          subst q1 q2 q3
          obtain ⟨la, hla⟩ : ∃ la, la = lastAt T.futures (touL T.futures (u : Int)) k := ⟨_, rfl⟩
          rw [← hla] at hlast ⊢
          have HNX := Lib.hid hnext
          have HLA := Lib.hid hla
          have g1 : decide ((j : Int) < 0) = false := by rw [decide_eq_false_iff_not]; omega
          have g2 : decide ((nf : Int) ≤ (j : Int)) = false := by rw [decide_eq_false_iff_not]; omega
          have g3 : ((u : Int) != (u : Int)) = false := by simp
          have g5 : decide (nf ≤ j) = false := by rw [decide_eq_false_iff_not]; omega
          have g4 : decide (f3 ≤ la) = false := by rw [decide_eq_false_iff_not]; omega
          clear hz hj hfj hlast hnext hla hx d1
          go_wp2
          go_quiet (fail)
          go_wp2
          go_quiet (fail)
          have BW := Lib.hid (fun n => BR.out.next (below_drewN (Below.refl wr.heap.size wr) n))
          have IW := Lib.hid (fun n => (IR.out.below (below_drewN (Below.refl wr.heap.size wr) n)).more (below_drewN (Below.refl wr.heap.size wr) n).size)
          go_wp2
          go_roundw
          case rel => exact ⟨k + 1, by omega, by go_num, by rw [HNX.out], Lib.hid (by first | exact BW.out _ | (rw [drews]; exact BW.out _)), Lib.hid (by first | exact IW.out _ | (rw [drews]; exact IW.out _))⟩
          case measure => simp [intOf]; omega
        · have e : k = tn := by omega
          subst e
          obtain ⟨bp, op, o1, o2, wk, hP, hbp, hpk, q1, q2, q3⟩ := BR.out.d.t.parts.at_ (k := u) (by rw [HNP.out]; exact hu)
          simp only at hP
          subst hP
          have hlw := last_work (x := (u : Int)) HM.out hpk
          rw [HTN.out] at hlw
          simp only at hlw
          obtain ⟨la, hla⟩ : ∃ la, la = lastAt T.futures (touL T.futures (u : Int)) k := ⟨_, rfl⟩
          rw [← hla] at hlw ⊢
          have HFV : Hid (feedsV T (u : Int) = feedsL T.edges T.futures (u : Int)) := Lib.hid (by unfold feedsV; rw [if_pos HM.out])
          have hge : k ≤ (feedsL T.edges T.futures (u : Int)).length := by rw [← HTN.out]; exact feeds_ge
          obtain ⟨fl, hfl⟩ : ∃ n, n = (feedsL T.edges T.futures (u : Int)).length := ⟨_, rfl⟩
          have HFL := Lib.hid hfl
          rw [← hfl] at hge
          have g5 : decide ((k : Int) ≤ (fl : Int)) = true := by rw [decide_eq_true_iff]; omega
          have g6 : decide (k ≤ fl) = true := by rw [decide_eq_true_iff]; omega
          clear hpk q1 q2 hla hfl
          go_wp2_with fail
          refine (own_d BR.out.d).mono ?_
          rintro e w7 ⟨sa, rfl, hd, b7⟩
          have B7 := Lib.hid (BR.out.next b7)
          have D7 := Lib.hid hd
          clear b7 hd c1 c2 c3 c4 c5 c6
          go_wp2_with fail
          refine (HK.out.feeds _ (u : Int) hx.1 hx.2 D7.out).mono ?_
          rintro e w8 ⟨A2, a2, rfl, i2, b8⟩
          rw [HFV.out, ← HFL.out]
          have B8 := Lib.hid (B7.out.next b8)
          clear b8 i2
          go_wp2
          go_ret
          exact ⟨rfl, B8.out.bel⟩
    · rcases (show x < 0 ∨ (0 ≤ x ∧ (np : Int) ≤ x) by omega) with h1 | ⟨h1, h2⟩
      · clear h0
        go_enter Tryd.func5, Tryd.ntmps5
        go_wp2_with fail
        refine (awake_any HK.out _ (HTW.out _ B0.out.bel)).mono ?_
        rintro e w1 ⟨rfl, b1⟩
        have B1 := Lib.hid (B0.out.next b1)
        clear b1
        obtain ⟨c1, c2, c3, c4, c5, c6⟩ := B1.out.c
        go_wp2_with fail
        refine (few_d B1.out.d.t F1.out).mono ?_
        rintro e w2 ⟨rfl, b2⟩
        have B2 := Lib.hid (B1.out.next b2)
        clear b2 c1 c2 c3 c4 c5 c6
        obtain ⟨c1, c2, c3, c4, c5, c6⟩ := B2.out.c
        go_wp2_with fail
        refine (own_d B2.out.d).mono ?_
        rintro e w3 ⟨sa, rfl, hd, b3⟩
        have B3 := Lib.hid (B2.out.next b3)
        have D3 := Lib.hid hd
        clear b3 c1 c2 c3 c4 c5 c6 hd
        go_wp2_with fail
        refine (CC.out _ _ D3.out).mono ?_
        rintro e w4 ⟨rfl, b4⟩
        have B4 := Lib.hid (B3.out.next b4)
        clear b4 D3
        clear hx
        go_wp2_with fail
        refine (awake_any HK.out _ (HTW.out _ B4.out.bel)).mono ?_
        rintro e w9 ⟨rfl, b9⟩
        have B9 := Lib.hid (B4.out.next b9)
        clear b9
        go_wp2
        go_ret
        exact ⟨rfl, B9.out.bel⟩
      · have k1 : decide (x < 0) = false := by rw [decide_eq_false_iff_not]; omega
        clear h0
        go_enter Tryd.func5, Tryd.ntmps5
        go_wp2_with fail
        refine (awake_any HK.out _ (HTW.out _ B0.out.bel)).mono ?_
        rintro e w1 ⟨rfl, b1⟩
        have B1 := Lib.hid (B0.out.next b1)
        clear b1
        obtain ⟨c1, c2, c3, c4, c5, c6⟩ := B1.out.c
        go_wp2_with fail
        refine (few_d B1.out.d.t F1.out).mono ?_
        rintro e w2 ⟨rfl, b2⟩
        have B2 := Lib.hid (B1.out.next b2)
        clear b2 c1 c2 c3 c4 c5 c6
        obtain ⟨c1, c2, c3, c4, c5, c6⟩ := B2.out.c
        go_wp2_with fail
        refine (own_d B2.out.d).mono ?_
        rintro e w3 ⟨sa, rfl, hd, b3⟩
        have B3 := Lib.hid (B2.out.next b3)
        have D3 := Lib.hid hd
        clear b3 c1 c2 c3 c4 c5 c6 hd
        go_wp2_with fail
        refine (CC.out _ _ D3.out).mono ?_
        rintro e w4 ⟨rfl, b4⟩
        have B4 := Lib.hid (B3.out.next b4)
        clear b4 D3
        clear hx
        obtain ⟨c1, c2, c3, c4, c5, c6⟩ := B4.out.c
        go_wp2_with fail
        refine (awake_any HK.out _ (HTW.out _ B4.out.bel)).mono ?_
        rintro e w9 ⟨rfl, b9⟩
        have B9 := Lib.hid (B4.out.next b9)
        clear b9
        go_wp2
        go_ret
        exact ⟨rfl, B9.out.bel⟩
  · have hc : (r != 0) = true := by
      rw [bne_iff_ne, hr]
      exact fun k => hM (chkT_zero.mp k)
    clear hM hr
    go_enter Tryd.func5, Tryd.ntmps5
    go_wp2_with fail
    refine (awake_any HK.out _ (HTW.out _ B0.out.bel)).mono ?_
    rintro e w1 ⟨rfl, b1⟩
    have B1 := Lib.hid (B0.out.next b1)
    clear b1
    obtain ⟨c1, c2, c3, c4, c5, c6⟩ := B1.out.c
    go_wp2_with fail
    refine (few_d B1.out.d.t F1.out).mono ?_
    rintro e w2 ⟨rfl, b2⟩
    have B2 := Lib.hid (B1.out.next b2)
    clear b2 c1 c2 c3 c4 c5 c6
    obtain ⟨c1, c2, c3, c4, c5, c6⟩ := B2.out.c
    go_wp2_with fail
    refine (own_d B2.out.d).mono ?_
    rintro e w3 ⟨sa, rfl, hd, b3⟩
    have B3 := Lib.hid (B2.out.next b3)
    have D3 := Lib.hid hd
    clear b3 c1 c2 c3 c4 c5 c6 hd
    go_wp2_with fail
    refine (CC.out _ _ D3.out).mono ?_
    rintro e w4 ⟨rfl, b4⟩
    have B4 := Lib.hid (B3.out.next b4)
    clear b4 D3
    go_wp2_with fail
    refine (awake_any HK.out _ (HTW.out _ B4.out.bel)).mono ?_
    rintro e w9 ⟨rfl, b9⟩
    have B9 := Lib.hid (B4.out.next b9)
    clear b9
    go_wp2
    go_ret
    exact ⟨rfl, B9.out.bel⟩
set_option maxRecDepth 100000 in
set_option maxHeartbeats 4000000 in
theorem gaps_many (K : DescOk) (w : World) (s : Sh) (T : Task) (x : Int) (hT : DTab w) (h : InD w s T) (f : ¬ FewD T) :
    Calls Tryd.prog 5 #[s.arg T.period T.deadline, .int .i64 x] w fun e w' => e = .returned (.bool true) ∧ Below w.heap.size w w' := by
  have HK := Lib.hid K
  have HTW := Lib.hid (fun W (h : Below w.heap.size w W) => DTab.via hT h)
  have B0 := Lib.hid (Bx1T.start h.t)
  have F1 := Lib.hid f
  clear K h hT f
  go_enter Tryd.func5, Tryd.ntmps5
  go_wp2_with fail
  refine (awake_any HK.out _ (HTW.out _ B0.out.bel)).mono ?_
  rintro e w1 ⟨rfl, b1⟩
  have B1 := Lib.hid (B0.out.next b1)
  clear b1
  obtain ⟨c1, c2, c3, c4, c5, c6⟩ := B1.out.c
  go_wp2_with fail
  refine (few_n B1.out.t F1.out).mono ?_
  rintro e w3 ⟨rfl, b3⟩
  have B3 := Lib.hid (B1.out.next b3)
  clear b3 c1 c2 c3 c4 c5 c6 B0 B1
  go_wp2_with fail
  refine (awake_any HK.out _ (HTW.out _ B3.out.bel)).mono ?_
  rintro e w4 ⟨rfl, b4⟩
  have B4 := Lib.hid (B3.out.next b4)
  clear b4
  go_wp2
  go_ret
  exact ⟨rfl, B4.out.bel⟩
theorem walk_DescGaps (K : DescOk) (w : World) (hT : DTab w) {s : Sh} {T : Task} (h : InD w s T) (x : Int) (hx : -9223372036854775808 ≤ x ∧ x ≤ 9223372036854775807) :
    Calls Tryd.prog 5 #[s.arg T.period T.deadline, .int .i64 x] w fun e w' => e = .returned (.bool true) ∧ Below w.heap.size w w' := by
  by_cases hf : FewD T
  · exact gaps_few K w s T x hx hT h hf
  · exact gaps_many K w s T x hT h hf
end Go.Proofs.YtpckmhmabmmllaaDoor
