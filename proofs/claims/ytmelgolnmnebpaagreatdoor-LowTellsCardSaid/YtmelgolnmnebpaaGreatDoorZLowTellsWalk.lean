/- The walk of LowTells in the seat YtmelgolnmnebpaaGreatDoor. No statement is proved here. -/
import Derived.Test.YtmelgolnmnebpaaGreatDoorZM24
import Derived.Test.YtmelgolnmnebpaaGreatDoorZRefLower
set_option linter.unusedSimpArgs false
set_option linter.unusedVariables false
namespace Go.Proofs.YtmelgolnmnebpaaGreatDoor
open Go.RowKit

theorem rlower_sz {s : Sh} {T : Task} {w : World} {n m k : Nat} (hn : (lowWv T).length = n) (hm : (lowEv T).length = m) (hk : (lowPv T).length = k) (hD : IsD w s T) : Calls Tryz.prog 13 #[s.arg T.period T.deadline] w fun e w' =>
    ∃ A c F d R z, e = .returned (.tuple #[.agg #[.slice A n c, .slice F m d, .slice R k z], .int .i64 (lowX T)]) ∧ IsL w' A n c F m d R k z (lowWv T) (lowEv T) (lowPv T) ∧ Below w.heap.size w w' := by
  subst hn hm hk
  exact (rlower_any s T w hD).mono fun _ _ h => h.boxes hD.tab lows_few
set_option maxRecDepth 100000 in
set_option maxHeartbeats 4000000 in
theorem tells_many (w : World) (s : Sh) (T : Task) (hT : DTab w) (h : InD w s T) (f : ¬ FewD T) :
    Calls Tryz.prog 3 #[s.arg T.period T.deadline] w fun e w' => e = .returned (.bool true) ∧ Below w.heap.size w w' := by
  have HTW := Lib.hid (fun W (h : Below w.heap.size w W) => DTab.via hT h)
  have B0 := Lib.hid (Bx1T.start h.t)
  have F1 := Lib.hid f
  clear h hT f
  go_enter Tryz.func3, Tryz.ntmps3
  go_wp2_with fail
  refine (awakeL_any _ (HTW.out _ B0.out.bel)).mono ?_
  rintro e w1 ⟨rfl, b1⟩
  have B1 := Lib.hid (B0.out.next b1)
  clear b1
  obtain ⟨c1, c2, c3, c4, c5, c6⟩ := B1.out.c
  go_wp2_with fail
  refine (few_n B1.out.t F1.out).mono ?_
  rintro e w2 ⟨rfl, b2⟩
  have B2 := Lib.hid (B1.out.next b2)
  clear b2 c1 c2 c3 c4 c5 c6
  go_wp2_with fail
  refine (awakeL_any _ (HTW.out _ B2.out.bel)).mono ?_
  rintro e w3 ⟨rfl, b3⟩
  have B3 := Lib.hid (B2.out.next b3)
  clear b3
  go_wp2_with fail
  go_ret
  exact ⟨rfl, B3.out.bel⟩
set_option maxRecDepth 100000 in
set_option maxHeartbeats 8000000 in
theorem tells_few (w : World) (s : Sh) (T : Task) (hT : DTab w) (h : InD w s T) (f : FewD T) :
    Calls Tryz.prog 3 #[s.arg T.period T.deadline] w fun e w' => e = .returned (.bool true) ∧ Below w.heap.size w w' := by
  have HTW := Lib.hid (fun W (h : Below w.heap.size w W) => DTab.via hT h)
  have B0 := Lib.hid ((Bx1T.start h.t).few h hT f)
  have F1 := Lib.hid f
  clear h hT f
  obtain ⟨P, np, pc, E, ne, ec, F, nf, fc, R, nr, rc⟩ := s
  obtain ⟨n, hn⟩ : ∃ n, (lowWv T).length = n := ⟨_, rfl⟩
  obtain ⟨m, hm⟩ : ∃ n, (lowEv T).length = n := ⟨_, rfl⟩
  obtain ⟨k, hk⟩ : ∃ n, (lowPv T).length = n := ⟨_, rfl⟩
  obtain ⟨r, hr⟩ : ∃ r, r = lowX T := ⟨_, rfl⟩
  have CL := Lib.hid (fun W s (h : IsD W s T) => lower_sz hn hm hk h)
  have CR := Lib.hid (fun W s (h : IsD W s T) => rlower_sz hn hm hk h)
  rw [← hr] at CL CR
  clear hn hm hk hr
  go_enter Tryz.func3, Tryz.ntmps3
  go_wp2_with fail
  refine (awakeL_any _ (HTW.out _ B0.out.bel)).mono ?_
  rintro e w1 ⟨rfl, b1⟩
  have B1 := Lib.hid (B0.out.next b1)
  clear b1
  obtain ⟨c1, c2, c3, c4, c5, c6⟩ := B1.out.c
  go_wp2_with fail
  refine (few_d B1.out.d.t F1.out).mono ?_
  rintro e w2 ⟨rfl, b2⟩
  have B2 := Lib.hid (B1.out.next b2)
  clear b2 c1 c2 c3 c4 c5 c6
  obtain ⟨c1, c2, c3, c4, c5, c6⟩ := B2.out.c
  go_wp2_with fail
  refine (own_d B2.out.d).mono ?_
  rintro e w3 ⟨s', rfl, hs', b3⟩
  have B3 := Lib.hid (B2.out.next b3)
  have HS := Lib.hid hs'
  clear b3 hs' c1 c2 c3 c4 c5 c6
  go_wp2_with fail
  refine (CL.out _ _ HS.out).mono ?_
  rintro e w4 ⟨A, c, F', d, R', z, rfl, hL, b4⟩
  obtain ⟨w5, hw5⟩ : ∃ w5, w5 = w4.alloc (.cells #[.slice A n c, .slice F' m d, .slice R' k z] 35) := ⟨_, rfl⟩
  have hBL := BxL.start (B3.out.next b4) hL
  rw [← hw5] at hBL
  have HW := Lib.hid hw5
  have B5 := Lib.hid hBL
  obtain ⟨c1, c2, c3, c4, c5, c6⟩ := hBL.b.c
  rw [hw5] at c1 c2 c3 c4 c5 c6
  clear hw5 hBL b4 hL B0 B1 B2 B3 CL HS F1 HTW
  simp only at c1 c2 c3 c4 c5 c6
  go_wp2_with fail
  rw [← HW.out]
  clear HW c1 c2 c3 c4 c5 c6
  refine (CR.out _ _ B5.out.b.d).mono ?_
  rintro e w6 ⟨A7, c7, F7, d7, R7, z7, rfl, hL7, b7⟩
  obtain ⟨w7, hw7⟩ : ∃ w7, w7 = w6.alloc (.cells #[.slice A7 n c7, .slice F7 m d7, .slice R7 k z7] 35) := ⟨_, rfl⟩
  have hBM := BxL.start ((B5.out.next b7).b) hL7
  have hB7 := (B5.out.next b7).next (below_alloc (.cells #[.slice A7 n c7, .slice F7 m d7, .slice R7 k z7] 35))
  obtain ⟨e0, e1, e2⟩ := hBM.cells
  obtain ⟨d0, d1, d2⟩ := hB7.cells
  rw [← hw7] at hBM hB7
  have HW := Lib.hid hw7
  have BM := Lib.hid hBM
  have B7 := Lib.hid hB7
  clear hw7 hBM hB7 b7 hL7 B5 CR
  go_wp2_with fail
  rw [← HW.out]
  clear HW e0 e1 e2 d0 d1 d2
  refine (rsameL_any w7 B7.out.l BM.out.l).mono ?_
  rintro e w8 ⟨rfl, b8⟩
  have B8 := Lib.hid (B7.out.b.next b8)
  have ht : decide ((lowWv T = lowWv T ∧ lowEv T = lowEv T) ∧ lowPv T = lowPv T) = true := decide_eq_true ⟨⟨rfl, rfl⟩, rfl⟩
  rw [ht]
  clear b8 ht
  go_wp2_with fail
  go_ret
  exact ⟨by simp, B8.out.bel⟩
theorem walk_LowTells (w : World) {s : Sh} {T : Task} (h : InD w s T) (hT : DTab w) :
    Calls Tryz.prog 3 #[s.arg T.period T.deadline] w fun e w' => e = .returned (.bool true) ∧ Below w.heap.size w w' := by
  by_cases f : FewD T
  · exact tells_few w s T hT h f
  · exact tells_many w s T hT h f
end Go.Proofs.YtmelgolnmnebpaaGreatDoor
