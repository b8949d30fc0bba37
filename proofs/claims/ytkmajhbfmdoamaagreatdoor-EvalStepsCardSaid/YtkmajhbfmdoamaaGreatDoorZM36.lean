/- trefoilref07.Lower in the seat YtkmajhbfmdoamaaGreatDoor: its contract.
   trefoilref08's Bools, Same, is, Check in the seat YtkmajhbfmdoamaaGreatDoor: their contracts.
   The walk of LowTells in the seat YtkmajhbfmdoamaaGreatDoor.
   trefoilref08.Check in the seat YtkmajhbfmdoamaaGreatDoor: its contract.
   A lowered task's graph and pieces, taken out of a value, in the seat YtkmajhbfmdoamaaGreatDoor.
   trefoilref08's is in the seat YtkmajhbfmdoamaaGreatDoor: its contract.
   trefoilref08.Ready in the seat YtkmajhbfmdoamaaGreatDoor: its contract.
   trefoilref08.New in the seat YtkmajhbfmdoamaaGreatDoor: its contract (printed by eval/mk_refnew.py).
   No statement is proved here. -/
import Derived.Test.YtkmajhbfmdoamaaGreatDoorZM22
import Derived.Test.YtkmajhbfmdoamaaGreatDoorZRefGraph
import Derived.Test.YtkmajhbfmdoamaaGreatDoorZM15
import Derived.Laws.ResultCell
import Derived.Test.YtkmajhbfmdoamaaGreatDoorZEvalRead
import Derived.Test.YtkmajhbfmdoamaaGreatDoorZEvalNew
import Derived.Test.YtkmajhbfmdoamaaGreatDoorZM24
import Derived.Test.YtkmajhbfmdoamaaGreatDoorZEvalReadyC
import Derived.Test.YtkmajhbfmdoamaaGreatDoorZM4
set_option linter.unusedSimpArgs false
set_option linter.unusedVariables false
namespace Go.Proofs.YtkmajhbfmdoamaaGreatDoor
open Go.RowKit

theorem rgraph_got {s : Sh} {T : Task} (w : World) (h : IsD w s T) (hM : MayT T) : Calls Tryz.prog 42 #[s.arg T.period T.deadline] w fun e w' => ∃ vW vE vP, e = .returned (.agg #[vW, vE, vP]) ∧ OwnI w' w.heap.size vW (lowW T) ∧ OwnE w' w.heap.size vE (lowE T) ∧ OwnP w' w.heap.size vP (lowP T) ∧ Below w.heap.size w w' :=
  (rgraph_any w h hM).mono fun e w' ⟨_, _, _, _, _, _, _, _, _, he, h1, h2, h3, hb⟩ => ⟨_, _, _, he, h1, h2, h3, hb⟩
theorem rcheck_gr {A : Option Addr} {n c : Nat} {F : Option Addr} {m d : Nat} {W : List Int} {E : List (Int × Int)} {w : World} (h : IsG w A n c F m d W E) :
    Calls Tryz.prog 48 #[.agg #[.slice A n c, .slice F m d]] w fun e w' => e = .returned (.int .i64 (chkE W E)) ∧ Below w.heap.size w w' :=
  rcheck_any A F n c m d W E w h.hn (by have := h.ln; omega) h.hm (by have := h.lm; omega) h.ints h.pairs
set_option maxRecDepth 100000 in
set_option maxHeartbeats 8000000 in
theorem rlower_bad (s : Sh) (T : Task) (w : World) (hD : IsD w s T) (hM : ¬ MayT T) : Calls Tryz.prog 30 #[s.arg T.period T.deadline] w (GotLow T w) := by
  obtain ⟨P, np, pc, E, ne, ec, F, nf, fc, R, nr, rc⟩ := s
  have hx : lowX T = chkT T := by unfold lowX; rw [if_neg hM]
  have h0 : chkT T ≠ 0 := fun h => hM (chkT_zero.mp h)
  have hr : (chkT T != 0) = true := bne_iff_ne.mpr h0
  have C := fun W (h : IsD W ⟨P, np, pc, E, ne, ec, F, nf, fc, R, nr, rc⟩ T) => rcheck_d h
  obtain ⟨r, hrr⟩ : ∃ r, r = chkT T := ⟨_, rfl⟩
  rw [← hrr] at C hx h0 hr
  have HC := Lib.hid C
  have HX := Lib.hid hx
  have H0 := Lib.hid h0
  have B0 := Lib.hid (BxI.start hD T.period T.deadline)
  simp only [Sh.arg] at HC ⊢
  obtain ⟨wA, hwA⟩ : ∃ wA, wA = w.alloc (.cells #[.int .i64 T.period, .int .i64 T.deadline, .slice P np pc, .slice E ne ec, .slice F nf fc, .slice R nr rc] 27) := ⟨_, rfl⟩
  obtain ⟨wB, hwB⟩ : ∃ wB, wB = wA.alloc (.cells #[.slice none 0 0, .slice none 0 0, .slice none 0 0] 60) := ⟨_, rfl⟩
  rw [← hwA] at B0
  have hbB : Below wA.heap.size wA wB := by rw [hwB]; exact below_alloc _
  have sA : wA.heap.size = w.heap.size + 1 := by rw [hwA]; simp
  have rB : wB.heap[w.heap.size + 1]? = some (.cells #[.slice none 0 0, .slice none 0 0, .slice none 0 0] 60 (0, 0)) := by rw [hwB, ← sA]; exact heap_alloc_new wA _
  have sB : wB.heap.size = w.heap.size + 2 := by rw [hwB]; simp [sA]
  have B1 := Lib.hid (B0.out.next hbB)
  have HRB := Lib.hid rB
  have HSB := Lib.hid sB
  have HW := Lib.hid (And.intro hwA hwB)
  clear hD hM hx h0 C hrr hwA hwB B0 hbB rB sA sB
  go_enter Tryz.func30, Tryz.ntmps30
  go_wp2_with fail
  rw [← HW.out.1, ← HW.out.2]
  clear HW
  refine (HC.out _ B1.out.d).mono ?_
  rintro e w1 ⟨rfl, b1⟩
  have HBW := Lib.hid (B1.out.b.bel.trans (b1.mono B1.out.b.bel.size))
  have hrb := (b1.block (w.heap.size + 1) (by rw [HSB.out]; omega)).trans HRB.out
  have y0 := cell_of_row w1 (w.heap.size + 1) 0 _ _ _ hrb
  have y1 := cell_of_row w1 (w.heap.size + 1) 1 _ _ _ hrb
  have y2 := cell_of_row w1 (w.heap.size + 1) 2 _ _ _ hrb
  simp at y0 y1 y2
  have z0 := frozen_of_row w1 (w.heap.size + 1) 0 _ _ hrb
  have z1 := frozen_of_row w1 (w.heap.size + 1) 1 _ _ hrb
  have z2 := frozen_of_row w1 (w.heap.size + 1) 2 _ _ hrb
  have HRW := Lib.hid hrb
  clear hrb b1
  go_wp2
  have h1 := heap_setCell_same w1 (w.heap.size + 1) 0 _ _ (.slice none 0 0) HRW.out
  have h2 := heap_setCell_same _ (w.heap.size + 1) 1 _ _ (.slice none 0 0) h1
  have h3 := heap_setCell_same _ (w.heap.size + 1) 2 _ _ (.slice none 0 0) h2
  obtain ⟨x2, hx2⟩ : ∃ x2, x2 = ((w1.setCell ⟨w.heap.size + 1, 0, none⟩ (.slice none 0 0)).setCell ⟨w.heap.size + 1, 1, none⟩ (.slice none 0 0)).setCell ⟨w.heap.size + 1, 2, none⟩ (.slice none 0 0) := ⟨_, rfl⟩
  rw [← hx2] at h3 ⊢
  have hle : w.heap.size ≤ w.heap.size + 1 := Nat.le_succ _
  have hbx : Below w.heap.size w1 x2 := by
    rw [hx2]
    exact (((Below.refl _ w1).setCell hle _).setCell hle _).setCell hle _
  have k0 := cell_of_row x2 (w.heap.size + 1) 0 _ _ _ h3
  have k1 := cell_of_row x2 (w.heap.size + 1) 1 _ _ _ h3
  have k2 := cell_of_row x2 (w.heap.size + 1) 2 _ _ _ h3
  simp at k0 k1 k2
  clear hx2
  refine bodyPost_ret (v := .tuple #[.agg #[.slice none 0 0, .slice none 0 0, .slice none 0 0], .int .i64 r]) ?_ rfl (gotLow_no HX.out.symm (by rw [HX.out]; exact H0.out) (HBW.out.trans hbx))
  rw [results_cell_tmp rfl]
  go_simp
set_option maxRecDepth 100000 in
set_option maxHeartbeats 8000000 in
theorem rlower_may (s : Sh) (T : Task) (w : World) (hD : IsD w s T) (hM : MayT T) : Calls Tryz.prog 30 #[s.arg T.period T.deadline] w (GotLow T w) := by
  obtain ⟨P, np, pc, E, ne, ec, F, nf, fc, R, nr, rc⟩ := s
  have C := fun W (h : IsD W ⟨P, np, pc, E, ne, ec, F, nf, fc, R, nr, rc⟩ T) => rcheck_d h
  rw [chkT_zero.mpr hM] at C
  have HC := Lib.hid C
  have HL := Lib.hid (fun W (h : IsD W ⟨P, np, pc, E, ne, ec, F, nf, fc, R, nr, rc⟩ T) => rgraph_got W h hM)
  have HM := Lib.hid hM
  have HFEW := Lib.hid (low_few hM)
  have B0 := Lib.hid (BxI.start hD T.period T.deadline)
  simp only [Sh.arg] at HC HL ⊢
  obtain ⟨wA, hwA⟩ : ∃ wA, wA = w.alloc (.cells #[.int .i64 T.period, .int .i64 T.deadline, .slice P np pc, .slice E ne ec, .slice F nf fc, .slice R nr rc] 27) := ⟨_, rfl⟩
  obtain ⟨wB, hwB⟩ : ∃ wB, wB = wA.alloc (.cells #[.slice none 0 0, .slice none 0 0, .slice none 0 0] 60) := ⟨_, rfl⟩
  rw [← hwA] at B0
  have hbB : Below wA.heap.size wA wB := by rw [hwB]; exact below_alloc _
  have sA : wA.heap.size = w.heap.size + 1 := by rw [hwA]; simp
  have rB : wB.heap[w.heap.size + 1]? = some (.cells #[.slice none 0 0, .slice none 0 0, .slice none 0 0] 60 (0, 0)) := by rw [hwB, ← sA]; exact heap_alloc_new wA _
  have sB : wB.heap.size = w.heap.size + 2 := by rw [hwB]; simp [sA]
  have B1 := Lib.hid (B0.out.next hbB)
  have HRB := Lib.hid rB
  have HSB := Lib.hid sB
  have HW := Lib.hid (And.intro hwA hwB)
  clear hD hM C hwA hwB B0 hbB rB sA sB
  go_enter Tryz.func30, Tryz.ntmps30
  go_wp2_with fail
  rw [← HW.out.1, ← HW.out.2]
  clear HW
  refine (HC.out _ B1.out.d).mono ?_
  rintro e w1 ⟨rfl, b1⟩
  have B2 := Lib.hid (B1.out.next b1)
  obtain ⟨c0, c1, c2, c3, c4, c5⟩ := B2.out.b.cells
  go_wp2_with fail
  refine (HL.out _ B2.out.d).mono ?_
  rintro e w2 ⟨vW, vE, vP, rfl, hOW, hOE, hOP, b2⟩
  have B3 := Lib.hid (B2.out.next b2)
  have hb12 : Below wB.heap.size wB w2 := b1.trans (b2.mono b1.size)
  obtain ⟨w3, hw3⟩ : ∃ w3, w3 = w2.alloc (.cells #[vW, vE, vP] 60) := ⟨_, rfl⟩
  have hb3 : Below w2.heap.size w2 w3 := by rw [hw3]; exact below_alloc _
  have rB3 : w3.heap[w.heap.size + 1]? = some (.cells #[.slice none 0 0, .slice none 0 0, .slice none 0 0] 60 (0, 0)) := by
    rw [(hb12.trans (hb3.mono hb12.size)).block _ (by rw [HSB.out]; omega)]
    exact HRB.out
  have rL3 : w3.heap[w2.heap.size]? = some (.cells #[vW, vE, vP] 60 (0, 0)) := by rw [hw3]; exact heap_alloc_new w2 _
  have HOW := Lib.hid (own_below hOW hb3)
  have HOE := Lib.hid (own_below hOE hb3)
  have HOP := Lib.hid (own_below hOP hb3)
  have B4 := Lib.hid (B3.out.next hb3)
  have hw12 : w.heap.size + 2 ≤ w1.heap.size := by have := b1.size; rw [HSB.out] at this; exact this
  have hw23 : w1.heap.size ≤ w2.heap.size := b2.size
  obtain ⟨AW, cW, AE, cE, eW, eE, hIG⟩ := own_isG B4.out.d.tab HOW.out HOE.out (by have := HFEW.out.1; omega) HFEW.out.2.1
  subst eW eE
  obtain ⟨AP, cP, eP⟩ := OwnP.slice HOP.out
  subst eP
  have HIG := Lib.hid hIG
  have HRB3 := Lib.hid rB3
  have HRL3 := Lib.hid rL3
  clear b1 c0 c1 c2 c3 c4 c5 hOW hOE hOP b2 hb12 hb3 rB3 rL3 hIG HC HL B1 B2 B3
  go_wp2_with fail
  rw [← hw3]
  clear hw3
  refine (rcheck_gr HIG.out).mono ?_
  rintro e w4 ⟨rfl, b4⟩
  have hs3 : w2.heap.size < w3.heap.size := (Array.getElem?_eq_some_iff.mp HRL3.out).1
  have hrb := (b4.block (w.heap.size + 1) (by omega)).trans HRB3.out
  have hrl := (b4.block w2.heap.size hs3).trans HRL3.out
  have HBW := Lib.hid (B4.out.b.bel.trans (b4.mono B4.out.b.bel.size))
  have HO := Lib.hid (And.intro (own_below HOW.out b4) (And.intro (own_below HOE.out b4) (own_below HOP.out b4)))
  have y0 := cell_of_row w4 (w.heap.size + 1) 0 _ _ _ hrb
  have y1 := cell_of_row w4 (w.heap.size + 1) 1 _ _ _ hrb
  have y2 := cell_of_row w4 (w.heap.size + 1) 2 _ _ _ hrb
  simp at y0 y1 y2
  have z0 := frozen_of_row w4 (w.heap.size + 1) 0 _ _ hrb
  have z1 := frozen_of_row w4 (w.heap.size + 1) 1 _ _ hrb
  have z2 := frozen_of_row w4 (w.heap.size + 1) 2 _ _ hrb
  have l0 := cell_of_row w4 w2.heap.size 0 _ _ _ hrl
  have l1 := cell_of_row w4 w2.heap.size 1 _ _ _ hrl
  have l2 := cell_of_row w4 w2.heap.size 2 _ _ _ hrl
  simp at l0 l1 l2
  have HRW := Lib.hid hrb
  have hchk : (chkE (lowW T) (lowE T) = 0) ↔ May (lowW T) (lowE T) := chkE_zero
  obtain ⟨r, hr⟩ : ∃ r, r = chkE (lowW T) (lowE T) := ⟨_, rfl⟩
  rw [← hr] at hchk ⊢
  obtain ⟨kW, hkW⟩ : ∃ k, k = (lowW T).length := ⟨_, rfl⟩
  obtain ⟨kE, hkE⟩ : ∃ k, k = (lowE T).length := ⟨_, rfl⟩
  obtain ⟨kP, hkP⟩ : ∃ k, k = (lowP T).length := ⟨_, rfl⟩
  rw [← hkW, ← hkE, ← hkP] at HO ⊢
  rw [← hkW] at l0
  rw [← hkE] at l1
  rw [← hkP] at l2
  have HCK := Lib.hid hchk
  have HK := Lib.hid (And.intro hkW (And.intro hkE hkP))
  clear hrb hrl b4 hr hchk hkW hkE hkP HIG HRB3 HRL3 HOW HOE HOP B4
  have hle : w.heap.size ≤ w.heap.size + 1 := Nat.le_succ _
  by_cases h0 : r = 0
  · have hOK : LowOk T := ⟨HM.out, HCK.out.mp h0⟩
    have HOK := Lib.hid hOK
    have hX := Lib.hid (lowX_zero.mpr hOK)
    subst h0
    clear hOK
    go_wp2
    have h1 := heap_setCell_same w4 (w.heap.size + 1) 0 _ _ (.slice AW kW cW) HRW.out
    have h2 := heap_setCell_same _ (w.heap.size + 1) 1 _ _ (.slice AE kE cE) h1
    have h3 := heap_setCell_same _ (w.heap.size + 1) 2 _ _ (.slice AP kP cP) h2
    obtain ⟨x2, hx2⟩ : ∃ x2, x2 = ((w4.setCell ⟨w.heap.size + 1, 0, none⟩ (.slice AW kW cW)).setCell ⟨w.heap.size + 1, 1, none⟩ (.slice AE kE cE)).setCell ⟨w.heap.size + 1, 2, none⟩ (.slice AP kP cP) := ⟨_, rfl⟩
    rw [← hx2] at h3 ⊢
    have ho : ∀ k, k ≠ w.heap.size + 1 → x2.heap[k]? = w4.heap[k]? := fun k hk => by rw [hx2, heap_setCell_other _ _ _ _ hk, heap_setCell_other _ _ _ _ hk, heap_setCell_other _ _ _ _ hk]
    have hbx : Below w.heap.size w4 x2 := by
      rw [hx2]
      exact (((Below.refl _ w4).setCell hle _).setCell hle _).setCell hle _
    have k0 := cell_of_row x2 (w.heap.size + 1) 0 _ _ _ h3
    have k1 := cell_of_row x2 (w.heap.size + 1) 1 _ _ _ h3
    have k2 := cell_of_row x2 (w.heap.size + 1) 2 _ _ _ h3
    simp at k0 k1 k2
    clear hx2
    refine bodyPost_ret (v := .tuple #[.agg #[.slice AW kW cW, .slice AE kE cE, .slice AP kP cP], .int .i64 0]) ?_ rfl ⟨_, _, _, by rw [hX.out], ?_, ?_, ?_, HBW.out.trans hbx⟩
    · rw [results_cell_tmp rfl]
      go_simp
    · rw [show lowWv T = lowW T by unfold lowWv; rw [if_pos HOK.out]]; unfold OwnI; rw [← HK.out.1]; exact own_less (other_own HO.out.1 HRW.out (by decide) ho) (by omega)
    · rw [show lowEv T = lowE T by unfold lowEv; rw [if_pos HOK.out]]; unfold OwnE; rw [← HK.out.2.1]; exact own_less (other_own HO.out.2.1 HRW.out (by decide) ho) (by omega)
    · rw [show lowPv T = lowP T by unfold lowPv; rw [if_pos HOK.out]]; unfold OwnP; rw [← HK.out.2.2]; exact own_less (other_own HO.out.2.2 HRW.out (by decide) ho) (by omega)
  · have hb : (r != 0) = true := bne_iff_ne.mpr h0
    have hX : Hid ((70 : Int) = lowX T) := Lib.hid (by unfold lowX; rw [if_pos HM.out, if_neg (fun k => h0 (HCK.out.mpr k))])
    clear h0
    go_wp2
    have h1 := heap_setCell_same w4 (w.heap.size + 1) 0 _ _ (.slice none 0 0) HRW.out
    have h2 := heap_setCell_same _ (w.heap.size + 1) 1 _ _ (.slice none 0 0) h1
    have h3 := heap_setCell_same _ (w.heap.size + 1) 2 _ _ (.slice none 0 0) h2
    obtain ⟨x2, hx2⟩ : ∃ x2, x2 = ((w4.setCell ⟨w.heap.size + 1, 0, none⟩ (.slice none 0 0)).setCell ⟨w.heap.size + 1, 1, none⟩ (.slice none 0 0)).setCell ⟨w.heap.size + 1, 2, none⟩ (.slice none 0 0) := ⟨_, rfl⟩
    rw [← hx2] at h3 ⊢
    have hbx : Below w.heap.size w4 x2 := by
      rw [hx2]
      exact (((Below.refl _ w4).setCell hle _).setCell hle _).setCell hle _
    have k0 := cell_of_row x2 (w.heap.size + 1) 0 _ _ _ h3
    have k1 := cell_of_row x2 (w.heap.size + 1) 1 _ _ _ h3
    have k2 := cell_of_row x2 (w.heap.size + 1) 2 _ _ _ h3
    simp at k0 k1 k2
    clear hx2
    refine bodyPost_ret (v := .tuple #[.agg #[.slice none 0 0, .slice none 0 0, .slice none 0 0], .int .i64 70]) ?_ rfl (gotLow_no hX.out (by rw [← hX.out]; decide) (HBW.out.trans hbx))
    rw [results_cell_tmp rfl]
    go_simp
theorem rlower_any (s : Sh) (T : Task) (w : World) (hD : IsD w s T) : Calls Tryz.prog 30 #[s.arg T.period T.deadline] w (GotLow T w) := by
  by_cases hM : MayT T
  · exact rlower_may s T w hD hM
  · exact rlower_bad s T w hD hM
end Go.Proofs.YtkmajhbfmdoamaaGreatDoor
set_option linter.unusedVariables false
set_option linter.unusedSimpArgs false
namespace Go.Proofs.YtkmajhbfmdoamaaGreatDoor
open Go.RowKit

set_option maxHeartbeats 800000 in
theorem rbools_any (B : Nat) (A1 A2 : Option Addr) (c1 c2 : Nat) (xs ys : List Bool) (w : World) (hx : xs.length ≤ 1000) (hy : ys.length ≤ 1000) (h1 : Bools w B A1 xs) (h2 : Bools w B A2 ys) :
    Calls Tryz.prog 31 #[.slice A1 xs.length c1, .slice A2 ys.length c2] w fun e w' => e = .returned (.bool (decide (xs = ys))) ∧ ∃ N, w' = w.drewN N := by
  obtain ⟨n, hn⟩ : ∃ n, n = xs.length := ⟨_, rfl⟩
  obtain ⟨m, hm⟩ : ∃ m, m = ys.length := ⟨_, rfl⟩
  rw [← hn, ← hm]
  rw [← hn] at hx
  rw [← hm] at hy
  have HN := Lib.hid hn
  have HM := Lib.hid hm
  have H1 := Lib.hid h1
  have H2 := Lib.hid h2
  clear hn hm h1 h2
  by_cases hnm : n = m
  · subst hnm
    go_enter Tryz.func31, Tryz.ntmps31
    go_wp2
    go_loopw [5] (fun i wr => ∃ j N : Nat, j ≤ n ∧ i = .int .i64 j ∧ Hid (xs.take j = ys.take j) ∧ wr = w.drewN N) (fun i _ => n - (intOf i).toNat)
    case atStart => exact ⟨0, 0, Nat.zero_le _, rfl, Lib.hid rfl, rfl⟩
    case round =>
      obtain ⟨j, N, hj, rfl, HT, rfl⟩ := hrel
      by_cases hlt : j < n
      · obtain ⟨b1, o1, x, rfl, _, hx1, hc1⟩ := H1.out.at2 (k := j) (by rw [← HN.out]; exact hlt)
        obtain ⟨b2, o2, y, rfl, _, hy1, hc2⟩ := H2.out.at2 (k := j) (by rw [← HM.out]; exact hlt)
        have HX := Lib.hid hx1
        have HY := Lib.hid hy1
        clear hx1 hy1
        cases x <;> cases y
        · go_wp2
          go_quiet (fail)
          go_wp2
          go_roundw
          case rel => exact ⟨j + 1, _, by omega, by go_num, Lib.hid (take_next HT.out HX.out HY.out), rfl⟩
          case measure => simp [intOf]; omega
        · go_wp2
          go_quiet (fail)
          go_wp2
          go_ret
          exact ⟨by rw [decide_eq_false (take_part HX.out HY.out (by decide))]; rfl, _, drews w N _⟩
        · go_wp2
          go_quiet (fail)
          go_wp2
          go_ret
          exact ⟨by rw [decide_eq_false (take_part HX.out HY.out (by decide))]; rfl, _, drews w N _⟩
        · go_wp2
          go_quiet (fail)
          go_wp2
          go_roundw
          case rel => exact ⟨j + 1, _, by omega, by go_num, Lib.hid (take_next HT.out HX.out HY.out), rfl⟩
          case measure => simp [intOf]; omega
      · obtain rfl : j = n := by omega
        go_wp2
        go_ret
        exact ⟨by rw [decide_eq_true (take_ext (by rw [← HN.out, ← HM.out]) (by rw [← HN.out]; exact HT.out))]; rfl, _, rfl⟩
  · have hb : ((n : Int) != (m : Int)) = true := by simp; omega
    go_enter Tryz.func31, Tryz.ntmps31
    go_wp2
    go_ret
    exact ⟨by rw [decide_eq_false (fun e : xs = ys => hnm (by rw [HN.out, HM.out, e]))]; rfl, 0, rfl⟩
section
variable {A : Option Addr} {n c : Nat} {F : Option Addr} {m d : Nat} {D : List Bool} {V : List Int} {A' : Option Addr} {n' c' : Nat} {F' : Option Addr} {m' d' : Nat} {D' : List Bool} {V' : List Int}
set_option maxHeartbeats 2000000 in
theorem rsame_m (w : World) (h : IsM w A n c F m d D V) (h' : IsM w A' n' c' F' m' d' D' V') :
    Calls Tryz.prog 14 #[.agg #[.slice A n c, .slice F m d], .agg #[.slice A' n' c', .slice F' m' d']] w fun e w' => e = .returned (.bool (decide (D = D' ∧ V = V'))) ∧ Below w.heap.size w w' := by
  obtain ⟨w0, hw0⟩ : ∃ w0, w0 = (w.alloc (.cells #[.slice A n c, .slice F m d] 31)).alloc (.cells #[.slice A' n' c', .slice F' m' d'] 31) := ⟨_, rfl⟩
  have hb0 : Below w.heap.size w w0 := by rw [hw0]; exact below_alloc2 _ _
  have C1 := rbools_any w0.heap.size A A' c c' D D' w0 (by rw [h.hn]; have := h.ln; omega) (by rw [h'.hn]; have := h'.ln; omega) ((h.below hb0).bools) ((h'.below hb0).bools)
  have C2 := Lib.hid (fun N => ints_any w0.heap.size F F' d d' V V' (w0.drewN N) (by rw [h.hm]; have := h.lm; omega) (by rw [h'.hm]; have := h'.lm; omega) ((h.below hb0).ints.below (below_drewN (Below.refl _ _) N)) ((h'.below hb0).ints.below (below_drewN (Below.refl _ _) N)))
  rw [h.hn, h'.hn] at C1
  simp only [h.hm, h'.hm] at C2
  rw [hw0] at C1 C2
  have HB := Lib.hid (fun N => below_drewN (below_alloc2 (w := w) (.cells #[.slice A n c, .slice F m d] 31) (.cells #[.slice A' n' c', .slice F' m' d'] 31)) N)
  have HC1 := Lib.hid C1
  clear h h' hw0 C1 hb0
  by_cases h1 : D = D'
  · rw [decide_eq_true h1] at HC1
    have hr : decide (D = D' ∧ V = V') = decide (V = V') := by simp [h1]
    rw [hr]
    obtain ⟨r, hr⟩ : ∃ r, r = decide (V = V') := ⟨_, rfl⟩
    simp only [← hr] at C2 ⊢
    clear h1 hr
    go_enter Tryz.func14, Tryz.ntmps14
    go_wp2_with (first
      | (go_at_call 31; refine HC1.out.mono ?_; rintro e w' ⟨rfl, N, rfl⟩)
      | (go_at_call 12; refine (C2.out _).mono ?_; rintro e w' ⟨rfl, M, rfl⟩))
    go_ret
    exact ⟨rfl, HB.out _⟩
  · rw [decide_eq_false h1] at HC1
    rw [decide_eq_false (fun q : D = D' ∧ V = V' => h1 q.1)]
    clear h1
    go_enter Tryz.func14, Tryz.ntmps14
    go_wp2_with (go_at_call 31; refine HC1.out.mono ?_; rintro e w' ⟨rfl, N, rfl⟩)
    go_ret
    exact ⟨rfl, HB.out N⟩
end
end Go.Proofs.YtkmajhbfmdoamaaGreatDoor
set_option linter.unusedVariables false
namespace Go.Proofs.YtkmajhbfmdoamaaGreatDoor
open Go.RowKit

theorem rlower_sz {s : Sh} {T : Task} {w : World} {n m k : Nat} (hn : (lowWv T).length = n) (hm : (lowEv T).length = m) (hk : (lowPv T).length = k) (hD : IsD w s T) : Calls Tryz.prog 30 #[s.arg T.period T.deadline] w fun e w' =>
    ∃ A c F d R z, e = .returned (.tuple #[.agg #[.slice A n c, .slice F m d, .slice R k z], .int .i64 (lowX T)]) ∧ IsL w' A n c F m d R k z (lowWv T) (lowEv T) (lowPv T) ∧ Below w.heap.size w w' := by
  subst hn hm hk
  exact (rlower_any s T w hD).mono fun _ _ h => h.boxes hD.tab lows_few
end Go.Proofs.YtkmajhbfmdoamaaGreatDoor
set_option linter.unusedVariables false
set_option linter.unusedSimpArgs false
namespace Go.Proofs.YtkmajhbfmdoamaaGreatDoor
open Go Go.RowKit

/-- A task, a memory, and a lowered task in boxes. -/
structure BxC (w : World) (s : Sh) (T : Task) (A : Option Addr) (n c : Nat) (F : Option Addr) (m d : Nat) (D : List Bool) (V : List Int) (g : Nat) (A1 : Option Addr) (n1 c1 : Nat) (F1 : Option Addr) (n2 d1 : Nat) (R1 : Option Addr) (n3 e1 : Nat) (W : List Int) (E P : List (Int × Int)) (w' : World) : Prop where
  b : BxM w s T A n c F m d D V w'
  k0 : w'.cell? ⟨g, 0, none⟩ = some (.slice A1 n1 c1)
  k1 : w'.cell? ⟨g, 1, none⟩ = some (.slice F1 n2 d1)
  k2 : w'.cell? ⟨g, 2, none⟩ = some (.slice R1 n3 e1)
  l : IsL w' A1 n1 c1 F1 n2 d1 R1 n3 e1 W E P
section
variable {w w1 w2 : World} {s : Sh} {T : Task} {A : Option Addr} {n c : Nat} {F : Option Addr} {m d : Nat} {D : List Bool} {V : List Int} {g : Nat} {A1 : Option Addr} {n1 c1 : Nat} {F1 : Option Addr} {n2 d1 : Nat} {R1 : Option Addr} {n3 e1 : Nat} {W : List Int} {E P : List (Int × Int)}
theorem BxC.next (h : BxC w s T A n c F m d D V g A1 n1 c1 F1 n2 d1 R1 n3 e1 W E P w1) (hb : Below w1.heap.size w1 w2) : BxC w s T A n c F m d D V g A1 n1 c1 F1 n2 d1 R1 n3 e1 W E P w2 :=
  ⟨h.b.next hb, (hb.cell (World.block_lt_of_cell? _ _ h.k0)).trans h.k0, (hb.cell (World.block_lt_of_cell? _ _ h.k1)).trans h.k1, (hb.cell (World.block_lt_of_cell? _ _ h.k2)).trans h.k2, h.l.below hb⟩
theorem BxC.start (h : BxM w s T A n c F m d D V w1) (hl : IsL w1 A1 n1 c1 F1 n2 d1 R1 n3 e1 W E P) : BxC w s T A n c F m d D V w1.heap.size A1 n1 c1 F1 n2 d1 R1 n3 e1 W E P (w1.alloc (.cells #[.slice A1 n1 c1, .slice F1 n2 d1, .slice R1 n3 e1] 60)) := by
  refine ⟨h.next (below_alloc _), ?_, ?_, ?_, hl.below (below_alloc _)⟩ <;> (rw [World.cell?_alloc_at _ _ _ _ rfl]; rfl)
/-- The memory's Booleans at two places. -/
theorem IsM.two (h : IsM w A n c F m d D V) {a b : Nat} (ha : a < n) (hb : b < n) : ∃ bd od x y, A = some ⟨bd, od, none⟩ ∧ bd < w.heap.size ∧ D.getD a false = x ∧ D.getD b false = y ∧ w.cell? ⟨bd, od + a, none⟩ = some (.bool x) ∧ w.cell? ⟨bd, od + b, none⟩ = some (.bool y) := by
  obtain ⟨bd, od, e, hlt, hc⟩ := h.bools (by rw [h.hn]; omega)
  exact ⟨bd, od, _, _, e, hlt, rfl, rfl, hc a (by rw [h.hn]; exact ha), hc b (by rw [h.hn]; exact hb)⟩
end
def EdgeOk (D : List Bool) (e : Int × Int) : Prop := D.getD e.2.toNat false = true → D.getD e.1.toNat false = true
theorem memOk_edges {T : Task} {D : List Bool} {V : List Int} (h : LowOk T) (hD : D.length = (lowP T).length) (hV : V.length = T.parts.length) : MemOk T D V ↔ ∀ e ∈ lowE T, EdgeOk D e := by
  constructor
  · intro hm e he ht
    have hf := low_fits h e he
    have h1 := hm.done _ ht
    refine waitB_false.mp h1 e.1 ?_
    have h2 : ((e.2.toNat : Nat) : Int) = e.2 := by omega
    rw [h2]
    exact he
  · intro he
    exact ⟨h, hD, hV, fun j hj => waitB_false.mpr fun a ha => he _ ha (by simpa using hj)⟩
section
variable {s : Sh} {T : Task} {A : Option Addr} {n c : Nat} {F : Option Addr} {m d : Nat} {D : List Bool} {V : List Int}
set_option maxRecDepth 100000 in
set_option maxHeartbeats 16000000 in
theorem rcheck8_any (w : World) (hD : IsD w s T) (hM : IsM w A n c F m d D V) :
    Calls Tryz.prog 10 #[s.arg T.period T.deadline, .agg #[.slice A n c, .slice F m d]] w fun e w' => e = .returned (.int .i64 (chkM T D V)) ∧ Below w.heap.size w w' := by
  have HS := Lib.hid (BxM.start hD hM)
  have HP := Lib.hid hD.t.hp
  have HN := Lib.hid hM.hn
  have HV := Lib.hid hM.hm
  have hn4 := hM.ln
  have hm4 := hM.lm
  have hnp4 : s.np ≤ 400 := by have h1 := hD.few.np; have h2 := hD.t.hp; omega
  obtain ⟨P, np, pc, E, ne, ec, Fu, nf, fc, R, nr, rc⟩ := s
  simp only at HP hnp4
  obtain ⟨nw, hnw⟩ : ∃ n, (lowWv T).length = n := ⟨_, rfl⟩
  obtain ⟨nE, hnE⟩ : ∃ n, (lowEv T).length = n := ⟨_, rfl⟩
  obtain ⟨nP, hnP⟩ : ∃ n, (lowPv T).length = n := ⟨_, rfl⟩
  have CL := Lib.hid (fun W s (h : IsD W s T) => rlower_sz hnw hnE hnP h)
  have HNE := Lib.hid hnE
  have HNP := Lib.hid hnP
  obtain ⟨r, hr⟩ : ∃ r, r = lowX T := ⟨_, rfl⟩
  rw [← hr] at CL
  have HR := Lib.hid hr
  obtain ⟨w0, hw0⟩ : ∃ w0, w0 = (w.alloc (.cells #[.int .i64 T.period, .int .i64 T.deadline, .slice P np pc, .slice E ne ec, .slice Fu nf fc, .slice R nr rc] 27)).alloc (.cells #[.slice A n c, .slice F m d] 31) := ⟨_, rfl⟩
  simp only at HS
  rw [← hw0] at HS
  have HW := Lib.hid hw0
  clear hD hM hr hnw hnE hnP hw0
  go_enter Tryz.func10, Tryz.ntmps10
  go_wp2_with fail
  rw [← HW.out]
  clear HW
  refine (CL.out _ _ HS.out.isd).mono ?_
  rintro e w1 ⟨A1, c1, F1, d1, R1, e1, rfl, hL, b1⟩
  obtain ⟨w2, hw2⟩ : ∃ w2, w2 = w1.alloc (.cells #[.slice A1 nw c1, .slice F1 nE d1, .slice R1 nP e1] 60) := ⟨_, rfl⟩
  have hB := BxC.start (HS.out.next b1) hL
  rw [← hw2] at hB
  have HW2 := Lib.hid hw2
  have B2 := Lib.hid hB
  obtain ⟨g, hg⟩ : ∃ g, g = w1.heap.size := ⟨_, rfl⟩
  rw [← hg] at B2
  have HG := Lib.hid hg
  by_cases h0 : r = 0
  · subst h0
    have hOK : LowOk T := lowX_zero.mp HR.out.symm
    have HOK := Lib.hid hOK
    have HY := Lib.hid (low_yes hOK)
    have q0 := hB.b.m0
    have q1 := hB.b.m1
    have q2 := hB.b.cd.2.2.1
    have k1 := hB.k1
    have k2 := hB.k2
    rw [hw2] at q0 q1 q2 k1 k2
    simp only at q2
    clear hL b1 hw2 hB HS CL hg hOK
    by_cases hlen : n = nP ∧ m = np
    · obtain ⟨e1', e2'⟩ := hlen
      subst e1' e2'
      have HME : Hid (MemOk T D V ↔ ∀ e ∈ lowE T, EdgeOk D e) := Lib.hid (memOk_edges HOK.out (by rw [HN.out, ← HNP.out, HY.out.2.2]) (by rw [HV.out, HP.out]))
      go_wp2
      rw [← HW2.out, ← HG.out]
      clear HW2 q0 q1 q2 k1 k2
      go_loopw [7] (fun jv wr => ∃ (j : Nat), j ≤ nE ∧ jv = .int .i64 (j : Int) ∧ Hid (∀ e ∈ (lowE T).take j, EdgeOk D e) ∧ Hid (BxC w ⟨P, m, pc, E, ne, ec, Fu, nf, fc, R, nr, rc⟩ T A n c F m d D V g A1 nw c1 F1 nE d1 R1 n e1 (lowWv T) (lowEv T) (lowPv T) wr)) (fun jv _ => nE - (intOf jv).toNat)
      case atStart => exact ⟨0, Nat.zero_le _, rfl, Lib.hid (by simp), B2⟩
      case round =>
        obtain ⟨j, hj, rfl, HE, HB⟩ := hrel
        clear B2
        have q0 := HB.out.b.m0
        have k1 := HB.out.k1
        have hE4 : nE ≤ 400 := HB.out.l.g.lm
        by_cases hlt : j < nE
        · obtain ⟨bq, oq, ⟨e1', e2'⟩, hF1, hbq, hq, r1, r2⟩ := HB.out.l.g.pairs.at_ (k := j) (by rw [HNE.out]; exact hlt)
          subst hF1
          rw [HY.out.2.1] at hq
          have hf := low_fits HOK.out _ (List.mem_of_getElem? hq)
          simp only at hf
          have hpn : (lowP T).length = n := by rw [← HNP.out, HY.out.2.2]
          obtain ⟨a, ha⟩ : ∃ a : Nat, e1' = (a : Int) := ⟨e1'.toNat, by omega⟩
          obtain ⟨b, hb⟩ : ∃ b : Nat, e2' = (b : Int) := ⟨e2'.toNat, by omega⟩
          subst ha hb
          obtain ⟨bd, od, x, y, hA, hbd, hx, hy, s1, s2⟩ := HB.out.b.mem.two (a := a) (b := b) (by omega) (by omega)
          subst hA
          have hal : a < n := by omega
          have hbl : b < n := by omega
          have HXY := Lib.hid (And.intro hx hy)
          have HQ := Lib.hid hq
          simp only at r1 r2
          clear hq hbq hf hpn hbd hx hy
          cases y with
          | false =>
            have HE2 : Hid (∀ e ∈ (lowE T).take (j + 1), EdgeOk D e) := Lib.hid (by
              rw [take_snoc' HQ.out]
              intro e he
              rcases List.mem_append.mp he with h | h
              · exact HE.out e h
              · rw [List.mem_singleton.mp h]
                intro ht
                simp only [Int.toNat_natCast] at ht
                rw [HXY.out.2] at ht
                cases ht)
            go_wp2
            go_quiet (fail)
            rename_i nq
            have hbd : Below wr.heap.size wr (wr.drewN nq) := below_drewN (Below.refl _ _) _
            obtain ⟨wd, hwd⟩ : ∃ wd, wd = wr.drewN nq := ⟨_, rfl⟩
            rw [← hwd] at hbd ⊢
            have HBd := Lib.hid (HB.out.next hbd)
            clear hwd hbd q0 k1 r1 r2 s1 s2
            go_wp2
            go_roundw
            case rel => exact ⟨j + 1, by omega, by go_num, HE2, HBd⟩
            case measure => simp [intOf]; omega
          | true =>
            cases x with
            | true =>
              have HE2 : Hid (∀ e ∈ (lowE T).take (j + 1), EdgeOk D e) := Lib.hid (by
                rw [take_snoc' HQ.out]
                intro e he
                rcases List.mem_append.mp he with h | h
                · exact HE.out e h
                · rw [List.mem_singleton.mp h]
                  intro _
                  simp only [Int.toNat_natCast]
                  exact HXY.out.1)
              go_wp2
              go_quiet (fail)
              rename_i nq
              have hbd : Below wr.heap.size wr (wr.drewN nq) := below_drewN (Below.refl _ _) _
              obtain ⟨wd, hwd⟩ : ∃ wd, wd = wr.drewN nq := ⟨_, rfl⟩
              rw [← hwd] at hbd ⊢
              have HBd := Lib.hid (HB.out.next hbd)
              clear hwd hbd q0 k1 r1 r2 s1 s2
              go_wp2
              go_roundw
              case rel => exact ⟨j + 1, by omega, by go_num, HE2, HBd⟩
              case measure => simp [intOf]; omega
            | false =>
              have HNM : Hid (chkM T D V = 80) := Lib.hid (MemOk.not_form HOK.out (fun h => by
                have := HME.out.mp h _ (List.mem_of_getElem? HQ.out)
                unfold EdgeOk at this
                simp only [Int.toNat_natCast] at this
                have h2 := this HXY.out.2
                rw [HXY.out.1] at h2
                cases h2))
              go_wp2
              go_quiet (fail)
              rename_i nq
              have hbd : Below wr.heap.size wr (wr.drewN nq) := below_drewN (Below.refl _ _) _
              obtain ⟨wd, hwd⟩ : ∃ wd, wd = wr.drewN nq := ⟨_, rfl⟩
              rw [← hwd] at hbd ⊢
              have HBd := Lib.hid (HB.out.next hbd)
              clear hwd hbd q0 k1 r1 r2 s1 s2
              go_wp2
              go_ret
              exact ⟨by rw [HNM.out]; rfl, HBd.out.b.bel⟩
        · obtain rfl : nE = j := by omega
          have HCM : Hid (chkM T D V = 0) := Lib.hid (chkM_zero.mpr (HME.out.mpr (by
            have h := HE.out
            rw [List.take_of_length_le (by rw [← HNE.out, HY.out.2.1]; exact Nat.le_refl _)] at h
            exact h)))
          have HBB := Lib.hid HB.out.b.bel
          go_wp2
          go_ret
          exact ⟨by rw [HCM.out]; rfl, HBB.out⟩
    · have HNM : Hid (chkM T D V = 80) := Lib.hid (MemOk.not_form HOK.out (fun h => hlen ⟨by rw [← HN.out, h.hD, ← HNP.out, HY.out.2.2], by rw [← HV.out, h.hV, HP.out]⟩))
      have HBB : Hid (Below w.heap.size w (w1.alloc (.cells #[.slice A1 nw c1, .slice F1 nE d1, .slice R1 nP e1] 60))) := Lib.hid (by rw [← HW2.out]; exact B2.out.b.bel)
      by_cases hn : n = nP
      · subst hn
        have hm : ((m : Int) != (np : Int)) = true := by simp; omega
        go_wp2
        go_ret
        exact ⟨by rw [HNM.out]; rfl, HBB.out⟩
      · have hm : ((n : Int) != (nP : Int)) = true := by simp; omega
        go_wp2
        go_ret
        exact ⟨by rw [HNM.out]; rfl, HBB.out⟩
  · have hb : (r != 0) = true := bne_iff_ne.mpr h0
    have HNM : Hid (chkM T D V = r) := Lib.hid (by rw [HR.out]; exact (MemOk.not_low (by rw [← HR.out]; exact h0)).2)
    have HBB : Hid (Below w.heap.size w (w1.alloc (.cells #[.slice A1 nw c1, .slice F1 nE d1, .slice R1 nP e1] 60))) := Lib.hid (by rw [← HW2.out]; exact B2.out.b.bel)
    clear hL b1 hw2 hB HS CL hg
    go_wp2
    go_ret
    exact ⟨by rw [HNM.out]; rfl, HBB.out⟩
end
end Go.Proofs.YtkmajhbfmdoamaaGreatDoor
set_option linter.unusedVariables false
namespace Go.Proofs.YtkmajhbfmdoamaaGreatDoor
open Go Go.RowKit

theorem field_dag (W : World) (a b c : Value) : (Instr.field 60 (.agg #[a, b, c]) 0).run Tryz.prog W = .ok (.agg #[a, b]) W := by kernel_rfl
end Go.Proofs.YtkmajhbfmdoamaaGreatDoor
set_option linter.unusedVariables false
set_option linter.unusedSimpArgs false
namespace Go.Proofs.YtkmajhbfmdoamaaGreatDoor
open Go Go.RowKit

theorem mem_predsL {n : Nat} {E : List (Int × Int)} {x a : Int} : a ∈ predsL n E x ↔ (∃ k : Nat, k < n ∧ a = (k : Int)) ∧ (a, x) ∈ E := by
  unfold predsL
  rw [List.mem_filter, List.mem_map, decide_eq_true_iff]
  constructor
  · rintro ⟨⟨k, hk, rfl⟩, h⟩
    exact ⟨⟨k, List.mem_range.mp hk, rfl⟩, h⟩
  · rintro ⟨⟨k, hk, rfl⟩, h⟩
    exact ⟨⟨k, List.mem_range.mpr hk, rfl⟩, h⟩
theorem preds_wait {T : Task} {D : List Bool} {j : Nat} (h : LowOk T) : waitB (lowE T) D j = false ↔ ∀ a ∈ predsL (lowW T).length (lowE T) (j : Int), D.getD a.toNat false = true := by
  have hl : (lowP T).length = (lowW T).length := by
    have h1 := lowW_len h.1
    have h2 := lowP_len h.1
    omega
  rw [waitB_false]
  constructor
  · intro hw a ha
    exact hw a (mem_predsL.mp ha).2
  · intro hp a ha
    have hf := low_fits h _ ha
    simp only at hf
    exact hp a (mem_predsL.mpr ⟨⟨a.toNat, by omega, by omega⟩, ha⟩)
section
variable {s : Sh} {T : Task} {A : Option Addr} {n c : Nat} {F : Option Addr} {m d : Nat} {D : List Bool} {V : List Int}
set_option maxRecDepth 100000 in
set_option maxHeartbeats 16000000 in
theorem ris_any (w : World) (j : Nat) (hD : IsD w s T) (hM : IsM w A n c F m d D V) (hO : MemOk T D V) (hj : j < n) :
    Calls Tryz.prog 26 #[s.arg T.period T.deadline, .agg #[.slice A n c, .slice F m d], .int .i64 (j : Int)] w fun e w' => e = .returned (.bool (!D.getD j false && !waitB (lowE T) D j)) ∧ Below w.heap.size w w' := by
  have HS := Lib.hid (BxM.start hD hM)
  have HFEW := Lib.hid (low_few hO.low.1)
  have HM := Lib.hid hO.low.1
  have hn4 := hM.ln
  have HN := Lib.hid hM.hn
  have HPW := Lib.hid (preds_wait (D := D) (j := j) hO.low)
  have HLP : Hid ((lowP T).length = n) := Lib.hid (by rw [← hO.hD]; exact hM.hn)
  have HFT := Lib.hid (low_fits hO.low)
  have HLW : Hid ((lowW T).length = n) := Lib.hid (by
    have h1 := lowW_len hO.low.1
    have h2 := lowP_len hO.low.1
    have h3 := HLP.out
    omega)
  have HPL : Hid ((predsL (lowW T).length (lowE T) (j : Int)).length ≤ 400) := Lib.hid (by
    have h1 : (predsL (lowW T).length (lowE T) (j : Int)).length ≤ (lowW T).length := by
      unfold predsL
      have := List.length_filter_le (fun a => decide ((a, (j : Int)) ∈ lowE T)) ((List.range (lowW T).length).map Int.ofNat)
      rw [List.length_map, List.length_range] at this
      exact this
    have := HLW.out
    omega)
  obtain ⟨P, np, pc, E, ne, ec, Fu, nf, fc, R, nr, rc⟩ := s
  have CG := Lib.hid (fun W (h : IsD W ⟨P, np, pc, E, ne, ec, Fu, nf, fc, R, nr, rc⟩ T) => rgraph_got W h HM.out)
  obtain ⟨w0, hw0⟩ : ∃ w0, w0 = (w.alloc (.cells #[.int .i64 T.period, .int .i64 T.deadline, .slice P np pc, .slice E ne ec, .slice Fu nf fc, .slice R nr rc] 27)).alloc (.cells #[.slice A n c, .slice F m d] 31) := ⟨_, rfl⟩
  simp only at HS
  rw [← hw0] at HS
  have HW := Lib.hid hw0
  clear hD hM hO hw0
  go_enter Tryz.func26, Tryz.ntmps26
  go_wp2_with fail
  rw [← HW.out]
  clear HW
  refine (CG.out _ HS.out.isd).mono ?_
  rintro e w1 ⟨vW, vE, vP, rfl, hOW, hOE, _, b1⟩
  have B1 := Lib.hid (HS.out.next b1)
  obtain ⟨AW, cW, AE, cE, eW, eE, hIG⟩ := own_isG B1.out.isd.tab hOW hOE (by have := HFEW.out.1; omega) HFEW.out.2.1
  subst eW eE
  have CP := preds_any AW AE (lowW T).length cW (lowE T).length cE (lowE T) (j : Int) w1 (by have := hIG.ln; omega) rfl (by have := hIG.lm; omega) hIG.pairs
  unfold GotInts at CP
  have HCP := Lib.hid CP
  clear b1 hOW hOE HS CG CP hIG
  obtain ⟨pl, hpl⟩ : ∃ pl, pl = predsL (lowW T).length (lowE T) (j : Int) := ⟨_, rfl⟩
  rw [← hpl] at HCP HPW HPL
  have HPD := Lib.hid hpl
  obtain ⟨np', hnp'⟩ : ∃ k, pl.length = k := ⟨_, rfl⟩
  rw [hnp'] at HCP
  have HNP := Lib.hid hnp'
  have hn8 : np' ≤ 400 := by rw [← hnp']; exact HPL.out
  clear hpl hnp'
  have fd := field_dag w1 (.slice AW (lowW T).length cW) (.slice AE (lowE T).length cE) vP
  go_wp2_with fail
  refine HCP.out.mono ?_
  rintro e w2 ⟨A2, c2, rfl, hI2, b2⟩
  have B2 := Lib.hid (B1.out.next b2)
  have I2 := Lib.hid hI2
  clear b2 hI2 B1 HCP fd
  go_wp2
  go_loopw [8] (fun iv wr => ∃ (i : Nat), i ≤ np' ∧ iv = .int .i64 (i : Int) ∧ Hid (∀ a ∈ pl.take i, D.getD a.toNat false = true) ∧ Hid (BxM w ⟨P, np, pc, E, ne, ec, Fu, nf, fc, R, nr, rc⟩ T A n c F m d D V wr ∧ Ints wr wr.heap.size A2 pl)) (fun iv _ => np' - (intOf iv).toNat)
  case atStart => exact ⟨0, Nat.zero_le _, rfl, Lib.hid (by simp), Lib.hid ⟨B2.out, I2.out⟩⟩
  case round =>
    obtain ⟨i, hi, rfl, HE, HB⟩ := hrel
    clear B2 I2
    have q0 := HB.out.1.m0
    by_cases hlt : i < np'
    · obtain ⟨bl, ol, a', hA2, hbl, hq, r1⟩ := HB.out.2.at_ (k := i) (by rw [HNP.out]; exact hlt)
      subst hA2
      have hmm := mem_predsL.mp (by rw [← HPD.out]; exact List.mem_of_getElem? hq : a' ∈ predsL (lowW T).length (lowE T) (j : Int))
      obtain ⟨⟨a, ha, rfl⟩, hae⟩ := hmm
      have han : a < n := by rw [← HLW.out]; exact ha
      obtain ⟨bd, od, x, hA, hbd, hx, s1⟩ : ∃ bd od x, A = some ⟨bd, od, none⟩ ∧ bd < wr.heap.size ∧ D.getD a false = x ∧ wr.cell? ⟨bd, od + a, none⟩ = some (.bool x) := by
        obtain ⟨bd, od, x, y, hA, hbd, hx, hy, s1, s2⟩ := HB.out.1.mem.two (a := a) (b := a) han han
        exact ⟨bd, od, x, hA, hbd, hx, s1⟩
      subst hA
      have HX := Lib.hid hx
      have HQ := Lib.hid hq
      clear hq hbl hbd hx ha hae
      cases x with
      | true =>
        have HE2 : Hid (∀ a ∈ pl.take (i + 1), D.getD a.toNat false = true) := Lib.hid (by
          rw [take_snoc' HQ.out]
          intro z hz
          rcases List.mem_append.mp hz with h | h
          · exact HE.out z h
          · rw [List.mem_singleton.mp h, Int.toNat_natCast]
            exact HX.out)
        go_wp2
        go_quiet (fail)
        rename_i nq
        have hbd : Below wr.heap.size wr (wr.drewN nq) := below_drewN (Below.refl _ _) _
        obtain ⟨wd, hwd⟩ : ∃ wd, wd = wr.drewN nq := ⟨_, rfl⟩
        rw [← hwd] at hbd ⊢
        have HBd := Lib.hid (And.intro (HB.out.1.next hbd) ((HB.out.2.below hbd).more hbd.size))
        clear hwd hbd q0 r1 s1
        go_wp2
        go_roundw
        case rel => exact ⟨i + 1, by omega, by go_num, HE2, HBd⟩
        case measure => simp [intOf]; omega
      | false =>
        have HWT : Hid (waitB (lowE T) D j = true) := Lib.hid (by
          cases hw : waitB (lowE T) D j with
          | true => rfl
          | false =>
            have h1 := HPW.out.mp hw _ (List.mem_of_getElem? HQ.out)
            rw [Int.toNat_natCast, HX.out] at h1
            cases h1)
        go_wp2
        go_quiet (fail)
        rename_i nq
        have hbd : Below wr.heap.size wr (wr.drewN nq) := below_drewN (Below.refl _ _) _
        obtain ⟨wd, hwd⟩ : ∃ wd, wd = wr.drewN nq := ⟨_, rfl⟩
        rw [← hwd] at hbd ⊢
        have HBd := Lib.hid (HB.out.1.next hbd)
        clear hwd hbd q0 r1 s1
        go_wp2
        go_ret
        exact ⟨by rw [HWT.out, Bool.not_true, Bool.and_false]; rfl, HBd.out.bel⟩
    · obtain rfl : np' = i := by omega
      have HWT : Hid (waitB (lowE T) D j = false) := Lib.hid (HPW.out.mpr (by
        have h := HE.out
        rw [List.take_of_length_le (by rw [HNP.out]; exact Nat.le_refl _)] at h
        exact h))
      obtain ⟨bd, od, x, hA, hbd, hx, s1⟩ : ∃ bd od x, A = some ⟨bd, od, none⟩ ∧ bd < wr.heap.size ∧ D.getD j false = x ∧ wr.cell? ⟨bd, od + j, none⟩ = some (.bool x) := by
        obtain ⟨bd, od, x, y, hA, hbd, hx, hy, s1, s2⟩ := HB.out.1.mem.two (a := j) (b := j) hj hj
        exact ⟨bd, od, x, hA, hbd, hx, s1⟩
      subst hA
      have HX := Lib.hid hx
      have HBd := Lib.hid HB.out.1.bel
      clear hbd hx HB
      go_wp2
      go_ret
      exact ⟨by rw [HWT.out, HX.out, Bool.not_false, Bool.and_true]; rfl, HBd.out⟩
end
end Go.Proofs.YtkmajhbfmdoamaaGreatDoor
set_option linter.unusedVariables false
set_option linter.unusedSimpArgs false
namespace Go.Proofs.YtkmajhbfmdoamaaGreatDoor
open Go Go.RowKit

section
variable {s : Sh} {T : Task} {A : Option Addr} {n c : Nat} {F : Option Addr} {m d : Nat} {D : List Bool} {V : List Int}
set_option maxRecDepth 100000 in
set_option maxHeartbeats 16000000 in
theorem rready8_any (w : World) (hD : IsD w s T) (hM : IsM w A n c F m d D V) (hO : MemOk T D V) :
    Calls Tryz.prog 13 #[s.arg T.period T.deadline, .agg #[.slice A n c, .slice F m d]] w (GotOwn (nums (readyK (lowE T) D n)) w) := by
  have HS := Lib.hid (BxM.start hD hM)
  have hn4 := hM.ln
  obtain ⟨P, np, pc, E, ne, ec, Fu, nf, fc, R, nr, rc⟩ := s
  have CI := Lib.hid (fun W j (h1 : IsD W ⟨P, np, pc, E, ne, ec, Fu, nf, fc, R, nr, rc⟩ T) (h2 : IsM W A n c F m d D V) (hj : j < n) => ris_any W j h1 h2 hO hj)
  obtain ⟨wB, hwB⟩ : ∃ wB, wB = (w.alloc (.cells #[.int .i64 T.period, .int .i64 T.deadline, .slice P np pc, .slice E ne ec, .slice Fu nf fc, .slice R nr rc] 27)).alloc (.cells #[.slice A n c, .slice F m d] 31) := ⟨_, rfl⟩
  simp only at HS
  rw [← hwB] at HS
  have HSZ : Hid (wB.heap.size = w.heap.size + 1 + 1) := Lib.hid (by rw [hwB]; simp)
  have HO0 : Hid (OwnI (wB.alloc (.cells #[] 3)) wB.heap.size (.slice (some ⟨wB.heap.size, 0, none⟩) 0 0) []) := Lib.hid (ownI_fresh (heap_alloc_new wB _) (Nat.le_refl _))
  have HB0 : Hid (Below wB.heap.size wB (wB.alloc (.cells #[] 3))) := Lib.hid (below_alloc _)
  have HW := Lib.hid hwB
  clear hD hM hO hwB
  go_enter Tryz.func13, Tryz.ntmps13
  go_wp2
  rw [← HW.out, ← HSZ.out]
  clear HW
  go_loopw [5, 6] (fun v i wr => ∃ (j k : Nat) (A' : Option Addr) (c' : Nat), j ≤ n ∧ i = .int .i64 (j : Int) ∧ v = .slice A' k c' ∧ Hid ((readyK (lowE T) D j).length = k) ∧ Hid (OwnI wr wB.heap.size (.slice A' k c') (nums (readyK (lowE T) D j))) ∧ Hid (Below wB.heap.size wB wr)) (fun _ i _ => n - (intOf i).toNat)
  case atStart => exact ⟨0, 0, _, _, Nat.zero_le _, rfl, rfl, Lib.hid rfl, HO0, HB0⟩
  case round =>
    obtain ⟨j, k, A', c', hj, rfl, rfl, HK, HO, HB⟩ := hrel
    clear HO0 HB0
    have HBM := Lib.hid (HS.out.next HB.out)
    have q0 := HBM.out.m0
    have q1 := HBM.out.m1
    obtain ⟨c0, c1, c2, c3, c4, c5⟩ := HBM.out.cd
    simp only at c2 c3 c4 c5
    by_cases hlt : j < n
    · have CJ := CI.out wr j HBM.out.isd HBM.out.mem hlt
      obtain ⟨v, hv⟩ : ∃ v, (!D.getD j false && !waitB (lowE T) D j) = v := ⟨_, rfl⟩
      have hst := readyK_step (E := lowE T) (D := D) (n := j) rfl rfl
      rw [hv] at CJ hst
      have HST := Lib.hid hst
      have HCJ := Lib.hid CJ
      have hk : k ≤ 400 := by have := readyK_len (lowE T) D j; rw [HK.out] at this; omega
      clear CJ hv hst
      go_wp2_with fail
      refine HCJ.out.mono ?_
      rintro e w4 ⟨rfl, b4⟩
      have HO4 := Lib.hid (own_below HO.out b4)
      have HB4 := Lib.hid (HB.out.trans (b4.mono HB.out.size))
      have hws := HB4.out.size
      clear b4 HCJ HO HB HBM q0 q1 c0 c1 c2 c3 c4 c5
      cases v with
      | true =>
        rw [if_pos rfl] at HST
        go_wp2_with (at_builtin; refine wpList_push rfl _ _ rfl w4 wB.heap.size _ (nums (readyK (lowE T) D j)) j k (by rw [nums_length]; exact HK.out) (by omega) HO4.out hws rfl rfl ?_; intro A4 c4' w5 HO5 HB5; (have HO5' := Lib.hid HO5); (have HB5' := Lib.hid HB5); clear HO5 HB5)
        go_roundw
        case rel => exact ⟨j + 1, k + 1, A4, c4', by omega, by go_num, rfl, Lib.hid (by rw [HST.out, List.length_append, HK.out]; rfl), Lib.hid (by rw [HST.out, nums_snoc]; exact HO5'.out), Lib.hid (HB4.out.trans HB5'.out)⟩
        case measure => simp [intOf]; omega
      | false =>
        rw [if_neg (by decide)] at HST
        go_wp2
        go_roundw
        case rel => exact ⟨j + 1, k, A', c', by omega, by go_num, rfl, Lib.hid (by rw [HST.out]; exact HK.out), Lib.hid (by rw [HST.out]; exact HO4.out), HB4⟩
        case measure => simp [intOf]; omega
    · obtain rfl : n = j := by omega
      have HLN : Hid ((nums (readyK (lowE T) D n)).length = k) := Lib.hid (by rw [nums_length]; exact HK.out)
      have HE : Hid (OwnI wr w.heap.size (.slice A' k c') (nums (readyK (lowE T) D n)) ∧ Below w.heap.size w wr) := Lib.hid ⟨HO.out.down HS.out.bel.size, HBM.out.bel⟩
      go_wp2
      go_ret
      exact ⟨A', c', by rw [HLN.out]; rfl, by rw [HLN.out]; exact HE.out.1, HE.out.2⟩
end
end Go.Proofs.YtkmajhbfmdoamaaGreatDoor
set_option linter.unusedVariables false
set_option linter.unusedSimpArgs false
namespace Go.Proofs.YtkmajhbfmdoamaaGreatDoor
open Go Go.RowKit

section
variable {s : Sh} {T : Task}
end
end Go.Proofs.YtkmajhbfmdoamaaGreatDoor
