/- trefoilref07.Begin in the seat YtmelgolnmnebpaaGreatDoor: its contract. No statement is proved here. -/
import Derived.Test.YtmelgolnmnebpaaGreatDoorZRefSteps
set_option linter.unusedSimpArgs false
set_option linter.unusedVariables false
set_option linter.unusedSimpArgs false
namespace Go.Proofs.YtmelgolnmnebpaaGreatDoor
open Go.RowKit

/-- A task's box, and a future's. -/
structure BxBeg (w : World) (s : Sh) (T : Task) (a b c : Int) (w' : World) : Prop where
  bel : Below w.heap.size w w'
  cd : CellsD w' s T.period T.deadline w.heap.size
  row : w'.heap[w.heap.size + 1]? = some (.cells #[.int .i64 a, .int .i64 b, .int .i64 c] 67 (0, 0))
section
variable {w w1 w2 : World} {s : Sh} {T : Task} {a b c : Int}
theorem BxBeg.next (h : BxBeg w s T a b c w1) (hb : Below w1.heap.size w1 w2) : BxBeg w s T a b c w2 := ⟨h.bel.trans (hb.mono h.bel.size), h.cd.next hb, by rw [hb.block _ (Array.getElem?_eq_some_iff.1 h.row).1]; exact h.row⟩
theorem BxBeg.f1 (h : BxBeg w s T a b c w1) : w1.cell? ⟨w.heap.size + 1, 1, none⟩ = some (.int .i64 b) := by rw [cell_of_row _ _ _ _ _ _ h.row]; rfl
theorem BxBeg.f2 (h : BxBeg w s T a b c w1) : w1.cell? ⟨w.heap.size + 1, 2, none⟩ = some (.int .i64 c) := by rw [cell_of_row _ _ _ _ _ _ h.row]; rfl
theorem BxBeg.start {w : World} (hd : IsT w w.heap.size s T) (a b c : Int) : BxBeg w s T a b c ((w.alloc (.cells #[.int .i64 T.period, .int .i64 T.deadline, .slice s.P s.np s.pc, .slice s.E s.ne s.ec, .slice s.F s.nf s.fc, .slice s.R s.nr s.rc] 27)).alloc (.cells #[.int .i64 a, .int .i64 b, .int .i64 c] 67)) := by
  have h1 := Bx1T.start hd
  obtain ⟨w0, hw0⟩ : ∃ w0, w0 = w.alloc (.cells #[.int .i64 T.period, .int .i64 T.deadline, .slice s.P s.np s.pc, .slice s.E s.ne s.ec, .slice s.F s.nf s.fc, .slice s.R s.nr s.rc] 27) := ⟨_, rfl⟩
  rw [← hw0] at h1 ⊢
  have hs : w0.heap.size = w.heap.size + 1 := by rw [hw0]; simp
  have h2 := h1.next (below_alloc (w := w0) (.cells #[.int .i64 a, .int .i64 b, .int .i64 c] 67))
  have h3 := heap_alloc_new w0 (.cells #[.int .i64 a, .int .i64 b, .int .i64 c] 67)
  rw [hs] at h3
  exact ⟨h2.bel, h2.c, h3⟩
end
section
variable {s : Sh} {T : Task}
set_option maxRecDepth 100000 in
set_option maxHeartbeats 8000000 in
theorem rbegin_any (w : World) (k : Nat) (hD : IsD w s T) (hM : MayT T) (hk : k < T.futures.length) :
    Calls Tryz.prog 82 #[s.arg T.period T.deadline, .agg #[.int .i64 (futAt T.futures k).1, .int .i64 (futAt T.futures k).2.1, .int .i64 (futAt T.futures k).2.2]] w fun e w' => e = .returned (.int .i64 (begN T.futures k : Int)) ∧ Below w.heap.size w w' := by
  obtain ⟨mN, uN, hf, hm, hu, _⟩ := fut_parts' hM hk
  obtain ⟨q, hq, hbe, htq⟩ := beg_at hM hk hf
  obtain ⟨Av, hAv⟩ : ∃ a, a = (futAt T.futures k).2.2 := ⟨_, rfl⟩
  rw [← hAv] at hf ⊢
  rw [hf]
  simp only
  have HS := Lib.hid (BxBeg.start hD.t (mN : Int) (uN : Int) Av)
  have HD := Lib.hid hD
  have HISD := Lib.hid (fun W (h : Below w.heap.size w W) => HD.out.below h)
  have HFL := Lib.hid hD.t.hf
  have HQ := Lib.hid htq
  have HAV := Lib.hid hAv
  have HR := Lib.hid (touL_rises7 (x := (uN : Int)) hM.futures.once)
  have CF := Lib.hid (fun W (h : IsD W s T) => rfirst_any W uN h hM (Nat.le_of_lt hu))
  have hfs := firN_small hM (j := uN) (Nat.le_of_lt hu)
  obtain ⟨f0, hf0⟩ : ∃ f, firN T.futures uN = f := ⟨_, rfl⟩
  rw [hf0] at CF hfs hbe
  obtain ⟨bg, hbg⟩ : ∃ b, begN T.futures k = b := ⟨_, rfl⟩
  rw [hbg] at hbe ⊢
  have hnt : (touL T.futures (uN : Int)).length ≤ 400 := by have h1 := touK_len T.futures (uN : Int) 99; have h2 := hD.few.nf; unfold touL; omega
  obtain ⟨nt, hntE⟩ : ∃ nt, nt = (touL T.futures (uN : Int)).length := ⟨_, rfl⟩
  rw [← hntE] at hnt hq
  have HNT := Lib.hid hntE
  have C := Lib.hid (fun W (h : IsD W s T) => dtouches_any (P := s.P) (np := s.np) (pc := s.pc) (E := s.E) (ne := s.ne) (ec := s.ec) (F := s.F) (nf := s.nf) (fc := s.fc) (R := s.R) (nr := s.nr) (rc := s.rc) (p := T.period) (q := T.deadline) (uN : Int) T.futures W h.t.hf (by have h1 := h.t.hf; have h2 := h.few.nf; omega) h.t.futures)
  have hnf4 : s.nf ≤ 400 := by have h1 := hD.few.nf; have h2 := hD.t.hf; omega
  have hu4 : uN ≤ 400 := by have h1 := hD.few.np; omega
  obtain ⟨P, np, pc, E, ne, ec, Fu, nf, fc, R, nr, rc⟩ := s
  simp only at HS C HFL hnf4
  obtain ⟨w0, hw0⟩ : ∃ w0, w0 = (w.alloc (.cells #[.int .i64 T.period, .int .i64 T.deadline, .slice P np pc, .slice E ne ec, .slice Fu nf fc, .slice R nr rc] 27)).alloc (.cells #[.int .i64 (mN : Int), .int .i64 (uN : Int), .int .i64 Av] 67) := ⟨_, rfl⟩
  rw [← hw0] at HS
  obtain ⟨c0, c1, c2, c3, c4, c5⟩ := HS.out.cd
  simp only at c2 c3 c4 c5
  have r1 := HS.out.f1
  have r2 := HS.out.f2
  clear hD hM hk hf hm hu htq hAv hf0 hbg hntE
  go_enter Tryz.func82, Tryz.ntmps82
  go_wp2_with fail
  rw [← hw0]
  clear hw0
  refine (C.out _ (HISD.out _ HS.out.bel)).mono ?_
  rintro e w2 ⟨A, c, rfl, hO, b2⟩
  have B2 := Lib.hid (HS.out.next b2)
  have L2 := Lib.hid (OwnI.ints hO)
  rw [nums_length, ← HNT.out]
  clear hO b2 C HS c0 c1 c2 c3 c4 c5 r1 r2
  go_wp2
  go_loopw [6] (fun i wr => ∃ j : Nat, j ≤ q ∧ i = .int .i64 (j : Int) ∧ Hid (BxBeg w ⟨P, np, pc, E, ne, ec, Fu, nf, fc, R, nr, rc⟩ T (mN : Int) (uN : Int) Av wr ∧ Ints wr wr.heap.size A (nums (touL T.futures (uN : Int))))) (fun i _ => nt - (intOf i).toNat)
  case atStart => exact ⟨0, Nat.zero_le _, rfl, Lib.hid ⟨B2.out, L2.out⟩⟩
  case round =>
    obtain ⟨j, hj, rfl, HB⟩ := hrel
    clear B2 L2
    have hlt : j < nt := by omega
    obtain ⟨c0, c1, c2, c3, c4, c5⟩ := HB.out.1.cd
    simp only at c2 c3 c4 c5
    have r1 := HB.out.1.f1
    have r2 := HB.out.1.f2
    obtain ⟨k1, hk1⟩ : ∃ k1, (touL T.futures (uN : Int))[j]? = some k1 := ⟨_, List.getElem?_eq_getElem (by rw [← HNT.out]; exact hlt)⟩
    have hkf : k1 < nf := by have := touL_lt hk1; rw [HFL.out] at this; exact this
    obtain ⟨gb, go, ez, eA, hgb, hez, hq2⟩ := HB.out.2.at_ (k := j) (by rw [nums_length, ← HNT.out]; exact hlt)
    obtain ⟨k2, rfl, hk2⟩ := nums_at hez
    obtain rfl : k1 = k2 := by rw [hk1] at hk2; exact Option.some.inj hk2
    subst eA
    obtain ⟨fb, fo, f1, f2, f3, hFe, hfb, hft, d1, d2, d3⟩ := (HISD.out _ HB.out.1.bel).t.futures.at_ (k := k1) (by rw [HFL.out]; exact hkf)
    simp only at hFe
    subst hFe
    have hfa : (futAt T.futures k1).2.2 = f3 := by unfold futAt; rw [List.getD_eq_getElem?_getD, hft]; rfl
    have HFA := Lib.hid hfa
    have HK1 := Lib.hid hk1
    by_cases hjq : j = q
    · have he : (f3 == Av) = true := by
        rw [hjq, HQ.out] at hk1
        rw [← hfa, ← Option.some.inj hk1, ← HAV.out]
        simp
      have hbe2 : (f0 : Int) + (j : Int) + 1 = (bg : Int) := by omega
      clear hjq hbe hj
      clear hk1 hk2 hez hgb hfb hft hfa d1 d2
      go_wp2
      go_quiet (fail)
      rename_i nq
      have hbd : Below wr.heap.size wr (wr.drewN nq) := below_drewN (Below.refl _ _) _
      obtain ⟨wd, hwd⟩ : ∃ wd, wd = wr.drewN nq := ⟨_, rfl⟩
      rw [← hwd] at hbd ⊢
      have HBd := Lib.hid (HB.out.1.next hbd)
      clear hwd hbd c0 c1 c2 c3 c4 c5 r1 r2
      obtain ⟨c0, c1, c2, c3, c4, c5⟩ := HBd.out.cd
      simp only at c2 c3 c4 c5
      have r1 := HBd.out.f1
      go_wp2_with fail
      refine (CF.out _ (HISD.out _ HBd.out.bel)).mono ?_
      rintro e w4 ⟨rfl, b4⟩
      have HB4 := Lib.hid (HBd.out.next b4)
      clear b4 c0 c1 c2 c3 c4 c5 r1
      go_wp2
      go_ret
      exact ⟨by first | rfl | rw [hbe2], HB4.out.bel⟩
    · have he : (f3 == Av) = false := by
        have h1 := List.pairwise_iff_getElem.mp HR.out j q (by rw [← HNT.out]; exact hlt) (by rw [← HNT.out]; exact hq) (by omega)
        rw [(List.getElem?_eq_some_iff.mp hk1).2, (List.getElem?_eq_some_iff.mp HQ.out).2, hfa, ← HAV.out] at h1
        simp
        omega
      have hjq' : j + 1 ≤ q := by omega
      clear hjq hbe
      clear hk1 hk2 hez hgb hfb hft hfa d1 d2
      go_wp2
      go_quiet (fail)
      rename_i nq
      have hbd : Below wr.heap.size wr (wr.drewN nq) := below_drewN (Below.refl _ _) _
      obtain ⟨wd, hwd⟩ : ∃ wd, wd = wr.drewN nq := ⟨_, rfl⟩
      rw [← hwd] at hbd ⊢
      have HBd := Lib.hid (And.intro (HB.out.1.next hbd) ((HB.out.2.below hbd).more hbd.size))
      clear hwd hbd c0 c1 c2 c3 c4 c5 r1 r2
      go_wp2
      go_roundw
      case rel => exact ⟨j + 1, by omega, by go_num, HBd⟩
      case measure => simp [intOf]; omega
end
end Go.Proofs.YtmelgolnmnebpaaGreatDoor
