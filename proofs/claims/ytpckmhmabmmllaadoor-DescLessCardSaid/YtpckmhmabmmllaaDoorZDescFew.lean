/- The contract of trefoilref05.Few in the seat YtpckmhmabmmllaaDoor. No statement is proved here. -/
import Derived.Test.YtpckmhmabmmllaaDoorZDescCheck
set_option linter.unusedVariables false
namespace Go.Proofs.YtpckmhmabmmllaaDoor
open Go.RowKit

def barsFew (bs : List (List Int × List Int)) (k : Nat) : Prop := ∀ i, i < k → ∀ b, bs[i]? = some b → b.1.length ≤ 20 ∧ b.2.length ≤ 20
structure FewD (T : Task) : Prop where
  bars : barsFew T.bars 9
  np : T.parts.length ≤ 20
  ne : T.edges.length ≤ 60
  nf : T.futures.length ≤ 20
  nr : T.bars.length ≤ 8
theorem FewD.few {T : Task} (h : FewD T) : FewT T := by
  refine ⟨by have := h.np; omega, by have := h.ne; omega, by have := h.nf; omega, by have := h.nr; omega, fun b hb => ?_⟩
  obtain ⟨i, hi, e⟩ := List.getElem_of_mem hb
  have hn := h.nr
  have := h.bars i (by omega) b (by rw [List.getElem?_eq_getElem hi, e])
  omega
theorem barsFew_step {bs : List (List Int × List Int)} {k : Nat} {b : List Int × List Int} (h : barsFew bs k) (hb : bs[k]? = some b) (h1 : b.1.length ≤ 20) (h2 : b.2.length ≤ 20) : barsFew bs (k + 1) := by
  intro i hi c hc
  by_cases e : i = k
  · rw [e, hb] at hc
    injection hc with hc
    rw [← hc]
    exact ⟨h1, h2⟩
  · exact h i (by omega) c hc
set_option maxRecDepth 100000 in
set_option maxHeartbeats 4000000 in
theorem dfew_any (s : Sh) (T : Task) (p q : Int) (r : Bool) (hr : r = true ↔ FewD T) (w : World) (hT : IsT w w.heap.size s T) :
    Calls Tryd.prog 10 #[s.arg p q] w fun e w' => e = .returned (.bool r) ∧ Below w.heap.size w w' := by
  obtain ⟨P, np, pc, E, ne, ec, F, nf, fc, R, nr, rc⟩ := s
  have B0 := Lib.hid (BxT.start hT p q)
  have hp := hT.hp
  have he := hT.he
  have hf := hT.hf
  have hrr := hT.hr
  simp only at hp he hf hrr
  have HR := Lib.hid (show r = true ↔ barsFew T.bars 9 ∧ np ≤ 20 ∧ ne ≤ 60 ∧ nf ≤ 20 ∧ nr ≤ 8 by
    rw [hr, ← hp, ← he, ← hf, ← hrr]
    exact ⟨fun h => ⟨h.bars, h.np, h.ne, h.nf, h.nr⟩, fun h => ⟨h.1, h.2.1, h.2.2.1, h.2.2.2.1, h.2.2.2.2⟩⟩)
  have HN := Lib.hid hrr
  have HT := Lib.hid hT
  simp only [Sh.arg]
  clear hr hp he hf hrr hT
  go_enter Tryd.func10, Tryd.ntmps10
  go_wp2
  go_loop [3] (fun v => ∃ k : Nat, k ≤ nr ∧ k ≤ 9 ∧ v = .int .i64 k ∧ Hid (barsFew T.bars k)) (fun v => 9 - (intOf v).toNat)
  case atStart => exact ⟨0, Nat.zero_le _, by omega, rfl, Lib.hid (fun i hi => by omega)⟩
  case round =>
    obtain ⟨k, hk, hk9, rfl, HF⟩ := hrel
    by_cases hlt : k < nr ∧ k < 9
    · obtain ⟨bk, off, xs, ys, A1, n1, c1, A2, n2, c2, hR, hbg, hbj, hl1, hl2, dq1, dq2, _, _, _, _⟩ := HT.out.bars.at_ (k := k) (by rw [HN.out]; exact hlt.1)
      simp only at hR
      subst hR
      have hkn := hlt.1
      have hk9' := hlt.2
      have g1 : decide ((k : Int) < (nr : Int)) = true := by rw [decide_eq_true_iff]; omega
      have g2 : decide ((k : Int) < 9) = true := by rw [decide_eq_true_iff]; omega
      clear hlt
      by_cases h1 : n1 ≤ 20
      · have g3 : decide ((20 : Int) < (n1 : Int)) = false := by rw [decide_eq_false_iff_not]; omega
        by_cases h2 : n2 ≤ 20
        · have g4 : decide ((20 : Int) < (n2 : Int)) = false := by rw [decide_eq_false_iff_not]; omega
          have HST := Lib.hid (barsFew_step HF.out hbj (by rw [hl1]; exact h1) (by rw [hl2]; exact h2))
          clear hbj hl1 hl2
          go_wp2
          go_round
          case rel => exact ⟨k + 1, by omega, by omega, by go_num, HST⟩
          case measure => simp [intOf]; omega
        · have g4 : decide ((20 : Int) < (n2 : Int)) = true := by rw [decide_eq_true_iff]; omega
          have HX := Lib.hid (show r = false by
            rw [← Bool.not_eq_true]
            intro h
            have := ((HR.out.mp h).1 k hk9' _ hbj).2
            simp only at this
            rw [hl2] at this
            exact h2 this)
          clear hbj hl1 hl2
          go_wp2
          go_ret
          exact ⟨by rw [HX.out]; rfl, B0.out.b.bel⟩
      · have g3 : decide ((20 : Int) < (n1 : Int)) = true := by rw [decide_eq_true_iff]; omega
        have HX := Lib.hid (show r = false by
          rw [← Bool.not_eq_true]
          intro h
          have := ((HR.out.mp h).1 k hk9' _ hbj).1
          simp only at this
          rw [hl1] at this
          exact h1 this)
        clear hbj hl1 hl2
        go_wp2
        go_ret
        exact ⟨by rw [HX.out]; rfl, B0.out.b.bel⟩
    · have HALL : Hid (k = nr ∨ (k < nr ∧ k = 9)) := Lib.hid (by omega)
      have HBF : Hid (barsFew T.bars 9) := Lib.hid (fun i hi b hb => by
        rcases HALL.out with e | ⟨_, e⟩
        · have := (List.getElem?_eq_some_iff.1 hb).1
          rw [HN.out] at this
          exact HF.out i (by omega) b hb
        · exact HF.out i (by omega) b hb)
      by_cases hF : np ≤ 20 ∧ ne ≤ 60 ∧ nf ≤ 20 ∧ nr ≤ 8
      · have HX := Lib.hid (HR.out.mpr ⟨HBF.out, hF⟩)
        obtain ⟨h1, h2, h3, h4⟩ := hF
        have e : k = nr := by omega
        subst e
        clear hlt
        go_wp2
        go_ret
        exact ⟨by rw [HX.out]; first | rfl | (refine congrArg (fun b => Ending.returned (Value.bool b)) (?_ : decide _ = _); rw [decide_eq_true_iff]; omega), B0.out.b.bel⟩
      · have HX := Lib.hid (show r = false by
          rw [← Bool.not_eq_true]
          exact fun h => hF (HR.out.mp h).2)
        rcases (show (k = nr ∧ 20 < np) ∨ (k = nr ∧ np ≤ 20 ∧ 60 < ne) ∨ (k = nr ∧ np ≤ 20 ∧ ne ≤ 60 ∧ 20 < nf) ∨ (k = nr ∧ np ≤ 20 ∧ ne ≤ 60 ∧ nf ≤ 20 ∧ 8 < nr) ∨ (k < nr ∧ k = 9 ∧ 20 < np) ∨ (k < nr ∧ k = 9 ∧ np ≤ 20 ∧ 60 < ne) ∨ (k < nr ∧ k = 9 ∧ np ≤ 20 ∧ ne ≤ 60 ∧ 20 < nf) ∨ (k < nr ∧ k = 9 ∧ np ≤ 20 ∧ ne ≤ 60 ∧ nf ≤ 20 ∧ 8 < nr) by have := HALL.out; omega)
          with ⟨e, h1⟩ | ⟨e, h1, h2⟩ | ⟨e, h1, h2, h3⟩ | ⟨e, h1, h2, h3, h4⟩ | ⟨e0, e, h1⟩ | ⟨e0, e, h1, h2⟩ | ⟨e0, e, h1, h2, h3⟩ | ⟨e0, e, h1, h2, h3, h4⟩
        all_goals
          subst e
          clear hlt hF HALL
          go_wp2
          go_ret
          exact ⟨by rw [HX.out]; first | rfl | (refine congrArg (fun b => Ending.returned (Value.bool b)) (?_ : decide _ = _); rw [decide_eq_false_iff_not]; omega), B0.out.b.bel⟩
end Go.Proofs.YtpckmhmabmmllaaDoor
