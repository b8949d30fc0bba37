/- The contract of twice of trefoillaw07 in the seat YtecjpclkiiaidaaDoor. No statement is proved here. -/
import Derived.Test.YtecjpclkiiaidaaDoorZM24
set_option linter.unusedVariables false
namespace Go.Proofs.YtecjpclkiiaidaaDoor
open Go.RowKit

set_option maxRecDepth 100000 in
set_option maxHeartbeats 4000000 in
theorem twice_any (w : World) (s : Sh) (T : Task) (a b : Int) (h : IsD w s T) :
    Calls Tryd.prog 16 #[s.arg T.period T.deadline, .int .i64 a, .int .i64 b] w fun e w' => e = .returned (.bool (decide ((a, b) ∈ T.edges))) ∧ Below w.heap.size w w' := by
  have hl : s.ne ≤ 1000 := by have := h.few.ne; have := h.t.he; omega
  obtain ⟨P, np, pc, E, ne, ec, Fu, nf, fc, Rr, nr, rc⟩ := s
  simp only at hl
  have he := h.t.he
  simp only at he
  have hP : Pairs w w.heap.size E T.edges := h.t.edges
  have HE := Lib.hid he
  have HP := Lib.hid hP
  obtain ⟨r, hr⟩ : ∃ r, r = decide ((a, b) ∈ T.edges) := ⟨_, rfl⟩
  rw [← hr]
  have HR := Lib.hid hr
  have B0 := Lib.hid (Bx1T.start h.t)
  obtain ⟨w1, hw1⟩ : ∃ w1, w1 = w.alloc (.cells #[.int .i64 T.period, .int .i64 T.deadline, .slice P np pc, .slice E ne ec, .slice Fu nf fc, .slice Rr nr rc] 42) := ⟨_, rfl⟩
  rw [← hw1] at B0
  obtain ⟨t1, t2, t3, t4, t5, t6⟩ := B0.out.c
  simp only at t1 t2 t3 t4 t5 t6
  have HW := Lib.hid hw1
  have HBL := Lib.hid B0.out.bel
  clear h he hP hr hw1 B0
  go_enter Tryd.func16, Tryd.ntmps16
  go_wp2
  rw [← HW.out]
  clear HW
  go_loop [7] (fun i => ∃ j : Nat, j ≤ ne ∧ i = .int .i64 j ∧ Hid ((a, b) ∉ T.edges.take j)) (fun i => ne - (intOf i).toNat)
  case atStart => exact ⟨0, Nat.zero_le _, rfl, Lib.hid (by simp)⟩
  case round =>
    obtain ⟨j, hj, rfl, HT⟩ := hrel
    by_cases hlt : j < ne
    · obtain ⟨b1, o1, ⟨x1, x2⟩, rfl, hbl, hx, r0, r1⟩ := HP.out.at_ (k := j) (by rw [HE.out]; exact hlt)
      simp only at r0 r1
      have q0 := (HBL.out.cell (p := ⟨b1, o1 + j * 2, none⟩) hbl).trans r0
      have q1 := (HBL.out.cell (p := ⟨b1, o1 + j * 2 + 1, none⟩) hbl).trans r1
      have HX := Lib.hid hx
      clear hbl hx r0 r1
      have hnext : x1 ≠ a ∨ x2 ≠ b → (a, b) ∉ T.edges.take (j + 1) := fun hd hm => by
        rw [List.take_add_one, HX.out] at hm
        rcases List.mem_append.mp hm with hm | hm
        · exact HT.out hm
        · have e : (a, b) = (x1, x2) := by simpa using hm
          injection e with e1 e2
          rcases hd with hd | hd
          · exact hd e1.symm
          · exact hd e2.symm
      have HN := Lib.hid hnext
      clear hnext
      by_cases h1 : x1 = a
      · by_cases h2 : x2 = b
        · subst h1 h2
          have HY : Hid (r = true) := Lib.hid (by rw [HR.out, decide_eq_true]; exact List.mem_of_getElem? HX.out)
          go_wp2
          go_ret
          exact ⟨by rw [HY.out]; rfl, HBL.out⟩
        · subst h1
          have hb2 : (x2 == b) = false := by simpa using h2
          have HM := Lib.hid (HN.out (.inr h2))
          go_wp2
          go_round
          case rel => exact ⟨j + 1, by omega, by go_num, HM⟩
          case measure => simp [intOf]; omega
      · have hb1 : (x1 == a) = false := by simpa using h1
        have HM := Lib.hid (HN.out (.inl h1))
        go_wp2
        go_round
        case rel => exact ⟨j + 1, by omega, by go_num, HM⟩
        case measure => simp [intOf]; omega
    · obtain rfl : ne = j := by omega
      have HY : Hid (r = false) := Lib.hid (by
        have h := HT.out
        rw [List.take_of_length_le (by rw [HE.out]; exact Nat.le_refl _)] at h
        rw [HR.out, decide_eq_false h])
      go_wp2
      go_ret
      exact ⟨by rw [HY.out]; rfl, HBL.out⟩
end Go.Proofs.YtecjpclkiiaidaaDoor
