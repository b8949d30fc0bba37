/- DequeTells in the seat YtnlempddoiidiaaDoor: its walk. No statement is proved here. -/
import Derived.Test.YtnlempddoiidiaaDoorZM13
import Derived.Test.YtnlempddoiidiaaDoorZRefPushD
import Derived.Test.YtnlempddoiidiaaDoorZDequeOpen
import Derived.Test.YtnlempddoiidiaaDoorZM7
set_option linter.unusedSimpArgs false
set_option linter.unusedVariables false
set_option linter.unusedSimpArgs false
namespace Go.Proofs.YtnlempddoiidiaaDoor
open Go Go.RowKit

def rows2 (A : Option Addr) (n c : Nat) (T B : Int) (A' : Option Addr) (n' c' : Nat) (T' B' : Int) : List (TypeId × List Value) := [(24, [.slice A n c, .int .i64 T, .int .i64 B]), (24, [.slice A' n' c', .int .i64 T', .int .i64 B'])]
def PhiTl (A : Option Addr) (n c : Nat) (R : List Int) (T B : Int) (A' : Option Addr) (n' c' : Nat) (R' : List Int) (T' B' : Int) (A5 : Option Addr) (n5 c5 : Nat) (A6 : Option Addr) (n6 c6 : Nat) (t5 b5 e5 : Int) (isb sb : Bool) : Nat → Value → World → Prop
  | 0, v, w => v = .agg #[.slice A5 n5 c5, .int .i64 t5, .int .i64 b5]
  | 1, v, w => v = .agg #[.slice A6 n6 c6, .int .i64 t5, .int .i64 b5]
  | 2, v, w => v = .bool true
  | 3, v, w => v = .bool true
  | 4, v, w => v = .int .i64 e5
  | 5, v, w => v = .int .i64 e5
  | 6, v, w => v = .bool true
  | 7, v, w => v = .bool true
  | 8, v, w => v = .bool true
  | 9, v, w => v = .agg #[.slice A n c, .int .i64 T, .int .i64 B]
  | 10, v, w => ∃ A1 c1, v = .agg #[.slice A1 n c1, .int .i64 T, .int .i64 B] ∧ IsQ w A1 n c1 R
  | 11, v, w => v = .int .i64 (chkQE n T B)
  | 12, v, w => v = .bool isb
  | 13, v, w => v = .bool isb
  | 14, v, w => v = .bool true
  | 15, v, w => v = .bool true
  | 16, v, w => v = .bool true
  | 17, v, w => v = .agg #[.slice A n c, .int .i64 T, .int .i64 B]
  | 18, v, w => ∃ A1 c1, v = .agg #[.slice A1 n c1, .int .i64 T, .int .i64 B] ∧ IsQ w A1 n c1 R
  | 19, v, w => v = .agg #[.slice A' n' c', .int .i64 T', .int .i64 B']
  | 20, v, w => ∃ A1 c1, v = .agg #[.slice A1 n' c1, .int .i64 T', .int .i64 B'] ∧ IsQ w A1 n' c1 R'
  | 21, v, w => v = .bool sb
  | 22, v, w => v = .agg #[.slice A n c, .int .i64 T, .int .i64 B]
  | 23, v, w => v = .agg #[.slice A' n' c', .int .i64 T', .int .i64 B']
  | 24, v, w => v = .bool sb
  | 25, v, w => v = .bool true
  | 26, v, w => v = .bool true
  | 27, v, w => v = .bool true
  | _, _, _ => True
theorem phiTl_below (A : Option Addr) (n c : Nat) (R : List Int) (T B : Int) (A' : Option Addr) (n' c' : Nat) (R' : List Int) (T' B' : Int) (A5 : Option Addr) (n5 c5 : Nat) (A6 : Option Addr) (n6 c6 : Nat) (t5 b5 e5 : Int) (isb sb : Bool) : ∀ kq v w w', PhiTl A n c R T B A' n' c' R' T' B' A5 n5 c5 A6 n6 c6 t5 b5 e5 isb sb kq v w → Below w.heap.size w w' → PhiTl A n c R T B A' n' c' R' T' B' A5 n5 c5 A6 n6 c6 t5 b5 e5 isb sb kq v w' := by
  intro kq v w w' h hb
  match kq, h with
  | 0, h => exact h
  | 1, h => exact h
  | 2, h => exact h
  | 3, h => exact h
  | 4, h => exact h
  | 5, h => exact h
  | 6, h => exact h
  | 7, h => exact h
  | 8, h => exact h
  | 9, h => exact h
  | 10, h => exact (by obtain ⟨A1, c1, e, hq⟩ := h; exact ⟨A1, c1, e, hq.below hb⟩)
  | 11, h => exact h
  | 12, h => exact h
  | 13, h => exact h
  | 14, h => exact h
  | 15, h => exact h
  | 16, h => exact h
  | 17, h => exact h
  | 18, h => exact (by obtain ⟨A1, c1, e, hq⟩ := h; exact ⟨A1, c1, e, hq.below hb⟩)
  | 19, h => exact h
  | 20, h => exact (by obtain ⟨A1, c1, e, hq⟩ := h; exact ⟨A1, c1, e, hq.below hb⟩)
  | 21, h => exact h
  | 22, h => exact h
  | 23, h => exact h
  | 24, h => exact h
  | 25, h => exact h
  | 26, h => exact h
  | 27, h => exact h
  | kq + 28, h => exact trivial
section
variable {A : Option Addr} {n c : Nat} {R : List Int} {A' : Option Addr} {n' c' : Nat} {R' : List Int}
set_option maxRecDepth 100000 in
set_option maxHeartbeats 16000000 in
theorem tellsD_any (T B T' B' x : Int) (w0 : World) (hT : DTab w0) (hn9 : n ≤ 9223372036854775807) (hq : n ≤ 130 → IsQ w0 A n c R) (hn9' : n' ≤ 9223372036854775807) (hq' : n' ≤ 130 → IsQ w0 A' n' c' R') (hx1 : -9223372036854775808 ≤ x) (hx2 : x ≤ 9223372036854775807) :
    Calls Tryd.prog 4 #[.agg #[.slice A n c, .int .i64 T, .int .i64 B], .agg #[.slice A' n' c', .int .i64 T', .int .i64 B'], .int .i64 x] w0 fun e w' => e = .returned (.bool true) ∧ Below w0.heap.size w0 w' := by
  have B0 := Lib.hid (Rws.start w0 (rows2 A n c T B A' n' c' T' B'))
  obtain ⟨wa, hwa⟩ : ∃ wa, wa = allocs w0 (rows2 A n c T B A' n' c' T' B') := ⟨_, rfl⟩
  rw [← hwa] at B0
  have HT := Lib.hid hT
  have CA := Lib.hid (awakeD_any wa (hT.via B0.out.bel))
  have HW : Hid (wa = (w0.alloc (.cells #[.slice A n c, .int .i64 T, .int .i64 B] 24)).alloc (.cells #[.slice A' n' c', .int .i64 T', .int .i64 B'] 24)) := Lib.hid hwa
  have HQ := Lib.hid hq
  have HQ' := Lib.hid hq'
  clear hwa hq hq' hT
  by_cases hbig : 130 < n ∨ 130 < n'
  · have HBG : Hid ((decide (130 < n) = true) ∨ (decide (130 < n) = false ∧ decide (130 < n') = true)) := Lib.hid (by
      by_cases h : 130 < n
      · exact .inl (decide_eq_true h)
      · exact .inr ⟨decide_eq_false h, decide_eq_true (hbig.resolve_left h)⟩)
    clear hbig
    rcases HBG.out with hd | ⟨hd, hd'⟩
    all_goals
      clear HBG
      go_enter Tryd.func4, Tryd.ntmps4
      go_wp2_with fail
      rw [← HW.out]
      refine CA.out.mono ?_
      rintro e w1 ⟨rfl, b1⟩
      have B1 := Lib.hid (B0.out.next b1)
      have CA1 := Lib.hid (awakeD_any w1 (HT.out.via B1.out.bel))
      clear b1 B0 CA HW
      have c00 := B1.out.cell 0 0 rfl rfl
      have c01 := B1.out.cell 0 1 rfl rfl
      have c02 := B1.out.cell 0 2 rfl rfl
      have c10 := B1.out.cell 1 0 rfl rfl
      have c11 := B1.out.cell 1 1 rfl rfl
      have c12 := B1.out.cell 1 2 rfl rfl
      simp only [Nat.add_zero] at c00 c01 c02
      simp at hd
      try simp at hd'
      go_wp2_with fail
      refine CA1.out.mono ?_
      rintro e w2 ⟨rfl, b2⟩
      have B2 := Lib.hid (B1.out.next b2)
      clear b2 B1 CA1
      go_wp2
      go_ret
      exact ⟨rfl, B2.out.bel⟩
  have hd : decide (130 < n) = false := decide_eq_false (fun h => hbig (.inl h))
  have hd' : decide (130 < n') = false := decide_eq_false (fun h => hbig (.inr h))
  have hq := HQ.out (Nat.le_of_not_lt fun h => hbig (.inl h))
  have hq' := HQ'.out (Nat.le_of_not_lt fun h => hbig (.inr h))
  have HI := Lib.hid hq
  have HI' := Lib.hid hq'
  have HN := Lib.hid hq.hn
  clear HQ HQ' hq hq' hn9 hn9' hbig
  simp at hd hd'
  go_enter Tryd.func4, Tryd.ntmps4
  go_wp2_with fail
  rw [← HW.out]
  refine CA.out.mono ?_
  rintro e w1 ⟨rfl, b1⟩
  have B1 := Lib.hid (B0.out.next b1)
  have CO := Lib.hid (ownD_any T B w1 (HI.out.below B1.out.bel))
  clear b1 B0 CA HW
  have c00 := B1.out.cell 0 0 rfl rfl
  have c01 := B1.out.cell 0 1 rfl rfl
  have c02 := B1.out.cell 0 2 rfl rfl
  have c10 := B1.out.cell 1 0 rfl rfl
  have c11 := B1.out.cell 1 1 rfl rfl
  have c12 := B1.out.cell 1 2 rfl rfl
  simp only [Nat.add_zero] at c00 c01 c02
  go_wp2_with fail
  refine CO.out.mono ?_
  rintro e w2 ⟨A2, c2, rfl, ho, hb⟩
  have B2 := Lib.hid (B1.out.next hb)
  have CP := Lib.hid (dpush_any T B x w2 ho.isQ (HT.out.via B2.out.bel))
  clear ho hb B1 CO
  clear c00 c01 c02 c10 c11 c12
  obtain ⟨t5, ht5⟩ : ∃ t5, t5 = pushT R.length T B := ⟨_, rfl⟩
  obtain ⟨b5, hb5⟩ : ∃ b5, b5 = pushB R.length T B := ⟨_, rfl⟩
  obtain ⟨e5, he5⟩ : ∃ e5, e5 = pushE R.length T B := ⟨_, rfl⟩
  obtain ⟨R5, hR5⟩ : ∃ R5, R5 = pushR R T B x := ⟨_, rfl⟩
  have HP : Hid (∀ (w : World) (e : Ending) (w' : World), GotPush R T B x w e w' → ∃ A' n' c', e = .returned (.tuple #[.agg #[.slice A' n' c', .int .i64 t5, .int .i64 b5], .int .i64 e5]) ∧ OwnQ w' w.heap.size A' n' c' R5 ∧ Below w.heap.size w w') := Lib.hid (by rw [ht5, hb5, he5, hR5]; exact fun w e w' h => h)
  clear ht5 hb5 he5 hR5
  go_wp2_with fail
  refine CP.out.mono ?_
  rintro e v3 hg
  obtain ⟨A5, n5, c5, rfl, ho, hb⟩ := HP.out _ _ _ hg
  obtain ⟨w3, hw⟩ : ∃ w3, w3 = v3.alloc (.cells #[.slice A5 n5 c5, .int .i64 t5, .int .i64 b5] 24) := ⟨_, rfl⟩
  obtain ⟨g7, hg7⟩ : ∃ g7, g7 = v3.heap.size := ⟨_, rfl⟩
  have hbb : Below w2.heap.size w2 w3 := by rw [hw]; exact hb.trans ((below_alloc _).mono hb.size)
  have X7 : Hid (RowV g7 24 [.slice A5 n5 c5, .int .i64 t5, .int .i64 b5] w3) := Lib.hid (by rw [hw, hg7]; exact RowV.new _ _ _)
  have K7 : Hid (IsQ w3 A5 n5 c5 R5) := Lib.hid (by rw [hw]; exact ho.isQ.below (below_alloc _))
  have B3 := Lib.hid (B2.out.next hbb)
  have CR := Lib.hid (rpush_any T B x w3 (HI.out.below B3.out.bel))
  have HW3 := Lib.hid hw
  have HG7 := Lib.hid hg7
  clear hw hg7 hbb ho hb hg CP B2
  go_upto_region 4 with fail
  rw [← HW3.out, ← HG7.out]
  clear HW3 HG7
  have c00 := B3.out.cell 0 0 rfl rfl
  have c01 := B3.out.cell 0 1 rfl rfl
  have c02 := B3.out.cell 0 2 rfl rfl
  have c10 := B3.out.cell 1 0 rfl rfl
  have c11 := B3.out.cell 1 1 rfl rfl
  have c12 := B3.out.cell 1 2 rfl rfl
  simp only [Nat.add_zero] at c00 c01 c02
  go_wp2_with fail
  refine CR.out.mono ?_
  rintro e v4 hg
  obtain ⟨A6, n6, c6, rfl, ho, hb⟩ := HP.out _ _ _ hg
  obtain ⟨w4, hw⟩ : ∃ w4, w4 = v4.alloc (.cells #[.slice A6 n6 c6, .int .i64 t5, .int .i64 b5] 24) := ⟨_, rfl⟩
  obtain ⟨g9, hg9⟩ : ∃ g9, g9 = v4.heap.size := ⟨_, rfl⟩
  have hbb : Below w3.heap.size w3 w4 := by rw [hw]; exact hb.trans ((below_alloc _).mono hb.size)
  have X9 : Hid (RowV g9 24 [.slice A6 n6 c6, .int .i64 t5, .int .i64 b5] w4) := Lib.hid (by rw [hw, hg9]; exact RowV.new _ _ _)
  have K9 : Hid (IsQ w4 A6 n6 c6 R5) := Lib.hid (by rw [hw]; exact ho.isQ.below (below_alloc _))
  have X7b := Lib.hid (X7.out.below hbb X7.out.lt)
  have K7b := Lib.hid (K7.out.below hbb)
  have B4 := Lib.hid (B3.out.next hbb)
  have CN := Lib.hid (dnew_any x w4 (HT.out.via B4.out.bel))
  have HW4 := Lib.hid hw
  have HG9 := Lib.hid hg9
  clear hw hg9 hbb ho hb hg CR B3 X7 K7
  clear c00 c01 c02 c10 c11 c12
  go_upto_region 5 with fail
  rw [← HW4.out, ← HG9.out]
  clear HW4 HG9
  go_wp2_with fail
  refine CN.out.mono ?_
  rintro e v5 ⟨A7, n7, c7, rfl, ho, hb⟩
  obtain ⟨gz, hgz⟩ : ∃ gz, gz = newEd x := ⟨_, rfl⟩
  have HGZ := Lib.hid hgz
  rw [← hgz]
  obtain ⟨w5, hw⟩ : ∃ w5, w5 = v5.alloc (.cells #[.slice A7 n7 c7, .int .i64 0, .int .i64 0] 24) := ⟨_, rfl⟩
  obtain ⟨g11, hg11⟩ : ∃ g11, g11 = v5.heap.size := ⟨_, rfl⟩
  have hbb : Below w4.heap.size w4 w5 := by rw [hw]; exact hb.trans ((below_alloc _).mono hb.size)
  have X11 : Hid (RowV g11 24 [.slice A7 n7 c7, .int .i64 0, .int .i64 0] w5) := Lib.hid (by rw [hw, hg11]; exact RowV.new _ _ _)
  have HN7 := Lib.hid ho.2.1
  have X7c := Lib.hid (X7b.out.below hbb X7b.out.lt)
  have K7c := Lib.hid (K7b.out.below hbb)
  have X9c := Lib.hid (X9.out.below hbb X9.out.lt)
  have K9c := Lib.hid (K9.out.below hbb)
  have B5 := Lib.hid (B4.out.next hbb)
  have CO2 := Lib.hid (ownD_any T B w5 (HI.out.below B5.out.bel))
  have HW5 := Lib.hid hw
  have HG11 := Lib.hid hg11
  clear hw hg11 hbb ho hb hgz CN B4 X7b K7b X9 K9
  go_upto_region 6 with fail
  rw [← HW5.out, ← HG11.out]
  clear HW5 HG11
  have c00 := B5.out.cell 0 0 rfl rfl
  have c01 := B5.out.cell 0 1 rfl rfl
  have c02 := B5.out.cell 0 2 rfl rfl
  have c10 := B5.out.cell 1 0 rfl rfl
  have c11 := B5.out.cell 1 1 rfl rfl
  have c12 := B5.out.cell 1 2 rfl rfl
  simp only [Nat.add_zero] at c00 c01 c02
  go_wp2_with fail
  refine CO2.out.mono ?_
  rintro e w6 ⟨A8, c8, rfl, ho, hb⟩
  have X11b := Lib.hid (X11.out.below hb X11.out.lt)
  have X7d := Lib.hid (X7c.out.below hb X7c.out.lt)
  have K7d := Lib.hid (K7c.out.below hb)
  have X9d := Lib.hid (X9c.out.below hb X9c.out.lt)
  have K9d := Lib.hid (K9c.out.below hb)
  have B6 := Lib.hid (B5.out.next hb)
  have CIT := Lib.hid (ditems_any T B w6 ho.isQ (HT.out.via B6.out.bel))
  clear ho hb CO2 B5 X7c K7c X9c K9c X11
  clear c00 c01 c02 c10 c11 c12
  go_wp2_with fail
  refine CIT.out.mono ?_
  rintro e w7 ⟨A9, n9, c9, rfl, ho, hb⟩
  have X11 := Lib.hid (X11b.out.below hb X11b.out.lt)
  have X7 := Lib.hid (X7d.out.below hb X7d.out.lt)
  have K7 := Lib.hid (K7d.out.below hb)
  have X9 := Lib.hid (X9d.out.below hb X9d.out.lt)
  have K9 := Lib.hid (K9d.out.below hb)
  have B7 := Lib.hid (B6.out.next hb)
  have HL := Lib.hid ho.isQ
  have HL9 := Lib.hid ho.2.1
  have CK := Lib.hid (rcheck_d A n c T B w7 HI.out.ln)
  obtain ⟨isb, hisb⟩ : ∃ isb, isb = decide (ChkQ n T B) := ⟨_, rfl⟩
  rw [← hisb] at CK
  have HIS := Lib.hid hisb
  clear ho hb hisb CIT B6 X7d K7d X9d K9d X11b
  have c00 := B7.out.cell 0 0 rfl rfl
  have c01 := B7.out.cell 0 1 rfl rfl
  have c02 := B7.out.cell 0 2 rfl rfl
  have c10 := B7.out.cell 1 0 rfl rfl
  have c11 := B7.out.cell 1 1 rfl rfl
  have c12 := B7.out.cell 1 2 rfl rfl
  simp only [Nat.add_zero] at c00 c01 c02
  go_wp2_with fail
  refine CK.out.mono ?_
  rintro e w8 ⟨rfl, hb⟩
  have X11q := Lib.hid (X11.out.below hb X11.out.lt)
  have X7q := Lib.hid (X7.out.below hb X7.out.lt)
  have K7q := Lib.hid (K7.out.below hb)
  have X9q := Lib.hid (X9.out.below hb X9.out.lt)
  have K9q := Lib.hid (K9.out.below hb)
  have B8 := Lib.hid (B7.out.next hb)
  have HLq := Lib.hid (HL.out.below hb)
  clear hb CK B7 X7 K7 X9 K9 X11 HL
  clear c00 c01 c02 c10 c11 c12
  go_upto_region 8 with fail
  have HZ : Hid ((SizeOk x ∧ gz = 0 ∧ (n7 : Int) = x) ∨ (¬ SizeOk x ∧ gz = 120 ∧ n7 = 0)) := Lib.hid (by
    have h1 := HGZ.out
    have h2 := HN7.out
    unfold newEd at h1
    unfold newRd at h2
    by_cases h : SizeOk x
    · rw [if_pos h] at h1 h2
      have := h.bounds
      rw [List.length_replicate] at h2
      exact .inl ⟨h, h1, by omega⟩
    · rw [if_neg h] at h1 h2
      exact .inr ⟨h, h1, h2.symm⟩)
  clear HGZ HN7
  have HCB : Hid (chkQE n T B = if isb = true then 0 else 120) := Lib.hid (by
    rw [HIS.out]
    unfold chkQE
    by_cases h : ChkQ n T B
    · rw [if_pos h, if_pos (decide_eq_true h)]
    · rw [if_neg h, if_neg (fun q => h (of_decide_eq_true q))])
  obtain ⟨sb, hsb⟩ : ∃ sb, sb = decide (SameQ R T B R' T' B') := ⟨_, rfl⟩
  have HSB := Lib.hid hsb.symm
  clear hsb
  cases isb
  case true =>
    have hc : ChkQ n T B := of_decide_eq_true HIS.out.symm
    have CRI := Lib.hid (ritems_any T B w8 (HI.out.below B8.out.bel) hc)
    have HEQ : Hid (itemsE R T B = itemsD R T B) := Lib.hid (by unfold itemsE; rw [HN.out, if_pos hc])
    have hlen : (itemsD R T B).length ≤ 1000 := by have := hc.1.bounds; have := hc.2.2.2.2; rw [itemsD_len]; omega
    have HLN := Lib.hid hlen
    clear hc hlen
    have c00 := B8.out.cell 0 0 rfl rfl
    have c01 := B8.out.cell 0 1 rfl rfl
    have c02 := B8.out.cell 0 2 rfl rfl
    have c10 := B8.out.cell 1 0 rfl rfl
    have c11 := B8.out.cell 1 1 rfl rfl
    have c12 := B8.out.cell 1 2 rfl rfl
    simp only [Nat.add_zero] at c00 c01 c02
    go_wp2_with fail
    refine CRI.out.mono ?_
    rintro e w9 ⟨A10, n10, cc10, rfl, ho, hb⟩
    rw [HEQ.out] at HL9
    obtain rfl : n9 = n10 := HL9.out.symm.trans ho.2.1
    have hl := HLq.out.below hb
    rw [HEQ.out] at hl
    have CI := ints_any w9.heap.size A9 A10 c9 cc10 (itemsD R T B) (itemsD R T B) w9 HLN.out HLN.out hl.ints ho.isQ.ints
    rw [decide_eq_true (show itemsD R T B = itemsD R T B from rfl), HL9.out] at CI
    have HCI := Lib.hid CI
    have X11s := Lib.hid (X11q.out.below hb X11q.out.lt)
    have X7s := Lib.hid (X7q.out.below hb X7q.out.lt)
    have K7s := Lib.hid (K7q.out.below hb)
    have X9s := Lib.hid (X9q.out.below hb X9q.out.lt)
    have K9s := Lib.hid (K9q.out.below hb)
    have B9 := Lib.hid (B8.out.next hb)
    clear ho hb hl CI CRI HEQ HLN HLq HL9
    clear c00 c01 c02 c10 c11 c12
    go_wp2_with fail
    refine HCI.out.mono ?_
    rintro e w10 ⟨rfl, N, hdr⟩
    have hb : Below w9.heap.size w9 w10 := by rw [hdr]; exact below_drewN (Below.refl _ _) N
    have X11r := Lib.hid (X11s.out.below hb X11s.out.lt)
    have X7r := Lib.hid (X7s.out.below hb X7s.out.lt)
    have K7r := Lib.hid (K7s.out.below hb)
    have X9r := Lib.hid (X9s.out.below hb X9s.out.lt)
    have K9r := Lib.hid (K9s.out.below hb)
    have B10 := Lib.hid (B9.out.next hb)
    have CSZ := Lib.hid (rsize_any x w10)
    clear hdr hb HCI
    rcases HZ.out with ⟨hs, rfl, hn7⟩ | ⟨hs, rfl, rfl⟩
    · rw [decide_eq_true hs] at CSZ
      have hnb : ((n7 : Int) != x) = false := by simp [hn7]
      clear hs hn7 HZ
      have k0 := X11r.out.cell (j := 0) rfl
      have k1 := X11r.out.cell (j := 1) rfl
      have k2 := X11r.out.cell (j := 2) rfl
      go_wp2_with fail
      refine CSZ.out.mono ?_
      rintro e w11 ⟨rfl, rfl⟩
      clear CSZ
      go_upto_region 12 with fail
      clear k0 k1 k2
      refine wp_region_facts' [110, 111, 112, 113, 114, 115, 116, 117, 118, 119, 120, 121, 122, 123, 124, 125, 126, 127, 128, 129, 130, 131, 132, 133, 134, 135, 136, 6] [] [(3, true), (8, true), (16, true)] (by kernel_rfl) (by kernel_rfl) (by kernel_rfl) (by intro d hd; simp at hd ⊢; omega) (fun z => Rws w0 (rows2 A n c T B A' n' c' T' B') z ∧ RowV g7 24 [.slice A5 n5 c5, .int .i64 t5, .int .i64 b5] z ∧ RowV g9 24 [.slice A6 n6 c6, .int .i64 t5, .int .i64 b5] z ∧ IsQ z A5 n5 c5 R5 ∧ IsQ z A6 n6 c6 R5) (PhiTl A n c R T B A' n' c' R' T' B' A5 n5 c5 A6 n6 c6 t5 b5 e5 true sb)
        (fun z z' h hb => ⟨h.1.next hb, h.2.1.below hb h.2.1.lt, h.2.2.1.below hb h.2.2.1.lt, h.2.2.2.1.below hb, h.2.2.2.2.below hb⟩) (phiTl_below A n c R T B A' n' c' R' T' B' A5 n5 c5 A6 n6 c6 t5 b5 e5 true sb) (⟨B10.out.drew 1, X7r.out.drewN 1, X9r.out.drewN 1, K7r.out.below (Below.refl _ _).drew, K9r.out.below (Below.refl _ _).drew⟩) (fun p hp v w hv => by
          simp only [List.mem_cons, List.not_mem_nil, or_false] at hp
          rcases hp with rfl | rfl | rfl <;> exact hv) (fun kq hkq => by simp at hkq) ?hstep ?hend
      case hstep =>
        intro kq o ho hw a w hI hA hd K hK
        obtain ⟨ρ, hρ⟩ : ∃ ρ, a.eval = ρ := ⟨_, rfl⟩
        rw [hρ] at hA hd
        match kq, ho with
        | 0, ho =>
          have hoo := Option.some.inj ho
          subst hoo
          have h0 := hI.2.1.cell (j := 0) rfl
          have h1 := hI.2.1.cell (j := 1) rfl
          have h2 := hI.2.1.cell (j := 2) rfl
          have hs := hA.tmp 7 (by decide)
          exact fx_val hK hρ (.agg #[.slice A5 n5 c5, .int .i64 t5, .int .i64 b5]) (by simp [execOp, hs, h0, h1, h2, go_sem]) rfl
        | 1, ho =>
          have hoo := Option.some.inj ho
          subst hoo
          have h0 := hI.2.2.1.cell (j := 0) rfl
          have h1 := hI.2.2.1.cell (j := 1) rfl
          have h2 := hI.2.2.1.cell (j := 2) rfl
          have hs := hA.tmp 9 (by decide)
          exact fx_val hK hρ (.agg #[.slice A6 n6 c6, .int .i64 t5, .int .i64 b5]) (by simp [execOp, hs, h0, h1, h2, go_sem]) rfl
        | 2, ho =>
          have hoo := Option.some.inj ho
          subst hoo
          have f0 : (ρ (.tmp 110)) = .agg #[.slice A5 n5 c5, .int .i64 t5, .int .i64 b5] := hd ⟨0, .data⟩ (by simp) (by rfl)
          have f1 : (ρ (.tmp 111)) = .agg #[.slice A6 n6 c6, .int .i64 t5, .int .i64 b5] := hd ⟨1, .data⟩ (by simp) (by rfl)
          exact fx_call hK hρ 14 _ _ #[.agg #[.slice A5 n5 c5, .int .i64 t5, .int .i64 b5], .agg #[.slice A6 n6 c6, .int .i64 t5, .int .i64 b5]] rfl (by simp only [List.map_toArray, List.map_cons, List.map_nil, hA.const, f0, f1]) (eg_of Tryd.func14 (by kernel_rfl) rfl) ((rsame_d t5 b5 t5 b5 w hI.2.2.2.1 hI.2.2.2.2).mono fun e w' ⟨he, hb⟩ => ⟨_, he, by rw [decide_eq_true (show SameQ R5 t5 b5 R5 t5 b5 from ⟨rfl, rfl, rfl⟩)]; rfl, hb⟩)
        | 3, ho =>
          have hoo := Option.some.inj ho
          subst hoo
          have f2 : (ρ (.tmp 112)) = .bool true := hd ⟨2, .data⟩ (by simp) (by rfl)
          exact fx_val hK hρ (.bool true) (by simp [execOp, f2, hA.const, go_sem]) rfl
        | 4, ho =>
          have hoo := Option.some.inj ho
          subst hoo
          exact fx_val hK hρ (.int .i64 e5) (by have h := hA.tmp 8 (by decide); simp [execOp, h, go_sem]) rfl
        | 5, ho =>
          have hoo := Option.some.inj ho
          subst hoo
          exact fx_val hK hρ (.int .i64 e5) (by have h := hA.tmp 10 (by decide); simp [execOp, h, go_sem]) rfl
        | 6, ho =>
          have hoo := Option.some.inj ho
          subst hoo
          have f4 : (ρ (.tmp 114)) = .int .i64 e5 := hd ⟨4, .data⟩ (by simp) (by rfl)
          have f5 : (ρ (.tmp 115)) = .int .i64 e5 := hd ⟨5, .data⟩ (by simp) (by rfl)
          exact fx_val hK hρ (.bool true) (by simp [execOp, f4, f5, hA.const, go_sem]) rfl
        | 7, ho =>
          have hoo := Option.some.inj ho
          subst hoo
          have f3 : (ρ (.tmp 113)) = .bool true := hd ⟨3, .data⟩ (by simp) (by rfl)
          have f6 : (ρ (.tmp 116)) = .bool true := hd ⟨6, .data⟩ (by simp) (by rfl)
          exact fx_val hK hρ (.bool true) (by simp [execOp, f3, f6, hA.const, go_sem]) rfl
        | 8, ho =>
          have hoo := Option.some.inj ho
          subst hoo
          have f7 : (ρ (.tmp 117)) = .bool true := hd ⟨7, .data⟩ (by simp) (by rfl)
          exact fx_val hK hρ (.bool true) (by simp [execOp, f7, hA.const, go_sem]) rfl
        | 9, ho =>
          have hoo := Option.some.inj ho
          subst hoo
          have h0 := hI.1.cell 0 0 rfl rfl
          have h1 := hI.1.cell 0 1 rfl rfl
          have h2 := hI.1.cell 0 2 rfl rfl
          simp only [Nat.add_zero] at h0 h1 h2
          have hs := hA.tmp 3 (by decide)
          exact fx_val hK hρ (.agg #[.slice A n c, .int .i64 T, .int .i64 B]) (by simp [execOp, hs, h0, h1, h2, go_sem]) rfl
        | 10, ho =>
          have hoo := Option.some.inj ho
          subst hoo
          have f9 : (ρ (.tmp 119)) = .agg #[.slice A n c, .int .i64 T, .int .i64 B] := hd ⟨9, .data⟩ (by simp) (by rfl)
          exact fx_call hK hρ 10 _ _ #[.agg #[.slice A n c, .int .i64 T, .int .i64 B]] rfl (by simp only [List.map_toArray, List.map_cons, List.map_nil, hA.const, f9]) (eg_of Tryd.func10 (by kernel_rfl) rfl) ((ownD_any T B w (HI.out.below hI.1.bel)).mono fun e w' ⟨A1, c1, he, ho, hb⟩ => ⟨_, he, ⟨A1, c1, rfl, ho.isQ⟩, hb⟩)
        | 11, ho =>
          have hoo := Option.some.inj ho
          subst hoo
          have f10 : ∃ A1 c1, (ρ (.tmp 120)) = .agg #[.slice A1 n c1, .int .i64 T, .int .i64 B] ∧ IsQ w A1 n c1 R := hd ⟨10, .data⟩ (by simp) (by rfl)
          obtain ⟨A1, c1, e1, hq1⟩ := f10
          exact fx_call hK hρ 23 _ _ #[.agg #[.slice A1 n c1, .int .i64 T, .int .i64 B]] rfl (by simp only [List.map_toArray, List.map_cons, List.map_nil, hA.const, e1]) (eg_of Tryd.func23 (by kernel_rfl) rfl) ((dcheck_any A1 n c1 T B w hq1.ln (HT.out.via hI.1.bel)).mono fun e w' ⟨he, hb⟩ => ⟨_, he, rfl, hb⟩)
        | 12, ho =>
          have hoo := Option.some.inj ho
          subst hoo
          have f11 : (ρ (.tmp 121)) = .int .i64 (chkQE n T B) := hd ⟨11, .data⟩ (by simp) (by rfl)
          rw [HCB.out] at f11
          exact fx_val hK hρ (.bool true) (by simp [execOp, f11, hA.const, go_sem]) rfl
        | 13, ho =>
          have hoo := Option.some.inj ho
          subst hoo
          exact fx_val hK hρ (.bool true) (by have h := hA.tmp 14 (by decide); simp [execOp, h, go_sem]) rfl
        | 14, ho =>
          have hoo := Option.some.inj ho
          subst hoo
          have f12 : (ρ (.tmp 122)) = .bool true := hd ⟨12, .data⟩ (by simp) (by rfl)
          have f13 : (ρ (.tmp 123)) = .bool true := hd ⟨13, .data⟩ (by simp) (by rfl)
          exact fx_val hK hρ (.bool true) (by simp [execOp, f12, f13, hA.const, go_sem]) rfl
        | 15, ho =>
          have hoo := Option.some.inj ho
          subst hoo
          have f8 : (ρ (.tmp 118)) = .bool true := hd ⟨8, .data⟩ (by simp) (by rfl)
          have f14 : (ρ (.tmp 124)) = .bool true := hd ⟨14, .data⟩ (by simp) (by rfl)
          exact fx_val hK hρ (.bool true) (by simp [execOp, f8, f14, hA.const, go_sem]) rfl
        | 16, ho =>
          have hoo := Option.some.inj ho
          subst hoo
          have f15 : (ρ (.tmp 125)) = .bool true := hd ⟨15, .data⟩ (by simp) (by rfl)
          exact fx_val hK hρ (.bool true) (by simp [execOp, f15, hA.const, go_sem]) rfl
        | 17, ho =>
          have hoo := Option.some.inj ho
          subst hoo
          have h0 := hI.1.cell 0 0 rfl rfl
          have h1 := hI.1.cell 0 1 rfl rfl
          have h2 := hI.1.cell 0 2 rfl rfl
          simp only [Nat.add_zero] at h0 h1 h2
          have hs := hA.tmp 3 (by decide)
          exact fx_val hK hρ (.agg #[.slice A n c, .int .i64 T, .int .i64 B]) (by simp [execOp, hs, h0, h1, h2, go_sem]) rfl
        | 18, ho =>
          have hoo := Option.some.inj ho
          subst hoo
          have f17 : (ρ (.tmp 127)) = .agg #[.slice A n c, .int .i64 T, .int .i64 B] := hd ⟨17, .data⟩ (by simp) (by rfl)
          exact fx_call hK hρ 10 _ _ #[.agg #[.slice A n c, .int .i64 T, .int .i64 B]] rfl (by simp only [List.map_toArray, List.map_cons, List.map_nil, hA.const, f17]) (eg_of Tryd.func10 (by kernel_rfl) rfl) ((ownD_any T B w (HI.out.below hI.1.bel)).mono fun e w' ⟨A1, c1, he, ho, hb⟩ => ⟨_, he, ⟨A1, c1, rfl, ho.isQ⟩, hb⟩)
        | 19, ho =>
          have hoo := Option.some.inj ho
          subst hoo
          have h0 := hI.1.cell 1 0 rfl rfl
          have h1 := hI.1.cell 1 1 rfl rfl
          have h2 := hI.1.cell 1 2 rfl rfl
          have hs := hA.tmp 4 (by decide)
          exact fx_val hK hρ (.agg #[.slice A' n' c', .int .i64 T', .int .i64 B']) (by simp [execOp, hs, h0, h1, h2, go_sem]) rfl
        | 20, ho =>
          have hoo := Option.some.inj ho
          subst hoo
          have f19 : (ρ (.tmp 129)) = .agg #[.slice A' n' c', .int .i64 T', .int .i64 B'] := hd ⟨19, .data⟩ (by simp) (by rfl)
          exact fx_call hK hρ 10 _ _ #[.agg #[.slice A' n' c', .int .i64 T', .int .i64 B']] rfl (by simp only [List.map_toArray, List.map_cons, List.map_nil, hA.const, f19]) (eg_of Tryd.func10 (by kernel_rfl) rfl) ((ownD_any T' B' w (HI'.out.below hI.1.bel)).mono fun e w' ⟨A1, c1, he, ho, hb⟩ => ⟨_, he, ⟨A1, c1, rfl, ho.isQ⟩, hb⟩)
        | 21, ho =>
          have hoo := Option.some.inj ho
          subst hoo
          have f18 : ∃ A1 c1, (ρ (.tmp 128)) = .agg #[.slice A1 n c1, .int .i64 T, .int .i64 B] ∧ IsQ w A1 n c1 R := hd ⟨18, .data⟩ (by simp) (by rfl)
          have f20 : ∃ A1 c1, (ρ (.tmp 130)) = .agg #[.slice A1 n' c1, .int .i64 T', .int .i64 B'] ∧ IsQ w A1 n' c1 R' := hd ⟨20, .data⟩ (by simp) (by rfl)
          obtain ⟨A1, c1, e1, hq1⟩ := f18
          obtain ⟨A2, c2, e2, hq2⟩ := f20
          exact fx_call hK hρ 24 _ _ #[.agg #[.slice A1 n c1, .int .i64 T, .int .i64 B], .agg #[.slice A2 n' c2, .int .i64 T', .int .i64 B']] rfl (by simp only [List.map_toArray, List.map_cons, List.map_nil, hA.const, e1, e2]) (eg_of Tryd.func24 (by kernel_rfl) rfl) ((dsame_d T B T' B' w hq1 hq2).mono fun e w' ⟨he, hb⟩ => ⟨_, he, by rw [HSB.out]; rfl, hb⟩)
        | 22, ho =>
          have hoo := Option.some.inj ho
          subst hoo
          have h0 := hI.1.cell 0 0 rfl rfl
          have h1 := hI.1.cell 0 1 rfl rfl
          have h2 := hI.1.cell 0 2 rfl rfl
          simp only [Nat.add_zero] at h0 h1 h2
          have hs := hA.tmp 3 (by decide)
          exact fx_val hK hρ (.agg #[.slice A n c, .int .i64 T, .int .i64 B]) (by simp [execOp, hs, h0, h1, h2, go_sem]) rfl
        | 23, ho =>
          have hoo := Option.some.inj ho
          subst hoo
          have h0 := hI.1.cell 1 0 rfl rfl
          have h1 := hI.1.cell 1 1 rfl rfl
          have h2 := hI.1.cell 1 2 rfl rfl
          have hs := hA.tmp 4 (by decide)
          exact fx_val hK hρ (.agg #[.slice A' n' c', .int .i64 T', .int .i64 B']) (by simp [execOp, hs, h0, h1, h2, go_sem]) rfl
        | 24, ho =>
          have hoo := Option.some.inj ho
          subst hoo
          have f22 : (ρ (.tmp 132)) = .agg #[.slice A n c, .int .i64 T, .int .i64 B] := hd ⟨22, .data⟩ (by simp) (by rfl)
          have f23 : (ρ (.tmp 133)) = .agg #[.slice A' n' c', .int .i64 T', .int .i64 B'] := hd ⟨23, .data⟩ (by simp) (by rfl)
          exact fx_call hK hρ 14 _ _ #[.agg #[.slice A n c, .int .i64 T, .int .i64 B], .agg #[.slice A' n' c', .int .i64 T', .int .i64 B']] rfl (by simp only [List.map_toArray, List.map_cons, List.map_nil, hA.const, f22, f23]) (eg_of Tryd.func14 (by kernel_rfl) rfl) ((rsame_d T B T' B' w (HI.out.below hI.1.bel) (HI'.out.below hI.1.bel)).mono fun e w' ⟨he, hb⟩ => ⟨_, he, by rw [HSB.out]; rfl, hb⟩)
        | 25, ho =>
          have hoo := Option.some.inj ho
          subst hoo
          have f21 : (ρ (.tmp 131)) = .bool sb := hd ⟨21, .data⟩ (by simp) (by rfl)
          have f24 : (ρ (.tmp 134)) = .bool sb := hd ⟨24, .data⟩ (by simp) (by rfl)
          exact fx_val hK hρ (.bool true) (by cases sb <;> simp [execOp, f21, f24, hA.const, go_sem]) rfl
        | 26, ho =>
          have hoo := Option.some.inj ho
          subst hoo
          have f16 : (ρ (.tmp 126)) = .bool true := hd ⟨16, .data⟩ (by simp) (by rfl)
          have f25 : (ρ (.tmp 135)) = .bool true := hd ⟨25, .data⟩ (by simp) (by rfl)
          exact fx_val hK hρ (.bool true) (by simp [execOp, f16, f25, hA.const, go_sem]) rfl
        | 27, ho =>
          have hoo := Option.some.inj ho
          subst hoo
          have f26 : (ρ (.tmp 136)) = .bool true := hd ⟨26, .data⟩ (by simp) (by rfl)
          exact fx_val hK hρ (.bool true) (by simp [execOp, f26, hA.const, go_sem]) rfl
        | kq + 28, ho => simp at ho
      case hend =>
        intro vals xw hI hF
        have h27 := hF 27 (by decide)
        have h27b : vals 6 = .bool true := h27
        have BF := Lib.hid hI.1
        clear hF h27 hI
        simp only [fillA, fillL, List.contains_cons, List.contains_nil, Nat.reduceBEq, Bool.or_false, Bool.false_or, Bool.or_true, Bool.true_or, cond_true, cond_false, Nat.zero_add, Nat.reduceAdd]
        rw [h27b]
        go_wp2
        go_ret
        exact ⟨rfl, BF.out.bel⟩
    · rw [decide_eq_false hs] at CSZ
      clear hs HZ
      have k0 := X11r.out.cell (j := 0) rfl
      have k1 := X11r.out.cell (j := 1) rfl
      have k2 := X11r.out.cell (j := 2) rfl
      go_wp2_with fail
      refine CSZ.out.mono ?_
      rintro e w11 ⟨rfl, rfl⟩
      clear CSZ
      go_upto_region 12 with fail
      clear k0 k1 k2
      refine wp_region_facts' [110, 111, 112, 113, 114, 115, 116, 117, 118, 119, 120, 121, 122, 123, 124, 125, 126, 127, 128, 129, 130, 131, 132, 133, 134, 135, 136, 6] [] [(3, true), (8, true), (16, true)] (by kernel_rfl) (by kernel_rfl) (by kernel_rfl) (by intro d hd; simp at hd ⊢; omega) (fun z => Rws w0 (rows2 A n c T B A' n' c' T' B') z ∧ RowV g7 24 [.slice A5 n5 c5, .int .i64 t5, .int .i64 b5] z ∧ RowV g9 24 [.slice A6 n6 c6, .int .i64 t5, .int .i64 b5] z ∧ IsQ z A5 n5 c5 R5 ∧ IsQ z A6 n6 c6 R5) (PhiTl A n c R T B A' n' c' R' T' B' A5 n5 c5 A6 n6 c6 t5 b5 e5 true sb)
        (fun z z' h hb => ⟨h.1.next hb, h.2.1.below hb h.2.1.lt, h.2.2.1.below hb h.2.2.1.lt, h.2.2.2.1.below hb, h.2.2.2.2.below hb⟩) (phiTl_below A n c R T B A' n' c' R' T' B' A5 n5 c5 A6 n6 c6 t5 b5 e5 true sb) (⟨B10.out.drew 1, X7r.out.drewN 1, X9r.out.drewN 1, K7r.out.below (Below.refl _ _).drew, K9r.out.below (Below.refl _ _).drew⟩) (fun p hp v w hv => by
          simp only [List.mem_cons, List.not_mem_nil, or_false] at hp
          rcases hp with rfl | rfl | rfl <;> exact hv) (fun kq hkq => by simp at hkq) ?hstep ?hend
      case hstep =>
        intro kq o ho hw a w hI hA hd K hK
        obtain ⟨ρ, hρ⟩ : ∃ ρ, a.eval = ρ := ⟨_, rfl⟩
        rw [hρ] at hA hd
        match kq, ho with
        | 0, ho =>
          have hoo := Option.some.inj ho
          subst hoo
          have h0 := hI.2.1.cell (j := 0) rfl
          have h1 := hI.2.1.cell (j := 1) rfl
          have h2 := hI.2.1.cell (j := 2) rfl
          have hs := hA.tmp 7 (by decide)
          exact fx_val hK hρ (.agg #[.slice A5 n5 c5, .int .i64 t5, .int .i64 b5]) (by simp [execOp, hs, h0, h1, h2, go_sem]) rfl
        | 1, ho =>
          have hoo := Option.some.inj ho
          subst hoo
          have h0 := hI.2.2.1.cell (j := 0) rfl
          have h1 := hI.2.2.1.cell (j := 1) rfl
          have h2 := hI.2.2.1.cell (j := 2) rfl
          have hs := hA.tmp 9 (by decide)
          exact fx_val hK hρ (.agg #[.slice A6 n6 c6, .int .i64 t5, .int .i64 b5]) (by simp [execOp, hs, h0, h1, h2, go_sem]) rfl
        | 2, ho =>
          have hoo := Option.some.inj ho
          subst hoo
          have f0 : (ρ (.tmp 110)) = .agg #[.slice A5 n5 c5, .int .i64 t5, .int .i64 b5] := hd ⟨0, .data⟩ (by simp) (by rfl)
          have f1 : (ρ (.tmp 111)) = .agg #[.slice A6 n6 c6, .int .i64 t5, .int .i64 b5] := hd ⟨1, .data⟩ (by simp) (by rfl)
          exact fx_call hK hρ 14 _ _ #[.agg #[.slice A5 n5 c5, .int .i64 t5, .int .i64 b5], .agg #[.slice A6 n6 c6, .int .i64 t5, .int .i64 b5]] rfl (by simp only [List.map_toArray, List.map_cons, List.map_nil, hA.const, f0, f1]) (eg_of Tryd.func14 (by kernel_rfl) rfl) ((rsame_d t5 b5 t5 b5 w hI.2.2.2.1 hI.2.2.2.2).mono fun e w' ⟨he, hb⟩ => ⟨_, he, by rw [decide_eq_true (show SameQ R5 t5 b5 R5 t5 b5 from ⟨rfl, rfl, rfl⟩)]; rfl, hb⟩)
        | 3, ho =>
          have hoo := Option.some.inj ho
          subst hoo
          have f2 : (ρ (.tmp 112)) = .bool true := hd ⟨2, .data⟩ (by simp) (by rfl)
          exact fx_val hK hρ (.bool true) (by simp [execOp, f2, hA.const, go_sem]) rfl
        | 4, ho =>
          have hoo := Option.some.inj ho
          subst hoo
          exact fx_val hK hρ (.int .i64 e5) (by have h := hA.tmp 8 (by decide); simp [execOp, h, go_sem]) rfl
        | 5, ho =>
          have hoo := Option.some.inj ho
          subst hoo
          exact fx_val hK hρ (.int .i64 e5) (by have h := hA.tmp 10 (by decide); simp [execOp, h, go_sem]) rfl
        | 6, ho =>
          have hoo := Option.some.inj ho
          subst hoo
          have f4 : (ρ (.tmp 114)) = .int .i64 e5 := hd ⟨4, .data⟩ (by simp) (by rfl)
          have f5 : (ρ (.tmp 115)) = .int .i64 e5 := hd ⟨5, .data⟩ (by simp) (by rfl)
          exact fx_val hK hρ (.bool true) (by simp [execOp, f4, f5, hA.const, go_sem]) rfl
        | 7, ho =>
          have hoo := Option.some.inj ho
          subst hoo
          have f3 : (ρ (.tmp 113)) = .bool true := hd ⟨3, .data⟩ (by simp) (by rfl)
          have f6 : (ρ (.tmp 116)) = .bool true := hd ⟨6, .data⟩ (by simp) (by rfl)
          exact fx_val hK hρ (.bool true) (by simp [execOp, f3, f6, hA.const, go_sem]) rfl
        | 8, ho =>
          have hoo := Option.some.inj ho
          subst hoo
          have f7 : (ρ (.tmp 117)) = .bool true := hd ⟨7, .data⟩ (by simp) (by rfl)
          exact fx_val hK hρ (.bool true) (by simp [execOp, f7, hA.const, go_sem]) rfl
        | 9, ho =>
          have hoo := Option.some.inj ho
          subst hoo
          have h0 := hI.1.cell 0 0 rfl rfl
          have h1 := hI.1.cell 0 1 rfl rfl
          have h2 := hI.1.cell 0 2 rfl rfl
          simp only [Nat.add_zero] at h0 h1 h2
          have hs := hA.tmp 3 (by decide)
          exact fx_val hK hρ (.agg #[.slice A n c, .int .i64 T, .int .i64 B]) (by simp [execOp, hs, h0, h1, h2, go_sem]) rfl
        | 10, ho =>
          have hoo := Option.some.inj ho
          subst hoo
          have f9 : (ρ (.tmp 119)) = .agg #[.slice A n c, .int .i64 T, .int .i64 B] := hd ⟨9, .data⟩ (by simp) (by rfl)
          exact fx_call hK hρ 10 _ _ #[.agg #[.slice A n c, .int .i64 T, .int .i64 B]] rfl (by simp only [List.map_toArray, List.map_cons, List.map_nil, hA.const, f9]) (eg_of Tryd.func10 (by kernel_rfl) rfl) ((ownD_any T B w (HI.out.below hI.1.bel)).mono fun e w' ⟨A1, c1, he, ho, hb⟩ => ⟨_, he, ⟨A1, c1, rfl, ho.isQ⟩, hb⟩)
        | 11, ho =>
          have hoo := Option.some.inj ho
          subst hoo
          have f10 : ∃ A1 c1, (ρ (.tmp 120)) = .agg #[.slice A1 n c1, .int .i64 T, .int .i64 B] ∧ IsQ w A1 n c1 R := hd ⟨10, .data⟩ (by simp) (by rfl)
          obtain ⟨A1, c1, e1, hq1⟩ := f10
          exact fx_call hK hρ 23 _ _ #[.agg #[.slice A1 n c1, .int .i64 T, .int .i64 B]] rfl (by simp only [List.map_toArray, List.map_cons, List.map_nil, hA.const, e1]) (eg_of Tryd.func23 (by kernel_rfl) rfl) ((dcheck_any A1 n c1 T B w hq1.ln (HT.out.via hI.1.bel)).mono fun e w' ⟨he, hb⟩ => ⟨_, he, rfl, hb⟩)
        | 12, ho =>
          have hoo := Option.some.inj ho
          subst hoo
          have f11 : (ρ (.tmp 121)) = .int .i64 (chkQE n T B) := hd ⟨11, .data⟩ (by simp) (by rfl)
          rw [HCB.out] at f11
          exact fx_val hK hρ (.bool true) (by simp [execOp, f11, hA.const, go_sem]) rfl
        | 13, ho =>
          have hoo := Option.some.inj ho
          subst hoo
          exact fx_val hK hρ (.bool true) (by have h := hA.tmp 14 (by decide); simp [execOp, h, go_sem]) rfl
        | 14, ho =>
          have hoo := Option.some.inj ho
          subst hoo
          have f12 : (ρ (.tmp 122)) = .bool true := hd ⟨12, .data⟩ (by simp) (by rfl)
          have f13 : (ρ (.tmp 123)) = .bool true := hd ⟨13, .data⟩ (by simp) (by rfl)
          exact fx_val hK hρ (.bool true) (by simp [execOp, f12, f13, hA.const, go_sem]) rfl
        | 15, ho =>
          have hoo := Option.some.inj ho
          subst hoo
          have f8 : (ρ (.tmp 118)) = .bool true := hd ⟨8, .data⟩ (by simp) (by rfl)
          have f14 : (ρ (.tmp 124)) = .bool true := hd ⟨14, .data⟩ (by simp) (by rfl)
          exact fx_val hK hρ (.bool true) (by simp [execOp, f8, f14, hA.const, go_sem]) rfl
        | 16, ho =>
          have hoo := Option.some.inj ho
          subst hoo
          have f15 : (ρ (.tmp 125)) = .bool true := hd ⟨15, .data⟩ (by simp) (by rfl)
          exact fx_val hK hρ (.bool true) (by simp [execOp, f15, hA.const, go_sem]) rfl
        | 17, ho =>
          have hoo := Option.some.inj ho
          subst hoo
          have h0 := hI.1.cell 0 0 rfl rfl
          have h1 := hI.1.cell 0 1 rfl rfl
          have h2 := hI.1.cell 0 2 rfl rfl
          simp only [Nat.add_zero] at h0 h1 h2
          have hs := hA.tmp 3 (by decide)
          exact fx_val hK hρ (.agg #[.slice A n c, .int .i64 T, .int .i64 B]) (by simp [execOp, hs, h0, h1, h2, go_sem]) rfl
        | 18, ho =>
          have hoo := Option.some.inj ho
          subst hoo
          have f17 : (ρ (.tmp 127)) = .agg #[.slice A n c, .int .i64 T, .int .i64 B] := hd ⟨17, .data⟩ (by simp) (by rfl)
          exact fx_call hK hρ 10 _ _ #[.agg #[.slice A n c, .int .i64 T, .int .i64 B]] rfl (by simp only [List.map_toArray, List.map_cons, List.map_nil, hA.const, f17]) (eg_of Tryd.func10 (by kernel_rfl) rfl) ((ownD_any T B w (HI.out.below hI.1.bel)).mono fun e w' ⟨A1, c1, he, ho, hb⟩ => ⟨_, he, ⟨A1, c1, rfl, ho.isQ⟩, hb⟩)
        | 19, ho =>
          have hoo := Option.some.inj ho
          subst hoo
          have h0 := hI.1.cell 1 0 rfl rfl
          have h1 := hI.1.cell 1 1 rfl rfl
          have h2 := hI.1.cell 1 2 rfl rfl
          have hs := hA.tmp 4 (by decide)
          exact fx_val hK hρ (.agg #[.slice A' n' c', .int .i64 T', .int .i64 B']) (by simp [execOp, hs, h0, h1, h2, go_sem]) rfl
        | 20, ho =>
          have hoo := Option.some.inj ho
          subst hoo
          have f19 : (ρ (.tmp 129)) = .agg #[.slice A' n' c', .int .i64 T', .int .i64 B'] := hd ⟨19, .data⟩ (by simp) (by rfl)
          exact fx_call hK hρ 10 _ _ #[.agg #[.slice A' n' c', .int .i64 T', .int .i64 B']] rfl (by simp only [List.map_toArray, List.map_cons, List.map_nil, hA.const, f19]) (eg_of Tryd.func10 (by kernel_rfl) rfl) ((ownD_any T' B' w (HI'.out.below hI.1.bel)).mono fun e w' ⟨A1, c1, he, ho, hb⟩ => ⟨_, he, ⟨A1, c1, rfl, ho.isQ⟩, hb⟩)
        | 21, ho =>
          have hoo := Option.some.inj ho
          subst hoo
          have f18 : ∃ A1 c1, (ρ (.tmp 128)) = .agg #[.slice A1 n c1, .int .i64 T, .int .i64 B] ∧ IsQ w A1 n c1 R := hd ⟨18, .data⟩ (by simp) (by rfl)
          have f20 : ∃ A1 c1, (ρ (.tmp 130)) = .agg #[.slice A1 n' c1, .int .i64 T', .int .i64 B'] ∧ IsQ w A1 n' c1 R' := hd ⟨20, .data⟩ (by simp) (by rfl)
          obtain ⟨A1, c1, e1, hq1⟩ := f18
          obtain ⟨A2, c2, e2, hq2⟩ := f20
          exact fx_call hK hρ 24 _ _ #[.agg #[.slice A1 n c1, .int .i64 T, .int .i64 B], .agg #[.slice A2 n' c2, .int .i64 T', .int .i64 B']] rfl (by simp only [List.map_toArray, List.map_cons, List.map_nil, hA.const, e1, e2]) (eg_of Tryd.func24 (by kernel_rfl) rfl) ((dsame_d T B T' B' w hq1 hq2).mono fun e w' ⟨he, hb⟩ => ⟨_, he, by rw [HSB.out]; rfl, hb⟩)
        | 22, ho =>
          have hoo := Option.some.inj ho
          subst hoo
          have h0 := hI.1.cell 0 0 rfl rfl
          have h1 := hI.1.cell 0 1 rfl rfl
          have h2 := hI.1.cell 0 2 rfl rfl
          simp only [Nat.add_zero] at h0 h1 h2
          have hs := hA.tmp 3 (by decide)
          exact fx_val hK hρ (.agg #[.slice A n c, .int .i64 T, .int .i64 B]) (by simp [execOp, hs, h0, h1, h2, go_sem]) rfl
        | 23, ho =>
          have hoo := Option.some.inj ho
          subst hoo
          have h0 := hI.1.cell 1 0 rfl rfl
          have h1 := hI.1.cell 1 1 rfl rfl
          have h2 := hI.1.cell 1 2 rfl rfl
          have hs := hA.tmp 4 (by decide)
          exact fx_val hK hρ (.agg #[.slice A' n' c', .int .i64 T', .int .i64 B']) (by simp [execOp, hs, h0, h1, h2, go_sem]) rfl
        | 24, ho =>
          have hoo := Option.some.inj ho
          subst hoo
          have f22 : (ρ (.tmp 132)) = .agg #[.slice A n c, .int .i64 T, .int .i64 B] := hd ⟨22, .data⟩ (by simp) (by rfl)
          have f23 : (ρ (.tmp 133)) = .agg #[.slice A' n' c', .int .i64 T', .int .i64 B'] := hd ⟨23, .data⟩ (by simp) (by rfl)
          exact fx_call hK hρ 14 _ _ #[.agg #[.slice A n c, .int .i64 T, .int .i64 B], .agg #[.slice A' n' c', .int .i64 T', .int .i64 B']] rfl (by simp only [List.map_toArray, List.map_cons, List.map_nil, hA.const, f22, f23]) (eg_of Tryd.func14 (by kernel_rfl) rfl) ((rsame_d T B T' B' w (HI.out.below hI.1.bel) (HI'.out.below hI.1.bel)).mono fun e w' ⟨he, hb⟩ => ⟨_, he, by rw [HSB.out]; rfl, hb⟩)
        | 25, ho =>
          have hoo := Option.some.inj ho
          subst hoo
          have f21 : (ρ (.tmp 131)) = .bool sb := hd ⟨21, .data⟩ (by simp) (by rfl)
          have f24 : (ρ (.tmp 134)) = .bool sb := hd ⟨24, .data⟩ (by simp) (by rfl)
          exact fx_val hK hρ (.bool true) (by cases sb <;> simp [execOp, f21, f24, hA.const, go_sem]) rfl
        | 26, ho =>
          have hoo := Option.some.inj ho
          subst hoo
          have f16 : (ρ (.tmp 126)) = .bool true := hd ⟨16, .data⟩ (by simp) (by rfl)
          have f25 : (ρ (.tmp 135)) = .bool true := hd ⟨25, .data⟩ (by simp) (by rfl)
          exact fx_val hK hρ (.bool true) (by simp [execOp, f16, f25, hA.const, go_sem]) rfl
        | 27, ho =>
          have hoo := Option.some.inj ho
          subst hoo
          have f26 : (ρ (.tmp 136)) = .bool true := hd ⟨26, .data⟩ (by simp) (by rfl)
          exact fx_val hK hρ (.bool true) (by simp [execOp, f26, hA.const, go_sem]) rfl
        | kq + 28, ho => simp at ho
      case hend =>
        intro vals xw hI hF
        have h27 := hF 27 (by decide)
        have h27b : vals 6 = .bool true := h27
        have BF := Lib.hid hI.1
        clear hF h27 hI
        simp only [fillA, fillL, List.contains_cons, List.contains_nil, Nat.reduceBEq, Bool.or_false, Bool.false_or, Bool.or_true, Bool.true_or, cond_true, cond_false, Nat.zero_add, Nat.reduceAdd]
        rw [h27b]
        go_wp2
        go_ret
        exact ⟨rfl, BF.out.bel⟩
  case false =>
    have hc : ¬ ChkQ n T B := of_decide_eq_false HIS.out.symm
    obtain rfl : n9 = 0 := by rw [← HL9.out]; unfold itemsE; rw [HN.out, if_neg hc]; rfl
    have hb : Below w8.heap.size w8 w8 := Below.refl _ _
    have X11r := Lib.hid (X11q.out.below hb X11q.out.lt)
    have X7r := Lib.hid (X7q.out.below hb X7q.out.lt)
    have K7r := Lib.hid (K7q.out.below hb)
    have X9r := Lib.hid (X9q.out.below hb X9q.out.lt)
    have K9r := Lib.hid (K9q.out.below hb)
    have B10 := Lib.hid (B8.out.next hb)
    have CSZ := Lib.hid (rsize_any x w8)
    clear hc hb HLq HL9
    rcases HZ.out with ⟨hs, rfl, hn7⟩ | ⟨hs, rfl, rfl⟩
    · rw [decide_eq_true hs] at CSZ
      have hnb : ((n7 : Int) != x) = false := by simp [hn7]
      clear hs hn7 HZ
      have k0 := X11r.out.cell (j := 0) rfl
      have k1 := X11r.out.cell (j := 1) rfl
      have k2 := X11r.out.cell (j := 2) rfl
      go_wp2_with fail
      refine CSZ.out.mono ?_
      rintro e w11 ⟨rfl, rfl⟩
      clear CSZ
      go_upto_region 12 with fail
      clear k0 k1 k2
      refine wp_region_facts' [110, 111, 112, 113, 114, 115, 116, 117, 118, 119, 120, 121, 122, 123, 124, 125, 126, 127, 128, 129, 130, 131, 132, 133, 134, 135, 136, 6] [] [(3, true), (8, true), (16, true)] (by kernel_rfl) (by kernel_rfl) (by kernel_rfl) (by intro d hd; simp at hd ⊢; omega) (fun z => Rws w0 (rows2 A n c T B A' n' c' T' B') z ∧ RowV g7 24 [.slice A5 n5 c5, .int .i64 t5, .int .i64 b5] z ∧ RowV g9 24 [.slice A6 n6 c6, .int .i64 t5, .int .i64 b5] z ∧ IsQ z A5 n5 c5 R5 ∧ IsQ z A6 n6 c6 R5) (PhiTl A n c R T B A' n' c' R' T' B' A5 n5 c5 A6 n6 c6 t5 b5 e5 false sb)
        (fun z z' h hb => ⟨h.1.next hb, h.2.1.below hb h.2.1.lt, h.2.2.1.below hb h.2.2.1.lt, h.2.2.2.1.below hb, h.2.2.2.2.below hb⟩) (phiTl_below A n c R T B A' n' c' R' T' B' A5 n5 c5 A6 n6 c6 t5 b5 e5 false sb) (⟨B10.out.drew 1, X7r.out.drewN 1, X9r.out.drewN 1, K7r.out.below (Below.refl _ _).drew, K9r.out.below (Below.refl _ _).drew⟩) (fun p hp v w hv => by
          simp only [List.mem_cons, List.not_mem_nil, or_false] at hp
          rcases hp with rfl | rfl | rfl <;> exact hv) (fun kq hkq => by simp at hkq) ?hstep ?hend
      case hstep =>
        intro kq o ho hw a w hI hA hd K hK
        obtain ⟨ρ, hρ⟩ : ∃ ρ, a.eval = ρ := ⟨_, rfl⟩
        rw [hρ] at hA hd
        match kq, ho with
        | 0, ho =>
          have hoo := Option.some.inj ho
          subst hoo
          have h0 := hI.2.1.cell (j := 0) rfl
          have h1 := hI.2.1.cell (j := 1) rfl
          have h2 := hI.2.1.cell (j := 2) rfl
          have hs := hA.tmp 7 (by decide)
          exact fx_val hK hρ (.agg #[.slice A5 n5 c5, .int .i64 t5, .int .i64 b5]) (by simp [execOp, hs, h0, h1, h2, go_sem]) rfl
        | 1, ho =>
          have hoo := Option.some.inj ho
          subst hoo
          have h0 := hI.2.2.1.cell (j := 0) rfl
          have h1 := hI.2.2.1.cell (j := 1) rfl
          have h2 := hI.2.2.1.cell (j := 2) rfl
          have hs := hA.tmp 9 (by decide)
          exact fx_val hK hρ (.agg #[.slice A6 n6 c6, .int .i64 t5, .int .i64 b5]) (by simp [execOp, hs, h0, h1, h2, go_sem]) rfl
        | 2, ho =>
          have hoo := Option.some.inj ho
          subst hoo
          have f0 : (ρ (.tmp 110)) = .agg #[.slice A5 n5 c5, .int .i64 t5, .int .i64 b5] := hd ⟨0, .data⟩ (by simp) (by rfl)
          have f1 : (ρ (.tmp 111)) = .agg #[.slice A6 n6 c6, .int .i64 t5, .int .i64 b5] := hd ⟨1, .data⟩ (by simp) (by rfl)
          exact fx_call hK hρ 14 _ _ #[.agg #[.slice A5 n5 c5, .int .i64 t5, .int .i64 b5], .agg #[.slice A6 n6 c6, .int .i64 t5, .int .i64 b5]] rfl (by simp only [List.map_toArray, List.map_cons, List.map_nil, hA.const, f0, f1]) (eg_of Tryd.func14 (by kernel_rfl) rfl) ((rsame_d t5 b5 t5 b5 w hI.2.2.2.1 hI.2.2.2.2).mono fun e w' ⟨he, hb⟩ => ⟨_, he, by rw [decide_eq_true (show SameQ R5 t5 b5 R5 t5 b5 from ⟨rfl, rfl, rfl⟩)]; rfl, hb⟩)
        | 3, ho =>
          have hoo := Option.some.inj ho
          subst hoo
          have f2 : (ρ (.tmp 112)) = .bool true := hd ⟨2, .data⟩ (by simp) (by rfl)
          exact fx_val hK hρ (.bool true) (by simp [execOp, f2, hA.const, go_sem]) rfl
        | 4, ho =>
          have hoo := Option.some.inj ho
          subst hoo
          exact fx_val hK hρ (.int .i64 e5) (by have h := hA.tmp 8 (by decide); simp [execOp, h, go_sem]) rfl
        | 5, ho =>
          have hoo := Option.some.inj ho
          subst hoo
          exact fx_val hK hρ (.int .i64 e5) (by have h := hA.tmp 10 (by decide); simp [execOp, h, go_sem]) rfl
        | 6, ho =>
          have hoo := Option.some.inj ho
          subst hoo
          have f4 : (ρ (.tmp 114)) = .int .i64 e5 := hd ⟨4, .data⟩ (by simp) (by rfl)
          have f5 : (ρ (.tmp 115)) = .int .i64 e5 := hd ⟨5, .data⟩ (by simp) (by rfl)
          exact fx_val hK hρ (.bool true) (by simp [execOp, f4, f5, hA.const, go_sem]) rfl
        | 7, ho =>
          have hoo := Option.some.inj ho
          subst hoo
          have f3 : (ρ (.tmp 113)) = .bool true := hd ⟨3, .data⟩ (by simp) (by rfl)
          have f6 : (ρ (.tmp 116)) = .bool true := hd ⟨6, .data⟩ (by simp) (by rfl)
          exact fx_val hK hρ (.bool true) (by simp [execOp, f3, f6, hA.const, go_sem]) rfl
        | 8, ho =>
          have hoo := Option.some.inj ho
          subst hoo
          have f7 : (ρ (.tmp 117)) = .bool true := hd ⟨7, .data⟩ (by simp) (by rfl)
          exact fx_val hK hρ (.bool true) (by simp [execOp, f7, hA.const, go_sem]) rfl
        | 9, ho =>
          have hoo := Option.some.inj ho
          subst hoo
          have h0 := hI.1.cell 0 0 rfl rfl
          have h1 := hI.1.cell 0 1 rfl rfl
          have h2 := hI.1.cell 0 2 rfl rfl
          simp only [Nat.add_zero] at h0 h1 h2
          have hs := hA.tmp 3 (by decide)
          exact fx_val hK hρ (.agg #[.slice A n c, .int .i64 T, .int .i64 B]) (by simp [execOp, hs, h0, h1, h2, go_sem]) rfl
        | 10, ho =>
          have hoo := Option.some.inj ho
          subst hoo
          have f9 : (ρ (.tmp 119)) = .agg #[.slice A n c, .int .i64 T, .int .i64 B] := hd ⟨9, .data⟩ (by simp) (by rfl)
          exact fx_call hK hρ 10 _ _ #[.agg #[.slice A n c, .int .i64 T, .int .i64 B]] rfl (by simp only [List.map_toArray, List.map_cons, List.map_nil, hA.const, f9]) (eg_of Tryd.func10 (by kernel_rfl) rfl) ((ownD_any T B w (HI.out.below hI.1.bel)).mono fun e w' ⟨A1, c1, he, ho, hb⟩ => ⟨_, he, ⟨A1, c1, rfl, ho.isQ⟩, hb⟩)
        | 11, ho =>
          have hoo := Option.some.inj ho
          subst hoo
          have f10 : ∃ A1 c1, (ρ (.tmp 120)) = .agg #[.slice A1 n c1, .int .i64 T, .int .i64 B] ∧ IsQ w A1 n c1 R := hd ⟨10, .data⟩ (by simp) (by rfl)
          obtain ⟨A1, c1, e1, hq1⟩ := f10
          exact fx_call hK hρ 23 _ _ #[.agg #[.slice A1 n c1, .int .i64 T, .int .i64 B]] rfl (by simp only [List.map_toArray, List.map_cons, List.map_nil, hA.const, e1]) (eg_of Tryd.func23 (by kernel_rfl) rfl) ((dcheck_any A1 n c1 T B w hq1.ln (HT.out.via hI.1.bel)).mono fun e w' ⟨he, hb⟩ => ⟨_, he, rfl, hb⟩)
        | 12, ho =>
          have hoo := Option.some.inj ho
          subst hoo
          have f11 : (ρ (.tmp 121)) = .int .i64 (chkQE n T B) := hd ⟨11, .data⟩ (by simp) (by rfl)
          rw [HCB.out] at f11
          exact fx_val hK hρ (.bool false) (by simp [execOp, f11, hA.const, go_sem]) rfl
        | 13, ho =>
          have hoo := Option.some.inj ho
          subst hoo
          exact fx_val hK hρ (.bool false) (by have h := hA.tmp 14 (by decide); simp [execOp, h, go_sem]) rfl
        | 14, ho =>
          have hoo := Option.some.inj ho
          subst hoo
          have f12 : (ρ (.tmp 122)) = .bool false := hd ⟨12, .data⟩ (by simp) (by rfl)
          have f13 : (ρ (.tmp 123)) = .bool false := hd ⟨13, .data⟩ (by simp) (by rfl)
          exact fx_val hK hρ (.bool true) (by simp [execOp, f12, f13, hA.const, go_sem]) rfl
        | 15, ho =>
          have hoo := Option.some.inj ho
          subst hoo
          have f8 : (ρ (.tmp 118)) = .bool true := hd ⟨8, .data⟩ (by simp) (by rfl)
          have f14 : (ρ (.tmp 124)) = .bool true := hd ⟨14, .data⟩ (by simp) (by rfl)
          exact fx_val hK hρ (.bool true) (by simp [execOp, f8, f14, hA.const, go_sem]) rfl
        | 16, ho =>
          have hoo := Option.some.inj ho
          subst hoo
          have f15 : (ρ (.tmp 125)) = .bool true := hd ⟨15, .data⟩ (by simp) (by rfl)
          exact fx_val hK hρ (.bool true) (by simp [execOp, f15, hA.const, go_sem]) rfl
        | 17, ho =>
          have hoo := Option.some.inj ho
          subst hoo
          have h0 := hI.1.cell 0 0 rfl rfl
          have h1 := hI.1.cell 0 1 rfl rfl
          have h2 := hI.1.cell 0 2 rfl rfl
          simp only [Nat.add_zero] at h0 h1 h2
          have hs := hA.tmp 3 (by decide)
          exact fx_val hK hρ (.agg #[.slice A n c, .int .i64 T, .int .i64 B]) (by simp [execOp, hs, h0, h1, h2, go_sem]) rfl
        | 18, ho =>
          have hoo := Option.some.inj ho
          subst hoo
          have f17 : (ρ (.tmp 127)) = .agg #[.slice A n c, .int .i64 T, .int .i64 B] := hd ⟨17, .data⟩ (by simp) (by rfl)
          exact fx_call hK hρ 10 _ _ #[.agg #[.slice A n c, .int .i64 T, .int .i64 B]] rfl (by simp only [List.map_toArray, List.map_cons, List.map_nil, hA.const, f17]) (eg_of Tryd.func10 (by kernel_rfl) rfl) ((ownD_any T B w (HI.out.below hI.1.bel)).mono fun e w' ⟨A1, c1, he, ho, hb⟩ => ⟨_, he, ⟨A1, c1, rfl, ho.isQ⟩, hb⟩)
        | 19, ho =>
          have hoo := Option.some.inj ho
          subst hoo
          have h0 := hI.1.cell 1 0 rfl rfl
          have h1 := hI.1.cell 1 1 rfl rfl
          have h2 := hI.1.cell 1 2 rfl rfl
          have hs := hA.tmp 4 (by decide)
          exact fx_val hK hρ (.agg #[.slice A' n' c', .int .i64 T', .int .i64 B']) (by simp [execOp, hs, h0, h1, h2, go_sem]) rfl
        | 20, ho =>
          have hoo := Option.some.inj ho
          subst hoo
          have f19 : (ρ (.tmp 129)) = .agg #[.slice A' n' c', .int .i64 T', .int .i64 B'] := hd ⟨19, .data⟩ (by simp) (by rfl)
          exact fx_call hK hρ 10 _ _ #[.agg #[.slice A' n' c', .int .i64 T', .int .i64 B']] rfl (by simp only [List.map_toArray, List.map_cons, List.map_nil, hA.const, f19]) (eg_of Tryd.func10 (by kernel_rfl) rfl) ((ownD_any T' B' w (HI'.out.below hI.1.bel)).mono fun e w' ⟨A1, c1, he, ho, hb⟩ => ⟨_, he, ⟨A1, c1, rfl, ho.isQ⟩, hb⟩)
        | 21, ho =>
          have hoo := Option.some.inj ho
          subst hoo
          have f18 : ∃ A1 c1, (ρ (.tmp 128)) = .agg #[.slice A1 n c1, .int .i64 T, .int .i64 B] ∧ IsQ w A1 n c1 R := hd ⟨18, .data⟩ (by simp) (by rfl)
          have f20 : ∃ A1 c1, (ρ (.tmp 130)) = .agg #[.slice A1 n' c1, .int .i64 T', .int .i64 B'] ∧ IsQ w A1 n' c1 R' := hd ⟨20, .data⟩ (by simp) (by rfl)
          obtain ⟨A1, c1, e1, hq1⟩ := f18
          obtain ⟨A2, c2, e2, hq2⟩ := f20
          exact fx_call hK hρ 24 _ _ #[.agg #[.slice A1 n c1, .int .i64 T, .int .i64 B], .agg #[.slice A2 n' c2, .int .i64 T', .int .i64 B']] rfl (by simp only [List.map_toArray, List.map_cons, List.map_nil, hA.const, e1, e2]) (eg_of Tryd.func24 (by kernel_rfl) rfl) ((dsame_d T B T' B' w hq1 hq2).mono fun e w' ⟨he, hb⟩ => ⟨_, he, by rw [HSB.out]; rfl, hb⟩)
        | 22, ho =>
          have hoo := Option.some.inj ho
          subst hoo
          have h0 := hI.1.cell 0 0 rfl rfl
          have h1 := hI.1.cell 0 1 rfl rfl
          have h2 := hI.1.cell 0 2 rfl rfl
          simp only [Nat.add_zero] at h0 h1 h2
          have hs := hA.tmp 3 (by decide)
          exact fx_val hK hρ (.agg #[.slice A n c, .int .i64 T, .int .i64 B]) (by simp [execOp, hs, h0, h1, h2, go_sem]) rfl
        | 23, ho =>
          have hoo := Option.some.inj ho
          subst hoo
          have h0 := hI.1.cell 1 0 rfl rfl
          have h1 := hI.1.cell 1 1 rfl rfl
          have h2 := hI.1.cell 1 2 rfl rfl
          have hs := hA.tmp 4 (by decide)
          exact fx_val hK hρ (.agg #[.slice A' n' c', .int .i64 T', .int .i64 B']) (by simp [execOp, hs, h0, h1, h2, go_sem]) rfl
        | 24, ho =>
          have hoo := Option.some.inj ho
          subst hoo
          have f22 : (ρ (.tmp 132)) = .agg #[.slice A n c, .int .i64 T, .int .i64 B] := hd ⟨22, .data⟩ (by simp) (by rfl)
          have f23 : (ρ (.tmp 133)) = .agg #[.slice A' n' c', .int .i64 T', .int .i64 B'] := hd ⟨23, .data⟩ (by simp) (by rfl)
          exact fx_call hK hρ 14 _ _ #[.agg #[.slice A n c, .int .i64 T, .int .i64 B], .agg #[.slice A' n' c', .int .i64 T', .int .i64 B']] rfl (by simp only [List.map_toArray, List.map_cons, List.map_nil, hA.const, f22, f23]) (eg_of Tryd.func14 (by kernel_rfl) rfl) ((rsame_d T B T' B' w (HI.out.below hI.1.bel) (HI'.out.below hI.1.bel)).mono fun e w' ⟨he, hb⟩ => ⟨_, he, by rw [HSB.out]; rfl, hb⟩)
        | 25, ho =>
          have hoo := Option.some.inj ho
          subst hoo
          have f21 : (ρ (.tmp 131)) = .bool sb := hd ⟨21, .data⟩ (by simp) (by rfl)
          have f24 : (ρ (.tmp 134)) = .bool sb := hd ⟨24, .data⟩ (by simp) (by rfl)
          exact fx_val hK hρ (.bool true) (by cases sb <;> simp [execOp, f21, f24, hA.const, go_sem]) rfl
        | 26, ho =>
          have hoo := Option.some.inj ho
          subst hoo
          have f16 : (ρ (.tmp 126)) = .bool true := hd ⟨16, .data⟩ (by simp) (by rfl)
          have f25 : (ρ (.tmp 135)) = .bool true := hd ⟨25, .data⟩ (by simp) (by rfl)
          exact fx_val hK hρ (.bool true) (by simp [execOp, f16, f25, hA.const, go_sem]) rfl
        | 27, ho =>
          have hoo := Option.some.inj ho
          subst hoo
          have f26 : (ρ (.tmp 136)) = .bool true := hd ⟨26, .data⟩ (by simp) (by rfl)
          exact fx_val hK hρ (.bool true) (by simp [execOp, f26, hA.const, go_sem]) rfl
        | kq + 28, ho => simp at ho
      case hend =>
        intro vals xw hI hF
        have h27 := hF 27 (by decide)
        have h27b : vals 6 = .bool true := h27
        have BF := Lib.hid hI.1
        clear hF h27 hI
        simp only [fillA, fillL, List.contains_cons, List.contains_nil, Nat.reduceBEq, Bool.or_false, Bool.false_or, Bool.or_true, Bool.true_or, cond_true, cond_false, Nat.zero_add, Nat.reduceAdd]
        rw [h27b]
        go_wp2
        go_ret
        exact ⟨rfl, BF.out.bel⟩
    · rw [decide_eq_false hs] at CSZ
      clear hs HZ
      have k0 := X11r.out.cell (j := 0) rfl
      have k1 := X11r.out.cell (j := 1) rfl
      have k2 := X11r.out.cell (j := 2) rfl
      go_wp2_with fail
      refine CSZ.out.mono ?_
      rintro e w11 ⟨rfl, rfl⟩
      clear CSZ
      go_upto_region 12 with fail
      clear k0 k1 k2
      refine wp_region_facts' [110, 111, 112, 113, 114, 115, 116, 117, 118, 119, 120, 121, 122, 123, 124, 125, 126, 127, 128, 129, 130, 131, 132, 133, 134, 135, 136, 6] [] [(3, true), (8, true), (16, true)] (by kernel_rfl) (by kernel_rfl) (by kernel_rfl) (by intro d hd; simp at hd ⊢; omega) (fun z => Rws w0 (rows2 A n c T B A' n' c' T' B') z ∧ RowV g7 24 [.slice A5 n5 c5, .int .i64 t5, .int .i64 b5] z ∧ RowV g9 24 [.slice A6 n6 c6, .int .i64 t5, .int .i64 b5] z ∧ IsQ z A5 n5 c5 R5 ∧ IsQ z A6 n6 c6 R5) (PhiTl A n c R T B A' n' c' R' T' B' A5 n5 c5 A6 n6 c6 t5 b5 e5 false sb)
        (fun z z' h hb => ⟨h.1.next hb, h.2.1.below hb h.2.1.lt, h.2.2.1.below hb h.2.2.1.lt, h.2.2.2.1.below hb, h.2.2.2.2.below hb⟩) (phiTl_below A n c R T B A' n' c' R' T' B' A5 n5 c5 A6 n6 c6 t5 b5 e5 false sb) (⟨B10.out.drew 1, X7r.out.drewN 1, X9r.out.drewN 1, K7r.out.below (Below.refl _ _).drew, K9r.out.below (Below.refl _ _).drew⟩) (fun p hp v w hv => by
          simp only [List.mem_cons, List.not_mem_nil, or_false] at hp
          rcases hp with rfl | rfl | rfl <;> exact hv) (fun kq hkq => by simp at hkq) ?hstep ?hend
      case hstep =>
        intro kq o ho hw a w hI hA hd K hK
        obtain ⟨ρ, hρ⟩ : ∃ ρ, a.eval = ρ := ⟨_, rfl⟩
        rw [hρ] at hA hd
        match kq, ho with
        | 0, ho =>
          have hoo := Option.some.inj ho
          subst hoo
          have h0 := hI.2.1.cell (j := 0) rfl
          have h1 := hI.2.1.cell (j := 1) rfl
          have h2 := hI.2.1.cell (j := 2) rfl
          have hs := hA.tmp 7 (by decide)
          exact fx_val hK hρ (.agg #[.slice A5 n5 c5, .int .i64 t5, .int .i64 b5]) (by simp [execOp, hs, h0, h1, h2, go_sem]) rfl
        | 1, ho =>
          have hoo := Option.some.inj ho
          subst hoo
          have h0 := hI.2.2.1.cell (j := 0) rfl
          have h1 := hI.2.2.1.cell (j := 1) rfl
          have h2 := hI.2.2.1.cell (j := 2) rfl
          have hs := hA.tmp 9 (by decide)
          exact fx_val hK hρ (.agg #[.slice A6 n6 c6, .int .i64 t5, .int .i64 b5]) (by simp [execOp, hs, h0, h1, h2, go_sem]) rfl
        | 2, ho =>
          have hoo := Option.some.inj ho
          subst hoo
          have f0 : (ρ (.tmp 110)) = .agg #[.slice A5 n5 c5, .int .i64 t5, .int .i64 b5] := hd ⟨0, .data⟩ (by simp) (by rfl)
          have f1 : (ρ (.tmp 111)) = .agg #[.slice A6 n6 c6, .int .i64 t5, .int .i64 b5] := hd ⟨1, .data⟩ (by simp) (by rfl)
          exact fx_call hK hρ 14 _ _ #[.agg #[.slice A5 n5 c5, .int .i64 t5, .int .i64 b5], .agg #[.slice A6 n6 c6, .int .i64 t5, .int .i64 b5]] rfl (by simp only [List.map_toArray, List.map_cons, List.map_nil, hA.const, f0, f1]) (eg_of Tryd.func14 (by kernel_rfl) rfl) ((rsame_d t5 b5 t5 b5 w hI.2.2.2.1 hI.2.2.2.2).mono fun e w' ⟨he, hb⟩ => ⟨_, he, by rw [decide_eq_true (show SameQ R5 t5 b5 R5 t5 b5 from ⟨rfl, rfl, rfl⟩)]; rfl, hb⟩)
        | 3, ho =>
          have hoo := Option.some.inj ho
          subst hoo
          have f2 : (ρ (.tmp 112)) = .bool true := hd ⟨2, .data⟩ (by simp) (by rfl)
          exact fx_val hK hρ (.bool true) (by simp [execOp, f2, hA.const, go_sem]) rfl
        | 4, ho =>
          have hoo := Option.some.inj ho
          subst hoo
          exact fx_val hK hρ (.int .i64 e5) (by have h := hA.tmp 8 (by decide); simp [execOp, h, go_sem]) rfl
        | 5, ho =>
          have hoo := Option.some.inj ho
          subst hoo
          exact fx_val hK hρ (.int .i64 e5) (by have h := hA.tmp 10 (by decide); simp [execOp, h, go_sem]) rfl
        | 6, ho =>
          have hoo := Option.some.inj ho
          subst hoo
          have f4 : (ρ (.tmp 114)) = .int .i64 e5 := hd ⟨4, .data⟩ (by simp) (by rfl)
          have f5 : (ρ (.tmp 115)) = .int .i64 e5 := hd ⟨5, .data⟩ (by simp) (by rfl)
          exact fx_val hK hρ (.bool true) (by simp [execOp, f4, f5, hA.const, go_sem]) rfl
        | 7, ho =>
          have hoo := Option.some.inj ho
          subst hoo
          have f3 : (ρ (.tmp 113)) = .bool true := hd ⟨3, .data⟩ (by simp) (by rfl)
          have f6 : (ρ (.tmp 116)) = .bool true := hd ⟨6, .data⟩ (by simp) (by rfl)
          exact fx_val hK hρ (.bool true) (by simp [execOp, f3, f6, hA.const, go_sem]) rfl
        | 8, ho =>
          have hoo := Option.some.inj ho
          subst hoo
          have f7 : (ρ (.tmp 117)) = .bool true := hd ⟨7, .data⟩ (by simp) (by rfl)
          exact fx_val hK hρ (.bool true) (by simp [execOp, f7, hA.const, go_sem]) rfl
        | 9, ho =>
          have hoo := Option.some.inj ho
          subst hoo
          have h0 := hI.1.cell 0 0 rfl rfl
          have h1 := hI.1.cell 0 1 rfl rfl
          have h2 := hI.1.cell 0 2 rfl rfl
          simp only [Nat.add_zero] at h0 h1 h2
          have hs := hA.tmp 3 (by decide)
          exact fx_val hK hρ (.agg #[.slice A n c, .int .i64 T, .int .i64 B]) (by simp [execOp, hs, h0, h1, h2, go_sem]) rfl
        | 10, ho =>
          have hoo := Option.some.inj ho
          subst hoo
          have f9 : (ρ (.tmp 119)) = .agg #[.slice A n c, .int .i64 T, .int .i64 B] := hd ⟨9, .data⟩ (by simp) (by rfl)
          exact fx_call hK hρ 10 _ _ #[.agg #[.slice A n c, .int .i64 T, .int .i64 B]] rfl (by simp only [List.map_toArray, List.map_cons, List.map_nil, hA.const, f9]) (eg_of Tryd.func10 (by kernel_rfl) rfl) ((ownD_any T B w (HI.out.below hI.1.bel)).mono fun e w' ⟨A1, c1, he, ho, hb⟩ => ⟨_, he, ⟨A1, c1, rfl, ho.isQ⟩, hb⟩)
        | 11, ho =>
          have hoo := Option.some.inj ho
          subst hoo
          have f10 : ∃ A1 c1, (ρ (.tmp 120)) = .agg #[.slice A1 n c1, .int .i64 T, .int .i64 B] ∧ IsQ w A1 n c1 R := hd ⟨10, .data⟩ (by simp) (by rfl)
          obtain ⟨A1, c1, e1, hq1⟩ := f10
          exact fx_call hK hρ 23 _ _ #[.agg #[.slice A1 n c1, .int .i64 T, .int .i64 B]] rfl (by simp only [List.map_toArray, List.map_cons, List.map_nil, hA.const, e1]) (eg_of Tryd.func23 (by kernel_rfl) rfl) ((dcheck_any A1 n c1 T B w hq1.ln (HT.out.via hI.1.bel)).mono fun e w' ⟨he, hb⟩ => ⟨_, he, rfl, hb⟩)
        | 12, ho =>
          have hoo := Option.some.inj ho
          subst hoo
          have f11 : (ρ (.tmp 121)) = .int .i64 (chkQE n T B) := hd ⟨11, .data⟩ (by simp) (by rfl)
          rw [HCB.out] at f11
          exact fx_val hK hρ (.bool false) (by simp [execOp, f11, hA.const, go_sem]) rfl
        | 13, ho =>
          have hoo := Option.some.inj ho
          subst hoo
          exact fx_val hK hρ (.bool false) (by have h := hA.tmp 14 (by decide); simp [execOp, h, go_sem]) rfl
        | 14, ho =>
          have hoo := Option.some.inj ho
          subst hoo
          have f12 : (ρ (.tmp 122)) = .bool false := hd ⟨12, .data⟩ (by simp) (by rfl)
          have f13 : (ρ (.tmp 123)) = .bool false := hd ⟨13, .data⟩ (by simp) (by rfl)
          exact fx_val hK hρ (.bool true) (by simp [execOp, f12, f13, hA.const, go_sem]) rfl
        | 15, ho =>
          have hoo := Option.some.inj ho
          subst hoo
          have f8 : (ρ (.tmp 118)) = .bool true := hd ⟨8, .data⟩ (by simp) (by rfl)
          have f14 : (ρ (.tmp 124)) = .bool true := hd ⟨14, .data⟩ (by simp) (by rfl)
          exact fx_val hK hρ (.bool true) (by simp [execOp, f8, f14, hA.const, go_sem]) rfl
        | 16, ho =>
          have hoo := Option.some.inj ho
          subst hoo
          have f15 : (ρ (.tmp 125)) = .bool true := hd ⟨15, .data⟩ (by simp) (by rfl)
          exact fx_val hK hρ (.bool true) (by simp [execOp, f15, hA.const, go_sem]) rfl
        | 17, ho =>
          have hoo := Option.some.inj ho
          subst hoo
          have h0 := hI.1.cell 0 0 rfl rfl
          have h1 := hI.1.cell 0 1 rfl rfl
          have h2 := hI.1.cell 0 2 rfl rfl
          simp only [Nat.add_zero] at h0 h1 h2
          have hs := hA.tmp 3 (by decide)
          exact fx_val hK hρ (.agg #[.slice A n c, .int .i64 T, .int .i64 B]) (by simp [execOp, hs, h0, h1, h2, go_sem]) rfl
        | 18, ho =>
          have hoo := Option.some.inj ho
          subst hoo
          have f17 : (ρ (.tmp 127)) = .agg #[.slice A n c, .int .i64 T, .int .i64 B] := hd ⟨17, .data⟩ (by simp) (by rfl)
          exact fx_call hK hρ 10 _ _ #[.agg #[.slice A n c, .int .i64 T, .int .i64 B]] rfl (by simp only [List.map_toArray, List.map_cons, List.map_nil, hA.const, f17]) (eg_of Tryd.func10 (by kernel_rfl) rfl) ((ownD_any T B w (HI.out.below hI.1.bel)).mono fun e w' ⟨A1, c1, he, ho, hb⟩ => ⟨_, he, ⟨A1, c1, rfl, ho.isQ⟩, hb⟩)
        | 19, ho =>
          have hoo := Option.some.inj ho
          subst hoo
          have h0 := hI.1.cell 1 0 rfl rfl
          have h1 := hI.1.cell 1 1 rfl rfl
          have h2 := hI.1.cell 1 2 rfl rfl
          have hs := hA.tmp 4 (by decide)
          exact fx_val hK hρ (.agg #[.slice A' n' c', .int .i64 T', .int .i64 B']) (by simp [execOp, hs, h0, h1, h2, go_sem]) rfl
        | 20, ho =>
          have hoo := Option.some.inj ho
          subst hoo
          have f19 : (ρ (.tmp 129)) = .agg #[.slice A' n' c', .int .i64 T', .int .i64 B'] := hd ⟨19, .data⟩ (by simp) (by rfl)
          exact fx_call hK hρ 10 _ _ #[.agg #[.slice A' n' c', .int .i64 T', .int .i64 B']] rfl (by simp only [List.map_toArray, List.map_cons, List.map_nil, hA.const, f19]) (eg_of Tryd.func10 (by kernel_rfl) rfl) ((ownD_any T' B' w (HI'.out.below hI.1.bel)).mono fun e w' ⟨A1, c1, he, ho, hb⟩ => ⟨_, he, ⟨A1, c1, rfl, ho.isQ⟩, hb⟩)
        | 21, ho =>
          have hoo := Option.some.inj ho
          subst hoo
          have f18 : ∃ A1 c1, (ρ (.tmp 128)) = .agg #[.slice A1 n c1, .int .i64 T, .int .i64 B] ∧ IsQ w A1 n c1 R := hd ⟨18, .data⟩ (by simp) (by rfl)
          have f20 : ∃ A1 c1, (ρ (.tmp 130)) = .agg #[.slice A1 n' c1, .int .i64 T', .int .i64 B'] ∧ IsQ w A1 n' c1 R' := hd ⟨20, .data⟩ (by simp) (by rfl)
          obtain ⟨A1, c1, e1, hq1⟩ := f18
          obtain ⟨A2, c2, e2, hq2⟩ := f20
          exact fx_call hK hρ 24 _ _ #[.agg #[.slice A1 n c1, .int .i64 T, .int .i64 B], .agg #[.slice A2 n' c2, .int .i64 T', .int .i64 B']] rfl (by simp only [List.map_toArray, List.map_cons, List.map_nil, hA.const, e1, e2]) (eg_of Tryd.func24 (by kernel_rfl) rfl) ((dsame_d T B T' B' w hq1 hq2).mono fun e w' ⟨he, hb⟩ => ⟨_, he, by rw [HSB.out]; rfl, hb⟩)
        | 22, ho =>
          have hoo := Option.some.inj ho
          subst hoo
          have h0 := hI.1.cell 0 0 rfl rfl
          have h1 := hI.1.cell 0 1 rfl rfl
          have h2 := hI.1.cell 0 2 rfl rfl
          simp only [Nat.add_zero] at h0 h1 h2
          have hs := hA.tmp 3 (by decide)
          exact fx_val hK hρ (.agg #[.slice A n c, .int .i64 T, .int .i64 B]) (by simp [execOp, hs, h0, h1, h2, go_sem]) rfl
        | 23, ho =>
          have hoo := Option.some.inj ho
          subst hoo
          have h0 := hI.1.cell 1 0 rfl rfl
          have h1 := hI.1.cell 1 1 rfl rfl
          have h2 := hI.1.cell 1 2 rfl rfl
          have hs := hA.tmp 4 (by decide)
          exact fx_val hK hρ (.agg #[.slice A' n' c', .int .i64 T', .int .i64 B']) (by simp [execOp, hs, h0, h1, h2, go_sem]) rfl
        | 24, ho =>
          have hoo := Option.some.inj ho
          subst hoo
          have f22 : (ρ (.tmp 132)) = .agg #[.slice A n c, .int .i64 T, .int .i64 B] := hd ⟨22, .data⟩ (by simp) (by rfl)
          have f23 : (ρ (.tmp 133)) = .agg #[.slice A' n' c', .int .i64 T', .int .i64 B'] := hd ⟨23, .data⟩ (by simp) (by rfl)
          exact fx_call hK hρ 14 _ _ #[.agg #[.slice A n c, .int .i64 T, .int .i64 B], .agg #[.slice A' n' c', .int .i64 T', .int .i64 B']] rfl (by simp only [List.map_toArray, List.map_cons, List.map_nil, hA.const, f22, f23]) (eg_of Tryd.func14 (by kernel_rfl) rfl) ((rsame_d T B T' B' w (HI.out.below hI.1.bel) (HI'.out.below hI.1.bel)).mono fun e w' ⟨he, hb⟩ => ⟨_, he, by rw [HSB.out]; rfl, hb⟩)
        | 25, ho =>
          have hoo := Option.some.inj ho
          subst hoo
          have f21 : (ρ (.tmp 131)) = .bool sb := hd ⟨21, .data⟩ (by simp) (by rfl)
          have f24 : (ρ (.tmp 134)) = .bool sb := hd ⟨24, .data⟩ (by simp) (by rfl)
          exact fx_val hK hρ (.bool true) (by cases sb <;> simp [execOp, f21, f24, hA.const, go_sem]) rfl
        | 26, ho =>
          have hoo := Option.some.inj ho
          subst hoo
          have f16 : (ρ (.tmp 126)) = .bool true := hd ⟨16, .data⟩ (by simp) (by rfl)
          have f25 : (ρ (.tmp 135)) = .bool true := hd ⟨25, .data⟩ (by simp) (by rfl)
          exact fx_val hK hρ (.bool true) (by simp [execOp, f16, f25, hA.const, go_sem]) rfl
        | 27, ho =>
          have hoo := Option.some.inj ho
          subst hoo
          have f26 : (ρ (.tmp 136)) = .bool true := hd ⟨26, .data⟩ (by simp) (by rfl)
          exact fx_val hK hρ (.bool true) (by simp [execOp, f26, hA.const, go_sem]) rfl
        | kq + 28, ho => simp at ho
      case hend =>
        intro vals xw hI hF
        have h27 := hF 27 (by decide)
        have h27b : vals 6 = .bool true := h27
        have BF := Lib.hid hI.1
        clear hF h27 hI
        simp only [fillA, fillL, List.contains_cons, List.contains_nil, Nat.reduceBEq, Bool.or_false, Bool.false_or, Bool.or_true, Bool.true_or, cond_true, cond_false, Nat.zero_add, Nat.reduceAdd]
        rw [h27b]
        go_wp2
        go_ret
        exact ⟨rfl, BF.out.bel⟩
end
section
theorem walk_DequeTells (w : World) (hT : DTab w) {A A' : Option Addr} {n c n' c' : Nat} {R R' : List Int} {T B T' B' : Int} (g : InD w A n c R) (g' : InD w A' n' c' R') (x : Int) (hx : -9223372036854775808 ≤ x ∧ x ≤ 9223372036854775807) : Calls Tryd.prog 4 #[.agg #[.slice A n c, .int .i64 T, .int .i64 B], .agg #[.slice A' n' c', .int .i64 T', .int .i64 B'], .int .i64 x] w fun e w' => e = .returned (.bool true) ∧ Below w.heap.size w w' := tellsD_any T B T' B' x w hT g.big g.isQ g'.big g'.isQ hx.1 hx.2
end
end Go.Proofs.YtnlempddoiidiaaDoor
