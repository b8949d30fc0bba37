/- trefoilref12.Items and Push in the seat YtnlempddoiidiaaDoor: their contracts. No statement is proved here. -/
import Derived.Test.YtnlempddoiidiaaDoorZM12
set_option linter.unusedSimpArgs false
set_option linter.unusedVariables false
set_option linter.unusedSimpArgs false
namespace Go.Proofs.YtnlempddoiidiaaDoor
open Go Go.RowKit

section
variable {A : Option Addr} {n c : Nat} {R : List Int}
set_option maxRecDepth 100000 in
set_option maxHeartbeats 8000000 in
theorem ritems_any (T B : Int) (wf : World) (hq : IsQ wf A n c R) (hc : ChkQ n T B) :
    Calls Tryd.prog 21 #[.agg #[.slice A n c, .int .i64 T, .int .i64 B]] wf fun e w' => ∃ A' n' c', e = .returned (.slice A' n' c') ∧ OwnQ w' wf.heap.size A' n' c' (itemsD R T B) ∧ Below wf.heap.size wf w' := by
  have B0 := Rws.start wf (rowQ A n c T B)
  have hln := hq.ln
  have HQ := Lib.hid hq
  have HN := Lib.hid hq.hn
  obtain ⟨w0, hw0⟩ : ∃ w0, w0 = allocs wf (rowQ A n c T B) := ⟨_, rfl⟩
  rw [← hw0] at B0
  have hs0 : w0.heap.size = wf.heap.size + 1 := by rw [hw0]; simp [rowQ, allocs]
  obtain ⟨c1, c2, c3, c4, c5⟩ := hc
  have hn64 : n ≤ 64 := by have := c1.bounds; omega
  have hn0 : 0 < n := by have := c1.bounds; omega
  obtain ⟨m, hm⟩ : ∃ m, m = (B - T).toNat := ⟨_, rfl⟩
  have HM : Hid (itemsD R T B = itemsD R T (T + m)) := Lib.hid (by
    by_cases h : T ≤ B
    · rw [show T + (m : Int) = B by omega]
    · rw [itemsD_empty (by omega), itemsD_empty (by omega)])
  rw [HM.out]
  have hm1 : T + m = B ∨ (B < T ∧ m = 0) := by omega
  have hm64 : m ≤ 64 := by omega
  obtain ⟨w1, hw1⟩ : ∃ w1, w1 = w0.alloc (.cells #[] 3) := ⟨_, rfl⟩
  have B1 : Hid (Rws wf (rowQ A n c T B) w1) := Lib.hid (by rw [hw1]; exact B0.alloc _)
  have HO1 : Hid (OwnI w1 (wf.heap.size + 1) (.slice (some ⟨wf.heap.size + 1, 0, none⟩) 0 0) (itemsD R T (T + ((0 : Nat) : Int)))) := Lib.hid (by
    rw [show T + ((0 : Nat) : Int) = T by omega, itemsD_empty (Int.le_refl _), hw1, ← hs0]
    exact OwnI.new w0 w0.heap.size (Nat.le_refl _))
  have HS1 : Hid (wf.heap.size + 1 ≤ w1.heap.size) := Lib.hid (by rw [hw1]; simp [hs0])
  have HW : Hid (w1 = (wf.alloc (.cells #[.slice A n c, .int .i64 T, .int .i64 B] 24)).alloc (.cells #[] 3)) := Lib.hid (by rw [hw1, hw0]; rfl)
  clear hw0 hw1 hq B0 hs0 c1 hm
  go_enter Tryd.func21, Tryd.ntmps21
  go_wp2
  rw [← HW.out]
  clear HW
  go_loopw [3, 4] (fun l k wr => ∃ (j : Nat) (A1 : Option Addr) (c1 : Nat), j ≤ m ∧ l = .slice A1 j c1 ∧ k = .int .i64 j ∧ Hid (OwnI wr (wf.heap.size + 1) (.slice A1 j c1) (itemsD R T (T + j))) ∧ Hid (Rws wf (rowQ A n c T B) wr) ∧ Hid (wf.heap.size + 1 ≤ wr.heap.size)) (fun _ k _ => m - (intOf k).toNat)
  case atStart => exact ⟨0, _, _, Nat.zero_le _, rfl, rfl, HO1, B1, HS1⟩
  case round =>
    clear B1 HS1 HO1
    obtain ⟨j, A1, c1, hj, rfl, rfl, HO, B1, HS1⟩ := hrel
    have c00 := B1.out.cell 0 0 rfl rfl
    have c01 := B1.out.cell 0 1 rfl rfl
    have c02 := B1.out.cell 0 2 rfl rfl
    simp only [Nat.add_zero] at c00 c01 c02
    by_cases hlt : (j : Int) < B - T
    · have hd : decide ((j : Int) < B - T) = true := decide_eq_true hlt
      have hjm : j < m := by omega
      obtain ⟨x, hx⟩ : ∃ x, x = placeD R (T + j) := ⟨_, rfl⟩
      have CA := Lib.hid (rat_any T B (T + j) wr (HQ.out.below B1.out.bel) hn0 (by omega))
      rw [← hx] at CA
      have HX : Hid (itemsD R T (T + ((j + 1 : Nat) : Int)) = itemsD R T (T + j) ++ [x]) := Lib.hid (by
        rw [itemsD_last (by omega), show T + ((j + 1 : Nat) : Int) - 1 = T + j by omega, ← hx])
      have HZL : Hid ((itemsD R T (T + j)).length = j) := Lib.hid (by rw [itemsD_len]; omega)
      obtain ⟨zs, hzs⟩ : ∃ zs, zs = itemsD R T (T + j) := ⟨_, rfl⟩
      rw [← hzs] at HO HX HZL
      clear hx hzs hlt
      go_wp2_with fail
      refine CA.out.mono ?_
      rintro e w2 ⟨rfl, b2⟩
      have B2 := Lib.hid (B1.out.next b2)
      have HO2 := Lib.hid (OwnI.below HO.out b2)
      have HS2 : Hid (wf.heap.size + 1 ≤ w2.heap.size) := Lib.hid (Nat.le_trans HS1.out b2.size)
      clear b2 CA HO B1 HS1
      go_wp2_with (at_builtin; refine wpList_push rfl _ _ rfl w2 (wf.heap.size + 1) (.slice A1 j c1) zs x j HZL.out (by omega) HO2.out HS2.out (by first | rfl | simp [Act.eval]) (by first | rfl | simp [Act.eval]) ?_; intro A3 c3 w3 ho3 hb3; (have HO3 := Lib.hid ho3); (have HB3 := Lib.hid hb3); clear ho3 hb3)
      go_roundw
      case rel => exact ⟨j + 1, A3, c3, by omega, rfl, by go_num, Lib.hid (by rw [HX.out]; exact HO3.out), Lib.hid (B2.out.later HB3.out (by simp [rowQ])), Lib.hid (Nat.le_trans HS2.out HB3.out.size)⟩
      case measure => simp [intOf]; omega
    · have hd : decide ((j : Int) < B - T) = false := decide_eq_false hlt
      obtain rfl : j = m := by omega
      go_wp2
      go_ret
      exact ⟨A1, j, c1, rfl, ⟨OwnI.down HO.out (by omega), by rw [itemsD_len]; omega, by omega⟩, B1.out.bel⟩
end
def PhiRp (wf : World) (g n c : Nat) (A1 : Option Addr) (j c1 off bb : Nat) (y : Int) : Nat → Value → World → Prop
  | 0, v, w => v = .pointer (some ⟨g, 0, none⟩)
  | 1, v, w => v = .slice A1 j c1
  | 2, v, w => v = .pointer (some ⟨wf.heap.size, 0, none⟩)
  | 3, v, w => v = .slice (some ⟨bb, off, none⟩) n c
  | 4, v, w => v = .int .i64 j
  | 5, v, w => v = .pointer (some ⟨bb, off + j, none⟩)
  | 6, v, w => v = .int .i64 y
  | 7, v, w => OwnXs 3 (Value.slice A1 j c1).ownBlock [.int .i64 y] v w
  | _, _, _ => True
theorem phiRp_below {wf : World} {g n c : Nat} {A1 : Option Addr} {j c1 off bb : Nat} {y : Int} : ∀ kq v w w', PhiRp wf g n c A1 j c1 off bb y kq v w → Below w.heap.size w w' → PhiRp wf g n c A1 j c1 off bb y kq v w' := by
  intro kq v w w' h hb
  match kq, h with
  | 0, h => exact h
  | 1, h => exact h
  | 2, h => exact h
  | 3, h => exact h
  | 4, h => exact h
  | 5, h => exact h
  | 6, h => exact h
  | 7, h => exact OwnXs.rx (u := 0) (base := 0) h (.inl hb)
  | kq + 8, h => exact trivial
def ThtRp (wf : World) (g n c : Nat) (T B : Int) (A1 : Option Addr) (j c1 : Nat) (zs : List Int) (off bb : Nat) (y : Int) (t : Nat) (f : Nat → Value) (w2 : World) : Prop :=
  8 ≤ t ∧ t ≤ 11 ∧ f 56 = .slice A1 j c1 ∧ Rws wf (rowsP (some ⟨bb, off, none⟩) n c T B) w2 ∧ g + 1 ≤ w2.heap.size ∧
  (t = 8 → OwnXs 3 (Value.slice A1 j c1).ownBlock [.int .i64 y] (f 62) w2) ∧ (t = 8 → OwnI w2 (g + 1) (.slice A1 j c1) zs) ∧
  (9 ≤ t → ∃ A2 c2, f 63 = .slice A2 (j + 1) c2 ∧ OwnI w2 (g + 1) (.slice A2 (j + 1) c2) (zs ++ [y]) ∧ (t = 11 → RowV g 24 [.slice A2 (j + 1) c2, .int .i64 T, .int .i64 (B + 1)] w2)) ∧
  (10 ≤ t → f 64 = .pointer (some ⟨g, 0, none⟩)) ∧ (t ≤ 10 → RowV g 24 [.slice A1 j c1, .int .i64 T, .int .i64 (B + 1)] w2)
/-- A row of its own, somewhere. -/
theorem RowV.far {g k j : Nat} {t : TypeId} {vs : List Value} {w : World} {v : Value} (h : RowV g t vs w) (hk : g ≠ k) : RowV g t vs (w.setCell ⟨k, j, none⟩ v) := by
  unfold RowV at h ⊢
  rw [heap_setCell_other _ _ _ _ hk]; exact h
section
variable {A : Option Addr} {n c : Nat} {R : List Int}
theorem take_set_step {R : List Int} {p j : Nat} {x : Int} (hj : j < R.length) : (R.set p x).take (j + 1) = (R.set p x).take j ++ [if j = p then x else R.getD j 0] := by
  rw [List.take_add_one]
  congr 1
  by_cases h : j = p
  · subst h
    rw [if_pos rfl, List.getElem?_set_self hj]; rfl
  · rw [if_neg h, List.getElem?_set_ne (fun e => h e.symm), List.getD_eq_getElem?_getD, List.getElem?_eq_getElem hj]; rfl
set_option maxRecDepth 100000 in
set_option maxHeartbeats 8000000 in
theorem rpush_any (T B x : Int) (wf : World) (hq : IsQ wf A n c R) :
    Calls Tryd.prog 16 #[.agg #[.slice A n c, .int .i64 T, .int .i64 B], .int .i64 x] wf (GotPush R T B x wf) := by
  have B0 := Lib.hid (Rws.start wf (rowsP A n c T B))
  have hln := hq.ln
  have HQ := Lib.hid hq
  have HN := Lib.hid hq.hn
  obtain ⟨w0, hw0⟩ : ∃ w0, w0 = allocs wf (rowsP A n c T B) := ⟨_, rfl⟩
  rw [← hw0] at B0
  have CK := Lib.hid (rcheck_d A n c T B w0 hln)
  have HW : Hid (w0 = (wf.alloc (.cells #[.slice A n c, .int .i64 T, .int .i64 B] 24)).alloc (.cells #[.slice none 0 0, .int .i64 0, .int .i64 0] 24)) := Lib.hid hw0
  clear hw0 hq
  by_cases hc : ¬ ChkQ n T B
  · have HE : Hid (pushE R.length T B = 120) := Lib.hid (by unfold pushE; rw [HN.out, if_pos hc])
    rw [decide_eq_false hc] at CK
    clear hc
    go_enter Tryd.func16, Tryd.ntmps16
    go_wp2_with fail
    rw [← HW.out]
    refine CK.out.mono ?_
    rintro e w1 ⟨rfl, b1⟩
    have B1 := Lib.hid (B0.out.next b1)
    clear b1
    have c00 := B1.out.cell 0 0 rfl rfl
    have zc00 := B1.out.frozen 0 0 rfl
    have c01 := B1.out.cell 0 1 rfl rfl
    have zc01 := B1.out.frozen 0 1 rfl
    have c02 := B1.out.cell 0 2 rfl rfl
    have zc02 := B1.out.frozen 0 2 rfl
    have c10 := B1.out.cell 1 0 rfl rfl
    have zc10 := B1.out.frozen 1 0 rfl
    have c11 := B1.out.cell 1 1 rfl rfl
    have zc11 := B1.out.frozen 1 1 rfl
    have c12 := B1.out.cell 1 2 rfl rfl
    have zc12 := B1.out.frozen 1 2 rfl
    simp only [Nat.add_zero] at c00 zc00 c01 zc01 c02 zc02
    have B2 := Lib.hid (B1.out.setQ 1 rfl (.slice none 0 0) (.int .i64 0) (.int .i64 0))
    go_wp2
    exact bodyPost_ret (ret_qe rfl rfl rfl (B2.out.row 1 _ _ rfl) rfl) rfl (push_bad HE.out (by decide) B2.out.bel)
  replace hc := Classical.not_not.mp hc
  rw [decide_eq_true hc] at CK
  have HCQ := Lib.hid hc
  obtain ⟨c1, c2, c3, c4, c5⟩ := hc
  have hn64 : n ≤ 64 := by have := c1.bounds; omega
  have hn0 : 0 < n := by have := c1.bounds; omega
  clear c1
  go_enter Tryd.func16, Tryd.ntmps16
  go_wp2_with fail
  rw [← HW.out]
  refine CK.out.mono ?_
  rintro e w1 ⟨rfl, b1⟩
  have B1 := Lib.hid (B0.out.next b1)
  clear b1 B0 CK HW
  have c00 := B1.out.cell 0 0 rfl rfl
  have zc00 := B1.out.frozen 0 0 rfl
  have c01 := B1.out.cell 0 1 rfl rfl
  have zc01 := B1.out.frozen 0 1 rfl
  have c02 := B1.out.cell 0 2 rfl rfl
  have zc02 := B1.out.frozen 0 2 rfl
  have c10 := B1.out.cell 1 0 rfl rfl
  have zc10 := B1.out.frozen 1 0 rfl
  have c11 := B1.out.cell 1 1 rfl rfl
  have zc11 := B1.out.frozen 1 1 rfl
  have c12 := B1.out.cell 1 2 rfl rfl
  have zc12 := B1.out.frozen 1 2 rfl
  simp only [Nat.add_zero] at c00 zc00 c01 zc01 c02 zc02
  by_cases h1 : B < T
  · have HE : Hid (pushE R.length T B = 121) := Lib.hid (by unfold pushE; rw [HN.out, if_neg (show ¬ ¬ ChkQ n T B from fun q => q HCQ.out), if_pos (.inl h1)])
    have d1 : decide (B - T < 0) = true := decide_eq_true (by omega)
    clear h1
    have B2 := Lib.hid (B1.out.setQ 1 rfl (.slice none 0 0) (.int .i64 0) (.int .i64 0))
    go_wp2
    exact bodyPost_ret (ret_qe rfl rfl rfl (B2.out.row 1 _ _ rfl) rfl) rfl (push_bad HE.out (by decide) B2.out.bel)
  have d1 : decide (B - T < 0) = false := decide_eq_false (by omega)
  by_cases h2 : B = T + n
  · have HE : Hid (pushE R.length T B = 121) := Lib.hid (by unfold pushE; rw [HN.out, if_neg (show ¬ ¬ ChkQ n T B from fun q => q HCQ.out), if_pos (.inr h2)])
    have d2 : decide ((n : Int) ≤ B - T) = true := decide_eq_true (by omega)
    clear h1 h2
    have B2 := Lib.hid (B1.out.setQ 1 rfl (.slice none 0 0) (.int .i64 0) (.int .i64 0))
    go_wp2
    exact bodyPost_ret (ret_qe rfl rfl rfl (B2.out.row 1 _ _ rfl) rfl) rfl (push_bad HE.out (by decide) B2.out.bel)
  have d2 : decide ((n : Int) ≤ B - T) = false := decide_eq_false (by omega)
  have HE : Hid (pushE R.length T B = 0) := Lib.hid (by unfold pushE; rw [HN.out, if_neg (show ¬ ¬ ChkQ n T B from fun q => q HCQ.out), if_neg (fun q => q.elim h1 h2)])
  obtain ⟨p, hp⟩ : ∃ p, p = plN n B := ⟨_, rfl⟩
  have HP : Hid (plN R.length B = p) := Lib.hid (by rw [HN.out, hp])
  have hpn : p < n := by rw [hp]; exact Nat.mod_lt _ hn0
  obtain ⟨q, rfl⟩ : ∃ q : Nat, B = q := ⟨B.toNat, by omega⟩
  have hmod : Int.tmod (q : Int) (n : Int) = (p : Int) := by rw [hp]; unfold plN; rw [if_neg (by omega), Int.toNat_natCast]; rfl
  have HL1 : Hid (wf.heap.size + 1 < w1.heap.size) := Lib.hid (B1.out.row 1 _ _ rfl).lt
  obtain ⟨g, hg⟩ : ∃ g, g = w1.heap.size := ⟨_, rfl⟩
  obtain ⟨w2, hw2⟩ : ∃ w2, w2 = w1.alloc (.cells #[.slice none 0 0, .int .i64 T, .int .i64 ((q : Int) + 1)] 24) := ⟨_, rfl⟩
  have B2 : Hid (Rws wf (rowsP A n c T q) w2) := Lib.hid (by rw [hw2]; exact B1.out.alloc _)
  have HR2 : Hid (RowV g 24 [.slice none 0 0, .int .i64 T, .int .i64 ((q : Int) + 1)] w2) := Lib.hid (by rw [hw2, hg]; exact RowV.new _ _ _)
  have HO2 : Hid (OwnI w2 (g + 1) (.slice none 0 0) ((R.set p x).take 0)) := Lib.hid ⟨rfl, .inl ⟨rfl, rfl⟩⟩
  have HS2 : Hid (g + 1 ≤ w2.heap.size) := Lib.hid (by rw [hw2, hg]; simp)
  have HGW : Hid (wf.heap.size + 1 < g) := Lib.hid (by rw [hg]; exact HL1.out)
  have HW2 := Lib.hid hw2
  have HG := Lib.hid hg
  clear hp HCQ h1 h2 hw2 hg
  go_upto_region 7 with fail
  rw [← HW2.out, ← HG.out]
  clear HW2 HG B1 HL1
  clear c00 zc00 c01 zc01 c02 zc02 c10 zc10 c11 zc11 c12 zc12
  go_wp2
  go_loopw [8] (fun i wr => ∃ (j : Nat) (A1 : Option Addr) (c1 : Nat), j ≤ n ∧ i = .int .i64 j ∧ Hid (OwnI wr (g + 1) (.slice A1 j c1) ((R.set p x).take j)) ∧ Hid (Rws wf (rowsP A n c T q) wr) ∧ Hid (RowV g 24 [.slice A1 j c1, .int .i64 T, .int .i64 ((q : Int) + 1)] wr) ∧ Hid (g + 1 ≤ wr.heap.size)) (fun i _ => n - (intOf i).toNat)
  case atStart => exact ⟨0, none, 0, Nat.zero_le _, rfl, HO2, B2, HR2, HS2⟩
  case round =>
    clear B2 HO2 HR2 HS2
    obtain ⟨j, A1, c1, hj, rfl, HO, B1, HR, HS⟩ := hrel
    have c00 := B1.out.cell 0 0 rfl rfl
    have zc00 := B1.out.frozen 0 0 rfl
    have c01 := B1.out.cell 0 1 rfl rfl
    have zc01 := B1.out.frozen 0 1 rfl
    have c02 := B1.out.cell 0 2 rfl rfl
    have zc02 := B1.out.frozen 0 2 rfl
    have c10 := B1.out.cell 1 0 rfl rfl
    have zc10 := B1.out.frozen 1 0 rfl
    have c11 := B1.out.cell 1 1 rfl rfl
    have zc11 := B1.out.frozen 1 1 rfl
    have c12 := B1.out.cell 1 2 rfl rfl
    have zc12 := B1.out.frozen 1 2 rfl
    simp only [Nat.add_zero] at c00 zc00 c01 zc01 c02 zc02
    have e0 := HR.out.cell (j := 0) rfl
    have e1 := HR.out.cell (j := 1) rfl
    have e2 := HR.out.cell (j := 2) rfl
    have f0 := HR.out.frozen 0
    by_cases hlt : j < n
    · have HX : Hid ((R.set p x).take (j + 1) = (R.set p x).take j ++ [if j = p then x else R.getD j 0]) := Lib.hid (take_set_step (by rw [HN.out]; exact hlt))
      have HZL : Hid (((R.set p x).take j).length = j) := Lib.hid (by rw [List.length_take, List.length_set, HN.out]; omega)
      obtain ⟨zs, hzs⟩ : ∃ zs, zs = (R.set p x).take j := ⟨_, rfl⟩
      rw [← hzs] at HO HX HZL
      clear hzs
      by_cases hjp : j = p
      · rw [if_pos hjp] at HX
        have hb : ((j : Int) == (p : Int)) = true := by rw [beq_iff_eq]; omega
        clear hjp
        go_wp2_with (at_builtin; refine wpList_push rfl _ _ rfl wr (g + 1) (.slice A1 j c1) zs x j HZL.out (by omega) HO.out HS.out (by first | rfl | simp [Act.eval]) (by first | rfl | simp [Act.eval]) ?_; intro A3 c3 w3 ho3 hb3; (have HO3 := Lib.hid ho3); (have HB3 := Lib.hid hb3); (have HR3 := Lib.hid (HR.out.below hb3 (Nat.lt_succ_self g))); (have e3 := HR3.out.cell (j := 0) rfl); (have f3 := HR3.out.frozen 0); clear ho3 hb3)
        go_roundw
        case rel => exact ⟨j + 1, A3, c3, by omega, by go_num, Lib.hid (by rw [HX.out]; exact HO3.out.setFar (Nat.lt_succ_self g)), Lib.hid (rws_far (B1.out.later HB3.out (by have := HGW.out; simp [rowsP]; omega)) (by have := HGW.out; simp [rowsP]; omega) _), Lib.hid (HR3.out.set 0 _), Lib.hid (by have := HS.out; have := HB3.out.size; simp [World.setCell]; omega)⟩
        case measure => simp [intOf]; omega
      · rw [if_neg hjp] at HX
        have hb : ((j : Int) == (p : Int)) = false := beq_eq_false_iff_ne.mpr (by omega)
        obtain ⟨bb, off, y, hA0, hbb, hy, hcc⟩ := HQ.out.ints.at_ (k := j) (by rw [HN.out]; exact hlt)
        subst hA0
        have hye : R.getD j 0 = y := by rw [List.getD_eq_getElem?_getD, hy]; rfl
        rw [hye] at HX
        have HBB := Lib.hid hbb
        have HCC := Lib.hid hcc
        clear hjp hbb hy hcc hye
        go_upto_region 12 with fail
        refine wp_region_tail 8 [55, 56, 57, 58, 59, 60, 61, 62, 63, 64, 1000] [] (by kernel_rfl) (by kernel_rfl) (by intro d hd; simp at hd ⊢; omega) (fun z => Rws wf (rowsP (some ⟨bb, off, none⟩) n c T q) z ∧ OwnI z (g + 1) (.slice A1 j c1) zs ∧ RowV g 24 [.slice A1 j c1, .int .i64 T, .int .i64 ((q : Int) + 1)] z ∧ g + 1 ≤ z.heap.size) (PhiRp wf g n c A1 j c1 off bb y) (fun _ _ => True) (ThtRp wf g n c T q A1 j c1 zs off bb y)
          (fun z z' h hb => ⟨h.1.next hb, OwnI.below h.2.1 hb, h.2.2.1.below hb h.2.2.1.lt, Nat.le_trans h.2.2.2 hb.size⟩) phiRp_below (⟨B1.out.next (Below.refl _ _).drew, OwnI.below HO.out (Below.refl _ _).drew, HR.out.drewN 1, HS.out⟩) ?hstep ?hloose ?hmid ?htail ?hcon ?hend
        case hstep =>
          intro kq o hkm hkF ho a1 w hI hA hd K hK
          obtain ⟨ρ, hρ⟩ : ∃ ρ, a1.eval = ρ := ⟨_, rfl⟩
          rw [hρ] at hA hd
          match kq, hkm, hkF, ho with
          | 0, _, _, ho =>
            have hoo := Option.some.inj ho
            subst hoo
            exact fx_val hK hρ (.pointer (some ⟨g, 0, none⟩)) (by have h := hA.tmp 7 (by decide); simp [execOp, h, go_sem]) rfl
          | 1, _, _, ho =>
            have hoo := Option.some.inj ho
            subst hoo
            have f0 : ρ (.tmp 55) = .pointer (some ⟨g, 0, none⟩) := hd ⟨0, .data⟩ (by simp) (by rfl) (by decide)
            have h0 := hI.2.2.1.cell (j := 0) rfl
            exact fx_val hK hρ (.slice A1 j c1) (by simp [execOp, f0, h0, go_sem]) rfl
          | 2, _, _, ho =>
            have hoo := Option.some.inj ho
            subst hoo
            exact fx_val hK hρ (.pointer (some ⟨wf.heap.size, 0, none⟩)) (by have h := hA.tmp 2 (by decide); simp [execOp, h, go_sem]) rfl
          | 3, _, _, ho =>
            have hoo := Option.some.inj ho
            subst hoo
            have f2 : ρ (.tmp 57) = .pointer (some ⟨wf.heap.size, 0, none⟩) := hd ⟨2, .data⟩ (by simp) (by rfl) (by decide)
            have h0 := hI.1.cell 0 0 rfl rfl
            simp only [Nat.add_zero] at h0
            exact fx_val hK hρ (.slice (some ⟨bb, off, none⟩) n c) (by simp [execOp, f2, h0, go_sem]) rfl
          | 4, _, _, ho =>
            have hoo := Option.some.inj ho
            subst hoo
            exact fx_val hK hρ (.int .i64 j) (by have h := hA.tmp 8 (by decide); simp [execOp, h, go_sem]) rfl
          | 5, _, _, ho =>
            have hoo := Option.some.inj ho
            subst hoo
            have f3 : ρ (.tmp 58) = .slice (some ⟨bb, off, none⟩) n c := hd ⟨3, .data⟩ (by simp) (by rfl) (by decide)
            have f4 : ρ (.tmp 59) = .int .i64 j := hd ⟨4, .data⟩ (by simp) (by rfl) (by decide)
            exact fx_val hK hρ (.pointer (some ⟨bb, off + j, none⟩)) (by simp [execOp, f3, f4, go_sem]; omega) rfl
          | 6, _, _, ho =>
            have hoo := Option.some.inj ho
            subst hoo
            have f5 : ρ (.tmp 60) = .pointer (some ⟨bb, off + j, none⟩) := hd ⟨5, .data⟩ (by simp) (by rfl) (by decide)
            have h0 := (hI.1.bel.cell (p := ⟨bb, off + j, none⟩) HBB.out).trans HCC.out
            exact fx_val hK hρ (.int .i64 y) (by simp [execOp, f5, h0, go_sem]) rfl
          | 7, _, _, ho =>
            have hoo := Option.some.inj ho
            subst hoo
            have f6 : ρ (.tmp 61) = .int .i64 y := hd ⟨6, .data⟩ (by simp) (by rfl) (by decide)
            exact fx_make hK hρ (.slice (some ⟨w.heap.size, 0, none⟩) 1 1) (w.alloc (.cells #[.int .i64 y] 3)) (by simp [execOp, f6, go_sem]) (ownXs_new hI.2.1 y) (below_alloc _)
          | kq + 8, h, _, _ => exact absurd h (by omega)
        case hloose =>
          intro kq o hkF ho ρ w hA hd
          exact absurd hkF (by simp)
        case hmid =>
          intro vals w hI hF
          exact ⟨Nat.le_refl _, by decide, hF 1 (by decide) (by decide), hI.1, hI.2.2.2, fun _ => hF 7 (by decide) (by decide), fun _ => hI.2.1, fun h => absurd h (by decide), fun h => absurd h (by decide), fun _ => hI.2.2.1⟩
        case htail =>
          intro t o htm ho a1 w hA hT hL K hK
          have htl : t < 11 := (Array.getElem?_eq_some_iff.1 ho).1
          obtain ⟨ρ, hρ⟩ : ∃ ρ, a1.eval = ρ := ⟨_, rfl⟩
          rw [hρ] at hA
          try rw [hρ] at hL
          obtain rfl | rfl | rfl : t = 8 ∨ t = 9 ∨ t = 10 := by omega
          · have hoo := Option.some.inj ho
            subst hoo
            obtain ⟨t1, t2, g0, hr, hs, hx1, ho1, ho2, g64, hrow⟩ := hT
            simp only [hρ] at g0 hx1 ho2 g64
            have ho := ho1 (by simp)
            have hx2 := hx1 (by simp)
            obtain ⟨yv, hx3⟩ : ∃ yv, ρ (.tmp 62) = yv := ⟨_, rfl⟩
            rw [hx3] at hx2
            obtain ⟨v', w', hrun, ⟨F, d, rfl, ho'⟩, hRX, hat⟩ := ownXs_append (tl := 22) (s := 1) (bytes := 8) (z := .int .i64 0) Tryd.underlying22 (by kernel_rfl) rfl (by decide) (by decide) ho hx2 rfl (by simp [Value.oneCell']) (by have := ho.1; simp at this; have := HZL.out; omega) hs
            have hb2 := hRX.below hs
            have hlz : zs.length = j := HZL.out
            unfold OwnI at ho
            rw [hlz] at ho' hrun
            unfold Oper.wp
            rw [show (execOp a1.eval _).run Tryd.prog w = .ok (.value (.slice F (j + 1) d)) w' from by rw [hρ]; exact exec_append (.tmp 56) (.tmp 62) 22 _ _ rfl g0 hx3 hrun, Oper.upon_value]
            refine hK _ _ ⟨by decide, by decide, ?_⟩
            simp only [Option.some.injEq, Nat.reduceEqDiff, if_false, if_true, hρ]
            exact ⟨g0, hr.later hb2 (by have := HGW.out; simp [rowsP]; omega), Nat.le_trans hs hRX.size, fun h => absurd h (by decide), fun h => absurd h (by decide), fun _ => ⟨F, d, rfl, by unfold OwnI; rw [List.length_append, List.length_singleton, hlz, List.map_append]; exact ho', fun h => absurd h (by decide)⟩, fun h => absurd h (by decide), fun _ => (hrow (by decide)).below hb2 (Nat.lt_succ_self g)⟩
          · have hoo := Option.some.inj ho
            subst hoo
            obtain ⟨t1, t2, g0, hr, hs, hx1, ho1, ho2, g64, hrow⟩ := hT
            simp only [hρ] at g0 hx1 ho2 g64
            unfold Oper.wp
            rw [show (execOp a1.eval _).run Tryd.prog w = .ok (.value (.pointer (some ⟨g, 0, none⟩))) (w) from by rw [hρ]; (have h7 := hA.tmp 7 (by decide); simp [execOp, h7, go_sem]), Oper.upon_value]
            refine hK _ _ ⟨by decide, by decide, ?_⟩
            simp only [Option.some.injEq, Nat.reduceEqDiff, if_false, if_true, hρ]
            obtain ⟨A2, c2, q1, q2, _⟩ := ho2 (by decide)
            exact ⟨g0, hr, hs, fun h => absurd h (by decide), fun h => absurd h (by decide), fun _ => ⟨A2, c2, q1, q2, fun h => absurd h (by decide)⟩, fun _ => rfl, fun _ => hrow (by decide)⟩
          · have hoo := Option.some.inj ho
            subst hoo
            obtain ⟨t1, t2, g0, hr, hs, hx1, ho1, ho2, g64, hrow⟩ := hT
            simp only [hρ] at g0 hx1 ho2 g64
            obtain ⟨A2, c2, q1, q2, _⟩ := ho2 (by decide)
            have q64 := g64 (by decide)
            have hw := hrow (by decide)
            have e1 := hw.cell (j := 0) rfl
            have e2 := hw.frozen 0
            unfold Oper.wp
            rw [show (execOp a1.eval _).run Tryd.prog w = .ok .skip (w.setCell ⟨g, 0, none⟩ (.slice A2 (j + 1) c2)) from by rw [hρ]; simp [execOp, q1, q64, e1, e2, go_sem], Oper.upon_skip]
            refine hK undef _ ⟨by decide, by decide, ?_⟩
            simp only [reduceCtorEq, if_false, hρ]
            exact ⟨g0, rws_far hr (by have := HGW.out; simp [rowsP]; omega) _, by simp [World.setCell]; omega, fun h => absurd h (by decide), fun h => absurd h (by decide), fun _ => ⟨A2, c2, q1, q2.setFar (Nat.lt_succ_self g), fun _ => hw.set 0 _⟩, fun _ => q64, fun h => absurd h (by decide)⟩
        case hcon =>
          intro t f g w h hT
          obtain ⟨t1, t2, g0, hr, hs, hx1, ho1, ho2, g64, hrow⟩ := hT
          have q1 := h 1 (by omega) (by simp)
          simp only [List.getD_cons_zero, List.getD_cons_succ] at q1
          refine ⟨t1, t2, q1 ▸ g0, hr, hs, fun e => ?_, ho1, fun e => ?_, fun e => ?_, hrow⟩
          · have q7 := h 7 (by omega) (by simp)
            simp only [List.getD_cons_zero, List.getD_cons_succ] at q7
            exact q7 ▸ hx1 e
          · have q8 := h 8 (by omega) (by simp)
            simp only [List.getD_cons_zero, List.getD_cons_succ] at q8
            exact q8 ▸ ho2 e
          · have q9 := h 9 (by omega) (by simp)
            simp only [List.getD_cons_zero, List.getD_cons_succ] at q9
            exact q9 ▸ g64 e
        case hend =>
          intro vals w3 hT
          obtain ⟨_, _, _, hr, hs, _, _, ho2, _, _⟩ := hT
          obtain ⟨A2, c2, _, q2, q3⟩ := ho2 (by decide)
          have HO3 := Lib.hid q2
          have HR3 := Lib.hid (q3 rfl)
          have HB3 := Lib.hid hr
          have HS3 := Lib.hid hs
          clear ho2 q2 q3 hr hs
          simp only [fillA, fillL, List.contains_cons, List.contains_nil, Nat.reduceBEq, Bool.or_false, Bool.false_or, Bool.or_true, Bool.true_or, cond_true, cond_false, Nat.zero_add, Nat.reduceAdd]
          go_wp2
          go_roundw
          case rel => exact ⟨j + 1, A2, c2, by omega, by go_num, Lib.hid (by rw [HX.out]; exact HO3.out), HB3, HR3, HS3⟩
          case measure => simp [intOf]; omega
    · obtain rfl : j = n := by omega
      have HF : Hid ((R.set p x).take j = R.set p x) := Lib.hid (List.take_of_length_le (by rw [List.length_set, HN.out]; exact Nat.le_refl _))
      have B5 := Lib.hid (B1.out.setQ 1 rfl (.slice A1 j c1) (.int .i64 T) (.int .i64 ((q : Int) + 1)))
      have HO5 : Hid (OwnI (((wr.setCell ⟨wf.heap.size + 1, 0, none⟩ (.slice A1 j c1)).setCell ⟨wf.heap.size + 1, 1, none⟩ (.int .i64 T)).setCell ⟨wf.heap.size + 1, 2, none⟩ (.int .i64 ((q : Int) + 1))) (g + 1) (.slice A1 j c1) ((R.set p x).take j)) := Lib.hid (((HO.out.setFar (by have := HGW.out; omega)).setFar (by have := HGW.out; omega)).setFar (by have := HGW.out; omega))
      go_wp2
      refine bodyPost_ret (ret_qe rfl rfl rfl (B5.out.row 1 _ _ rfl) rfl) rfl ⟨A1, j, c1, ?_, ⟨?_, ?_, hln⟩, B5.out.bel⟩
      · unfold pushT pushB; rw [HE.out]; rfl
      · unfold pushR; rw [HE.out, if_pos rfl, HP.out, ← HF.out]; exact OwnI.down HO5.out (by have := HGW.out; omega)
      · unfold pushR; rw [HE.out, if_pos rfl, List.length_set]; exact HN.out
end
end Go.Proofs.YtnlempddoiidiaaDoor
