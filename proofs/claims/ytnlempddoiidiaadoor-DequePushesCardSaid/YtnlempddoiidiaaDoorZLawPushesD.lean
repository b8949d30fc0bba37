/- DequePushes in the seat YtnlempddoiidiaaDoor: its walk. No statement is proved here. -/
import Derived.Test.YtnlempddoiidiaaDoorZM13
import Derived.Test.YtnlempddoiidiaaDoorZDequeOpen
set_option linter.unusedSimpArgs false
set_option linter.unusedVariables false
set_option linter.unusedSimpArgs false
namespace Go.Proofs.YtnlempddoiidiaaDoor
open Go Go.RowKit

theorem own_cap {w : World} {b : Nat} {A : Option Addr} {n c : Nat} {R : List Int} (h : OwnI w b (.slice A n c) R) : n ≤ c := by
  rcases h.2 with ⟨hv, hn⟩ | ⟨g, cap, cur, hv, _, _, hle, _⟩
  · injection hv with _ h1 h2
    omega
  · injection hv with _ h1 h2
    omega
theorem items_push {R : List Int} {T B x : Int} (h : pushE R.length T B = 0) : itemsE (pushR R T B x) T (B + 1) = itemsE R T B ++ [x] ∧ ChkQ R.length T B ∧ ChkQ R.length T (B + 1) ∧ T ≤ B ∧ B < T + R.length ∧ pushR R T B x = R.set (plN R.length B) x := by
  have h0 := h
  unfold pushE at h
  by_cases hc : ChkQ R.length T B
  · rw [if_neg (show ¬ ¬ ChkQ R.length T B from fun q => q hc)] at h
    by_cases hb : B < T ∨ B = T + R.length
    · rw [if_pos hb] at h; cases h
    · obtain ⟨c1, c2, c3, c4, c5⟩ := hc
      have h2 : ¬ B < T := fun q => hb (.inl q)
      have h3 : ¬ B = T + R.length := fun q => hb (.inr q)
      have hc2 : ChkQ R.length T (B + 1) := ⟨c1, c2, c3, by omega, by omega⟩
      have hr : pushR R T B x = R.set (plN R.length B) x := by unfold pushR; rw [if_pos h0]
      refine ⟨?_, ⟨c1, c2, c3, c4, c5⟩, hc2, by omega, by omega, hr⟩
      rw [hr]
      unfold itemsE
      rw [List.length_set, if_pos hc2, if_pos ⟨c1, c2, c3, c4, c5⟩]
      have hp : plN R.length B = B.toNat % R.length := by unfold plN; rw [if_neg (by omega)]
      rw [hp]
      exact itemsD_push c2 (by omega) (by omega)
  · rw [if_pos hc] at h; cases h
def PhiPu (A : Option Addr) (n c : Nat) (R : List Int) (T B : Int) (A5 : Option Addr) (n5 c5 : Nat) (R5 L M : List Int) : Nat → Value → World → Prop
  | 0, v, w => v = .agg #[.slice A n c, .int .i64 T, .int .i64 B]
  | 1, v, w => ∃ A1 c1, v = .agg #[.slice A1 n c1, .int .i64 T, .int .i64 B] ∧ IsQ w A1 n c1 R
  | 2, v, w => ∃ A1 c1, v = .slice A1 L.length c1 ∧ IsQ w A1 L.length c1 L
  | 3, v, w => v = .agg #[.slice A5 n5 c5, .int .i64 T, .int .i64 (B + 1)]
  | 4, v, w => ∃ A1 c1, v = .agg #[.slice A1 n5 c1, .int .i64 T, .int .i64 (B + 1)] ∧ IsQ w A1 n5 c1 R5
  | 5, v, w => ∃ A1 c1, v = .slice A1 M.length c1 ∧ IsQ w A1 M.length c1 M ∧ M.length ≤ c1
  | 6, v, w => ∃ A1 c1, v = .slice A1 L.length c1 ∧ IsQ w A1 L.length c1 L
  | 7, v, w => ∃ A1 c1, v = .slice A1 M.length c1 ∧ IsQ w A1 M.length c1 M ∧ M.length ≤ c1
  | _, _, _ => True
theorem phiPu_below {A : Option Addr} {n c : Nat} {R : List Int} {T B : Int} {A5 : Option Addr} {n5 c5 : Nat} {R5 L M : List Int} : ∀ kq v w w', PhiPu A n c R T B A5 n5 c5 R5 L M kq v w → Below w.heap.size w w' → PhiPu A n c R T B A5 n5 c5 R5 L M kq v w' := by
  intro kq v w w' h hb
  match kq, h with
  | 0, h => exact h
  | 1, h => exact (by obtain ⟨A1, c1, e, hq⟩ := h; exact ⟨A1, c1, e, hq.below hb⟩)
  | 2, h => exact (by obtain ⟨A1, c1, e, hq⟩ := h; exact ⟨A1, c1, e, hq.below hb⟩)
  | 3, h => exact h
  | 4, h => exact (by obtain ⟨A1, c1, e, hq⟩ := h; exact ⟨A1, c1, e, hq.below hb⟩)
  | 5, h => exact (by obtain ⟨A1, c1, e, hq, hc⟩ := h; exact ⟨A1, c1, e, hq.below hb, hc⟩)
  | 6, h => exact (by obtain ⟨A1, c1, e, hq⟩ := h; exact ⟨A1, c1, e, hq.below hb⟩)
  | 7, h => exact (by obtain ⟨A1, c1, e, hq, hc⟩ := h; exact ⟨A1, c1, e, hq.below hb, hc⟩)
  | kq + 8, h => exact trivial
def ThtPu (L M : List Int) (wr : World) (t : Nat) (f : Nat → Value) (w : World) : Prop := 8 ≤ t ∧ Below wr.heap.size wr w ∧ (∃ A1 c1, f 7 = .slice A1 L.length c1 ∧ IsQ w A1 L.length c1 L) ∧ ∃ A1 c1, f 8 = .slice A1 M.length c1 ∧ IsQ w A1 M.length c1 M ∧ M.length ≤ c1
section
variable {A : Option Addr} {n c : Nat} {R : List Int}
set_option maxRecDepth 100000 in
set_option maxHeartbeats 16000000 in
theorem pushesD_any (T B x : Int) (w : World) (hT : DTab w) (hn9 : n ≤ 9223372036854775807) (hq : n ≤ 130 → IsQ w A n c R) :
    Calls Tryd.prog 7 #[.agg #[.slice A n c, .int .i64 T, .int .i64 B], .int .i64 x] w fun e w' => e = .returned (.bool true) ∧ Below w.heap.size w w' := by
  have B0 := Lib.hid (Rws.start w (rowQ A n c T B))
  obtain ⟨w0, hw0⟩ : ∃ w0, w0 = allocs w (rowQ A n c T B) := ⟨_, rfl⟩
  rw [← hw0] at B0
  have HT := Lib.hid hT
  have CA := Lib.hid (awakeD_any w0 (hT.via B0.out.bel))
  have HW : Hid (w0 = w.alloc (.cells #[.slice A n c, .int .i64 T, .int .i64 B] 24)) := Lib.hid hw0
  have HQ := Lib.hid hq
  clear hw0 hq hT
  by_cases h130 : 130 < n
  · have hd : decide (130 < n) = true := decide_eq_true h130
    go_enter Tryd.func7, Tryd.ntmps7
    go_wp2_with fail
    rw [← HW.out]
    refine CA.out.mono ?_
    rintro e w1 ⟨rfl, b1⟩
    have B1 := Lib.hid (B0.out.next b1)
    have CA1 := Lib.hid (awakeD_any w1 (HT.out.via B1.out.bel))
    clear b1 B0 CA HW
    have c00 := B1.out.cell 0 0 rfl rfl
    have c01 := B1.out.cell 0 1 rfl rfl
    have c02 := B1.out.cell 0 2 rfl rfl
    simp only [Nat.add_zero] at c00 c01 c02
    go_wp2_with fail
    refine CA1.out.mono ?_
    rintro e w2 ⟨rfl, b2⟩
    have B2 := Lib.hid (B1.out.next b2)
    clear b2 B1 CA1
    go_wp2
    go_ret
    exact ⟨rfl, B2.out.bel⟩
  have hd : decide (130 < n) = false := decide_eq_false h130
  have hq := HQ.out (by omega)
  have HI := Lib.hid hq
  have HN := Lib.hid hq.hn
  have hn130 : n ≤ 130 := by omega
  clear HQ hq hn9 h130
  go_enter Tryd.func7, Tryd.ntmps7
  go_wp2_with fail
  rw [← HW.out]
  refine CA.out.mono ?_
  rintro e w1 ⟨rfl, b1⟩
  have B1 := Lib.hid (B0.out.next b1)
  have CO := Lib.hid (ownD_any T B w1 (HI.out.below B1.out.bel))
  clear b1 B0 CA HW
  have c00 := B1.out.cell 0 0 rfl rfl
  have c01 := B1.out.cell 0 1 rfl rfl
  have c02 := B1.out.cell 0 2 rfl rfl
  simp only [Nat.add_zero] at c00 c01 c02
  go_wp2_with fail
  refine CO.out.mono ?_
  rintro e w2 ⟨A2, c2, rfl, ho, hb⟩
  have B2 := Lib.hid (B1.out.next hb)
  have CP := Lib.hid (dpush_any T B x w2 ho.isQ (HT.out.via B2.out.bel))
  clear ho hb B1 CO
  clear c00 c01 c02
  go_wp2_with fail
  refine CP.out.mono ?_
  rintro e v3 ⟨A5, n5, c5, rfl, ho, hb⟩
  obtain ⟨z, hz⟩ : ∃ z, z = pushE R.length T B := ⟨_, rfl⟩
  obtain ⟨w3, hw⟩ : ∃ w3, w3 = v3.alloc (.cells #[.slice A5 n5 c5, .int .i64 (pushT R.length T B), .int .i64 (pushB R.length T B)] 24) := ⟨_, rfl⟩
  obtain ⟨g5, hg5⟩ : ∃ g5, g5 = v3.heap.size := ⟨_, rfl⟩
  have hbb : Below w2.heap.size w2 w3 := by rw [hw]; exact hb.trans ((below_alloc _).mono hb.size)
  have B3 := Lib.hid (B2.out.next hbb)
  have X5 : Hid (RowV g5 24 [.slice A5 n5 c5, .int .i64 (pushT R.length T B), .int .i64 (pushB R.length T B)] w3) := Lib.hid (by rw [hw, hg5]; exact RowV.new _ _ _)
  have HQ5 : Hid (IsQ w3 A5 n5 c5 (pushR R T B x)) := Lib.hid (by rw [hw]; exact ho.isQ.below (below_alloc _))
  have HW3 := Lib.hid hw
  have HG5 := Lib.hid hg5
  have HZ := Lib.hid hz
  rw [← hz]
  clear hw hg5 hbb ho hb CP B2 hz
  go_upto_region 4 with fail
  rw [← HW3.out, ← HG5.out]
  clear HW3 HG5
  by_cases hz0 : z = 0
  · have hzb : (z != 0) = false := by simp [hz0]
    obtain ⟨i1, i2, i3, i4, i5, i6⟩ := items_push (R := R) (T := T) (B := B) (x := x) (HZ.out.symm.trans hz0)
    have HE0 := HZ.out.symm.trans hz0
    have HPT : Hid (pushT R.length T B = T ∧ pushB R.length T B = B + 1) := Lib.hid (by unfold pushT pushB; rw [HE0, if_pos rfl, if_pos rfl]; exact ⟨rfl, rfl⟩)
    obtain ⟨c1, c2, c3, c4, c5'⟩ := i2
    have HI1 := Lib.hid i1
    have HR5 := Lib.hid i6
    have hT3 : T ≤ B := i4
    have hB4 : B < T + n := by have := i5; rw [HN.out] at this; exact this
    have HC2 := Lib.hid i3
    rw [HPT.out.1, HPT.out.2] at X5
    subst hz0
    have hn64 : n ≤ 64 := by have := c1.bounds; rw [HN.out] at this; omega
    obtain ⟨L, hL⟩ : ∃ L, L = itemsE R T B := ⟨_, rfl⟩
    obtain ⟨M, hM⟩ : ∃ M, M = itemsE (pushR R T B x) T (B + 1) := ⟨_, rfl⟩
    have HLM : Hid (M = L ++ [x]) := Lib.hid (by rw [hM, hL]; exact i1)
    have HML : Hid (M.length = L.length + 1) := Lib.hid (by rw [HLM.out]; simp)
    have HLL : Hid (L.length ≤ 64) := Lib.hid (by rw [hL]; unfold itemsE; split <;> simp [itemsD_len] <;> omega)
    obtain ⟨R5, hR5⟩ : ∃ R5, R5 = pushR R T B x := ⟨_, rfl⟩
    rw [← hR5] at HQ5 hM
    have HL := Lib.hid hL
    have HM := Lib.hid hM
    have HN5 : Hid (n5 = n) := Lib.hid (by rw [← HQ5.out.hn, hR5, i6, List.length_set]; exact HN.out)
    clear i1 i3 i4 i5 i6 HE0 HPT HZ hL hM hR5 c1 c5'
    go_upto_region 6 with fail
    refine wp_region_tail 8 [40, 41, 42, 43, 44, 45, 7, 8] [] (by kernel_rfl) (by kernel_rfl) (by intro d hd; simp at hd ⊢; omega) (fun z => Rws w (rowQ A n c T B) z ∧ Below w3.heap.size w3 z ∧ RowV g5 24 [.slice A5 n5 c5, .int .i64 T, .int .i64 (B + 1)] z ∧ IsQ z A5 n5 c5 R5) (PhiPu A n c R T B A5 n5 c5 R5 L M) (fun _ _ => True) (ThtPu L M w3)
      (fun z z' h hb => ⟨h.1.next hb, h.2.1.trans (hb.mono h.2.1.size), h.2.2.1.below hb h.2.2.1.lt, h.2.2.2.below hb⟩) phiPu_below (⟨B3.out.next (Below.refl _ _).drew, (Below.refl _ _).drew, X5.out.drewN 1, HQ5.out.below (Below.refl _ _).drew⟩) ?hstep ?hloose ?hmid ?htail ?hcon ?hend
    case hstep =>
      intro kq o hkm hkF ho a1 w hI hA hd K hK
      obtain ⟨ρ, hρ⟩ : ∃ ρ, a1.eval = ρ := ⟨_, rfl⟩
      rw [hρ] at hA hd
      match kq, hkm, hkF, ho with
      | 0, _, _, ho =>
        have hoo := Option.some.inj ho
        subst hoo
        have h0 := hI.1.cell 0 0 rfl rfl
        have h1 := hI.1.cell 0 1 rfl rfl
        have h2 := hI.1.cell 0 2 rfl rfl
        simp only [Nat.add_zero] at h0 h1 h2
        have hs := hA.tmp 2 (by decide)
        exact fx_val hK hρ (.agg #[.slice A n c, .int .i64 T, .int .i64 B]) (by simp [execOp, hs, h0, h1, h2, go_sem]) rfl
      | 1, _, _, ho =>
        have hoo := Option.some.inj ho
        subst hoo
        have f0 : ρ (.tmp 40) = .agg #[.slice A n c, .int .i64 T, .int .i64 B] := hd ⟨0, .data⟩ (by simp) (by rfl) (by decide)
        exact fx_call hK hρ 10 _ _ #[.agg #[.slice A n c, .int .i64 T, .int .i64 B]] rfl (by simp only [List.map_toArray, List.map_cons, List.map_nil, hA.const, f0]) (eg_of Tryd.func10 (by kernel_rfl) rfl) ((ownD_any T B w (HI.out.below hI.1.bel)).mono fun e w' ⟨A1, c1, he, ho, hb⟩ => ⟨_, he, ⟨A1, c1, rfl, ho.isQ⟩, hb⟩)
      | 2, _, _, ho =>
        have hoo := Option.some.inj ho
        subst hoo
        have f1 : ∃ A1 c1, (ρ (.tmp 41)) = .agg #[.slice A1 n c1, .int .i64 T, .int .i64 B] ∧ IsQ w A1 n c1 R := hd ⟨1, .data⟩ (by simp) (by rfl) (by decide)
        obtain ⟨A1, c1, e1, hq1⟩ := f1
        exact fx_call hK hρ 18 _ _ #[.agg #[.slice A1 n c1, .int .i64 T, .int .i64 B]] rfl (by simp only [List.map_toArray, List.map_cons, List.map_nil, hA.const, e1]) (eg_of Tryd.func18 (by kernel_rfl) rfl) ((ditems_any T B w hq1 (HT.out.via hI.1.bel)).mono fun e w' ⟨A2, n2, c2, he, ho, hb⟩ => (by
          rw [← HL.out] at ho
          obtain rfl := ho.2.1
          exact ⟨_, he, ⟨A2, c2, rfl, ho.isQ⟩, hb⟩))
      | 3, _, _, ho =>
        have hoo := Option.some.inj ho
        subst hoo
        have h0 := hI.2.2.1.cell (j := 0) rfl
        have h1 := hI.2.2.1.cell (j := 1) rfl
        have h2 := hI.2.2.1.cell (j := 2) rfl
        have hs := hA.tmp 5 (by decide)
        exact fx_val hK hρ (.agg #[.slice A5 n5 c5, .int .i64 T, .int .i64 (B + 1)]) (by simp [execOp, hs, h0, h1, h2, go_sem]) rfl
      | 4, _, _, ho =>
        have hoo := Option.some.inj ho
        subst hoo
        have f3 : ρ (.tmp 43) = .agg #[.slice A5 n5 c5, .int .i64 T, .int .i64 (B + 1)] := hd ⟨3, .data⟩ (by simp) (by rfl) (by decide)
        exact fx_call hK hρ 10 _ _ #[.agg #[.slice A5 n5 c5, .int .i64 T, .int .i64 (B + 1)]] rfl (by simp only [List.map_toArray, List.map_cons, List.map_nil, hA.const, f3]) (eg_of Tryd.func10 (by kernel_rfl) rfl) ((ownD_any T (B + 1) w hI.2.2.2).mono fun e w' ⟨A1, c1, he, ho, hb⟩ => ⟨_, he, ⟨A1, c1, rfl, ho.isQ⟩, hb⟩)
      | 5, _, _, ho =>
        have hoo := Option.some.inj ho
        subst hoo
        have f4 : ∃ A1 c1, (ρ (.tmp 44)) = .agg #[.slice A1 n5 c1, .int .i64 T, .int .i64 (B + 1)] ∧ IsQ w A1 n5 c1 R5 := hd ⟨4, .data⟩ (by simp) (by rfl) (by decide)
        obtain ⟨A1, c1, e1, hq1⟩ := f4
        exact fx_call hK hρ 18 _ _ #[.agg #[.slice A1 n5 c1, .int .i64 T, .int .i64 (B + 1)]] rfl (by simp only [List.map_toArray, List.map_cons, List.map_nil, hA.const, e1]) (eg_of Tryd.func18 (by kernel_rfl) rfl) ((ditems_any T (B + 1) w hq1 (HT.out.via hI.1.bel)).mono fun e w' ⟨A2, n2, c2, he, ho, hb⟩ => (by
          rw [← HM.out] at ho
          obtain rfl := ho.2.1
          exact ⟨_, he, ⟨A2, c2, rfl, ho.isQ, own_cap ho.1⟩, hb⟩))
      | 6, _, _, ho =>
        have hoo := Option.some.inj ho
        subst hoo
        have f2 : ∃ A1 c1, (ρ (.tmp 42)) = .slice A1 L.length c1 ∧ IsQ w A1 L.length c1 L := hd ⟨2, .data⟩ (by simp) (by rfl) (by decide)
        obtain ⟨A1, c1, e1, hq1⟩ := f2
        exact fx_val hK hρ _ (by simp [execOp, e1, go_sem]) ⟨A1, c1, rfl, hq1⟩
      | 7, _, _, ho =>
        have hoo := Option.some.inj ho
        subst hoo
        have f5 : ∃ A1 c1, (ρ (.tmp 45)) = .slice A1 M.length c1 ∧ IsQ w A1 M.length c1 M ∧ M.length ≤ c1 := hd ⟨5, .data⟩ (by simp) (by rfl) (by decide)
        obtain ⟨A1, c1, e1, hq1⟩ := f5
        exact fx_val hK hρ _ (by simp [execOp, e1, go_sem]) ⟨A1, c1, rfl, hq1⟩
      | kq + 8, h, _, _ => exact absurd h (by omega)
    case hloose =>
      intro kq o hkF ho ρ w hA hd
      exact absurd hkF (by simp)
    case hmid =>
      intro vals w hI hF
      exact ⟨Nat.le_refl _, hI.2.1, hF 6 (by decide) (by decide), hF 7 (by decide) (by decide)⟩
    case htail =>
      intro t o htm ho a1 w hA hT hL K hK
      have htl : t < 8 := (Array.getElem?_eq_some_iff.1 ho).1
      obtain ⟨ρ, hρ⟩ : ∃ ρ, a1.eval = ρ := ⟨_, rfl⟩
      rw [hρ] at hA
      try rw [hρ] at hL
      exact absurd htl (by omega)
    case hcon =>
      intro t f g w h hT
      obtain ⟨t1, hb, h7, h8⟩ := hT
      have q6 := h 6 (by omega) (by simp)
      have q7 := h 7 (by omega) (by simp)
      simp only [List.getD_cons_zero, List.getD_cons_succ] at q6 q7
      exact ⟨t1, hb, q6 ▸ h7, q7 ▸ h8⟩
    case hend =>
      intro vals w6 hT
      obtain ⟨_, hbl, ⟨A7, c7, e7, hq7⟩, A8, c8, e8, hq8, hc8⟩ := hT
      have B6 := Lib.hid (B3.out.next hbl)
      have X6 := Lib.hid (X5.out.below hbl X5.out.lt)
      have HQ6 := Lib.hid (HQ5.out.below hbl)
      have hlx : M[L.length]? = some x := by rw [HLM.out, List.getElem?_append_right (Nat.le_refl _), Nat.sub_self]; rfl
      obtain ⟨bb, off, y, hA8, hbb, hy, hcc⟩ := hq8.ints.at_ (k := L.length) (by rw [HML.out]; omega)
      rw [hlx] at hy
      injection hy with hy
      subst hy
      subst hA8
      have hmt : M.take L.length = L := by rw [HLM.out, List.take_left]
      have hi8 := hq8.ints.take L.length
      rw [hmt] at hi8
      have CI := ints_any w6.heap.size (some ⟨bb, off, none⟩) A7 c8 c7 L L w6 (by have := HLL.out; omega) (by have := HLL.out; omega) hi8 hq7.ints
      rw [decide_eq_true (show L = L from rfl)] at CI
      clear hbl hq7 hlx hmt hi8 B3 X5 HQ5 hq8
      simp only [fillA, fillL, List.contains_cons, List.contains_nil, Nat.reduceBEq, Bool.or_false, Bool.false_or, Bool.or_true, Bool.true_or, cond_true, cond_false, Nat.zero_add, Nat.reduceAdd]
      rw [e7, e8]
      clear e7 e8
      rw [HML.out] at hc8 ⊢
      have hl64 : L.length ≤ 64 := HLL.out
      obtain ⟨l, hl⟩ : ∃ l, l = L.length := ⟨_, rfl⟩
      rw [← hl] at CI hc8 hcc hl64 ⊢
      have HCI := Lib.hid CI
      have HCC := Lib.hid hcc
      have HBB := Lib.hid hbb
      clear CI hcc hbb hl HML HLM HLL
      go_wp2_with fail
      refine HCI.out.mono ?_
      rintro e w7 ⟨rfl, N, hdr⟩
      have hbb : Below w6.heap.size w6 w7 := by rw [hdr]; exact below_drewN (Below.refl _ _) N
      have B7 := Lib.hid (B6.out.next hbb)
      have X7 := Lib.hid (X6.out.below hbb X6.out.lt)
      have k8 : w7.cell? ⟨bb, off + l, none⟩ = some (.int .i64 x) := (hbb.cell (p := ⟨bb, off + l, none⟩) HBB.out).trans HCC.out
      have CO := Lib.hid (ownD_any T (B + 1) w7 (HQ6.out.below hbb))
      have k0 := X7.out.cell (j := 0) rfl
      have k1 := X7.out.cell (j := 1) rfl
      have k2 := X7.out.cell (j := 2) rfl
      clear hdr hbb HCI B6 X6 HQ6 HCC HBB
      have c00 := B7.out.cell 0 0 rfl rfl
      have c01 := B7.out.cell 0 1 rfl rfl
      have c02 := B7.out.cell 0 2 rfl rfl
      simp only [Nat.add_zero] at c00 c01 c02
      go_wp2_with fail
      refine CO.out.mono ?_
      rintro e w8 ⟨A9, c9, rfl, ho, hb⟩
      have B8 := Lib.hid (B7.out.next hb)
      have CK := Lib.hid (dcheck_any A9 n5 c9 T (B + 1) w8 ho.2.2 (HT.out.via B8.out.bel))
      rw [show chkQE n5 T (B + 1) = 0 from if_pos (by have := HC2.out; rw [HN.out] at this; rw [HN5.out]; exact this)] at CK
      clear ho hb CO B7 X7 k8 k0 k1 k2
      clear c00 c01 c02
      go_wp2_with fail
      refine CK.out.mono ?_
      rintro e w9 ⟨rfl, hb⟩
      have B9 := Lib.hid (B8.out.next hb)
      clear hb CK B8
      go_wp2
      go_ret
      exact ⟨rfl, B9.out.bel⟩
  · have hzb : (z != 0) = true := bne_iff_ne.mpr hz0
    have HZ2 := Lib.hid hz0
    have hz9 : pushT R.length T B = 0 ∧ pushB R.length T B = 0 ∧ pushR R T B x = [] := by
      have hp : ¬ pushE R.length T B = 0 := fun q => hz0 (HZ.out.trans q)
      unfold pushT pushB pushR
      rw [if_neg hp, if_neg hp, if_neg hp]
      exact ⟨rfl, rfl, rfl⟩
    rw [hz9.1, hz9.2.1] at X5
    rw [hz9.2.2] at HQ5
    obtain rfl : n5 = 0 := HQ5.out.hn.symm
    clear hz0 hz9
    have k0 := X5.out.cell (j := 0) rfl
    have CO := Lib.hid (ownD_any T B w3 (HI.out.below B3.out.bel))
    have HZV : Hid ((ChkQ n T B ∧ z = 121) ∨ (¬ ChkQ n T B ∧ z = 120)) := Lib.hid (by
      have h := HZ.out
      unfold pushE at h
      rw [HN.out] at h
      by_cases hc : ChkQ n T B
      · rw [if_neg (show ¬ ¬ ChkQ n T B from fun q => q hc)] at h
        refine .inl ⟨hc, ?_⟩
        by_cases hb : B < T ∨ B = T + n
        · rw [if_pos hb] at h; exact h
        · rw [if_neg hb] at h; exact absurd h HZ2.out
      · rw [if_pos hc] at h; exact .inr ⟨hc, h⟩)
    clear HZ HZ2
    have c00 := B3.out.cell 0 0 rfl rfl
    have c01 := B3.out.cell 0 1 rfl rfl
    have c02 := B3.out.cell 0 2 rfl rfl
    simp only [Nat.add_zero] at c00 c01 c02
    rcases HZV.out with ⟨hc, rfl⟩ | ⟨hc, rfl⟩
    all_goals
      go_wp2_with fail
      refine CO.out.mono ?_
      rintro e w4 ⟨A4, c4, rfl, ho, hb⟩
      have B4 := Lib.hid (B3.out.next hb)
      have CK := Lib.hid (dcheck_any A4 n c4 T B w4 ho.2.2 (HT.out.via B4.out.bel))
      clear ho hb CO B3 X5 HQ5 k0 HZV
      clear c00 c01 c02
    · rw [show chkQE n T B = 0 from if_pos hc] at CK
      clear hc
      go_wp2_with fail
      refine CK.out.mono ?_
      rintro e w5 ⟨rfl, hb⟩
      have B5 := Lib.hid (B4.out.next hb)
      clear hb CK B4
      go_wp2
      go_ret
      exact ⟨rfl, B5.out.bel⟩
    · rw [show chkQE n T B = 120 from if_neg hc] at CK
      clear hc
      go_wp2_with fail
      refine CK.out.mono ?_
      rintro e w5 ⟨rfl, hb⟩
      have B5 := Lib.hid (B4.out.next hb)
      clear hb CK B4
      go_wp2
      go_ret
      exact ⟨rfl, B5.out.bel⟩
theorem walk_DequePushes (w : World) (hT : DTab w) {T B : Int} (g : InD w A n c R) (x : Int) (hx : -9223372036854775808 ≤ x ∧ x ≤ 9223372036854775807) : Calls Tryd.prog 7 #[.agg #[.slice A n c, .int .i64 T, .int .i64 B], .int .i64 x] w fun e w' => e = .returned (.bool true) ∧ Below w.heap.size w w' := pushesD_any T B x w hT g.big g.isQ
end
end Go.Proofs.YtnlempddoiidiaaDoor
