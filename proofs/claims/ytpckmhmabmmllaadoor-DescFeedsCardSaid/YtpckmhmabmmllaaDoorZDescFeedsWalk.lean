/- The walk of DescFeeds in the seat YtpckmhmabmmllaaDoor, given what the program's functions answer (printed by desc/mk_walks.py). No statement is proved here. -/
import Derived.Test.YtpckmhmabmmllaaDoorZDescWalk0
set_option linter.unusedVariables false
namespace Go.Proofs.YtpckmhmabmmllaaDoor
open Go.RowKit

def PhiF (s : Sh) (T : Task) (x : Int) : Nat → Value → World → Prop
  | 0, v, w => v = s.arg T.period T.deadline
  | 1, v, w => ∃ x : Sh, v = x.arg T.period T.deadline ∧ IsD w x T
  | 2, v, w => v = .int .i64 x
  | 3, v, w => LiesI (touchesV T x) v w
  | 4, v, w => v = s.arg T.period T.deadline
  | 5, v, w => ∃ x : Sh, v = x.arg T.period T.deadline ∧ IsD w x T
  | 6, v, w => v = .int .i64 x
  | 7, v, w => LiesI (feedsV T x) v w
  | 8, v, w => LiesI (touchesV T x) v w
  | 9, v, w => LiesI (feedsV T x) v w
  | _, _, _ => True
theorem phiF_below (s : Sh) (T : Task) (x : Int) : ∀ k v w w', PhiF s T x k v w → Below w.heap.size w w' → PhiF s T x k v w' := by
  intro k v w w' h hb
  match k, h with
  | 0, h => exact h
  | 1, h => obtain ⟨x, e, d⟩ := h; exact ⟨x, e, d.below hb⟩
  | 2, h => exact h
  | 3, h => exact LiesI.below h hb
  | 4, h => exact h
  | 5, h => obtain ⟨x, e, d⟩ := h; exact ⟨x, e, d.below hb⟩
  | 6, h => exact h
  | 7, h => exact LiesI.below h hb
  | 8, h => exact LiesI.below h hb
  | 9, h => exact LiesI.below h hb
  | k + 10, h => exact trivial
set_option maxRecDepth 100000 in
set_option maxHeartbeats 8000000 in
theorem feeds_few (K : DescOk) (w : World) (s : Sh) (T : Task) (x : Int) (hx : -9223372036854775808 ≤ x ∧ x ≤ 9223372036854775807) (hT : DTab w) (h : InD w s T) (f : FewD T) :
    Calls Tryd.prog 4 #[s.arg T.period T.deadline, .int .i64 x] w fun e w' => e = .returned (.bool true) ∧ Below w.heap.size w w' := by
  have HK := Lib.hid K
  have HTW := Lib.hid (fun W (h : Below w.heap.size w W) => DTab.via hT h)
  have B0 := Lib.hid ((Bx1T.start h.t).few h hT f)
  have F1 := Lib.hid f
  clear K h hT f
  go_enter Tryd.func4, Tryd.ntmps4
  go_wp2_with fail
  refine (awake_any HK.out _ (HTW.out _ B0.out.bel)).mono ?_
  rintro e w1 ⟨rfl, b1⟩
  have B1 := Lib.hid (B0.out.next b1)
  clear b1
  obtain ⟨c1, c2, c3, c4, c5, c6⟩ := B1.out.c
  go_wp2_with fail
  refine (few_d B1.out.d.t F1.out).mono ?_
  rintro e w2 ⟨rfl, b2⟩
  have B2 := Lib.hid (B1.out.next b2)
  clear b2 c1 c2 c3 c4 c5 c6
  go_wp2_with fail
  refine wp_region_facts' [15, 16, 17, 18, 19, 20, 21, 22, 5, 6] [] [] (by kernel_rfl) (by kernel_rfl) (by kernel_rfl) (by intro d hd; simp at hd ⊢; omega) (fun y => Bx1D w s T y) (PhiF s T x)
    (fun x y h hb => h.next hb) (phiF_below s T x) (B2.out.next (Below.refl _ _).drew) (fun p hp => by simp at hp) (fun k hk => by simp at hk) ?hstep ?hend
  case hstep =>
    intro k o ho hw a w hI hA hd K hK
    obtain ⟨ρ, hρ⟩ : ∃ ρ, a.eval = ρ := ⟨_, rfl⟩
    rw [hρ] at hA hd
    match k, ho with
    | 0, ho =>
      have hoo := Option.some.inj ho
      subst hoo
      exact fx_val hK hρ _ (ld_desc rfl (hA.tmp 2 (by decide)) hI.c) rfl
    | 1, ho =>
      have hoo := Option.some.inj ho
      subst hoo
      have f0 : (ρ (.tmp 15)) = s.arg T.period T.deadline := hd ⟨0, .data⟩ (by simp) (by rfl)
      exact fx_call hK hρ 12 _ _ _ rfl (by rw [Array.map_singleton, f0]) (eg_of Tryd.func12 (by kernel_rfl) rfl) ((own_d (hI.d)).mono fun e w' ⟨x, he, hd, hb⟩ => ⟨_, he, ⟨x, rfl, hd⟩, hb⟩)
    | 2, ho =>
      have hoo := Option.some.inj ho
      subst hoo
      exact fx_val hK hρ (.int .i64 x) (by have h := hA.tmp 1 (by decide); simp [execOp, h, go_sem]) rfl
    | 3, ho =>
      have hoo := Option.some.inj ho
      subst hoo
      have f1 : ∃ x : Sh, (ρ (.tmp 16)) = x.arg T.period T.deadline ∧ IsD w x T := hd ⟨1, .data⟩ (by simp) (by rfl)
      have f2 : (ρ (.tmp 17)) = .int .i64 x := hd ⟨2, .data⟩ (by simp) (by rfl)
      obtain ⟨x', e, d⟩ := f1
      exact fx_call hK hρ 16 _ _ _ rfl (by simp only [List.map_toArray, List.map_cons, List.map_nil, e, f2]) (eg_of Tryd.func16 (by kernel_rfl) rfl) (GotInts.lies (HK.out.touches _ x hx.1 hx.2 d))
    | 4, ho =>
      have hoo := Option.some.inj ho
      subst hoo
      exact fx_val hK hρ _ (ld_desc rfl (hA.tmp 2 (by decide)) hI.c) rfl
    | 5, ho =>
      have hoo := Option.some.inj ho
      subst hoo
      have f4 : (ρ (.tmp 19)) = s.arg T.period T.deadline := hd ⟨4, .data⟩ (by simp) (by rfl)
      exact fx_call hK hρ 12 _ _ _ rfl (by rw [Array.map_singleton, f4]) (eg_of Tryd.func12 (by kernel_rfl) rfl) ((own_d (hI.d)).mono fun e w' ⟨x, he, hd, hb⟩ => ⟨_, he, ⟨x, rfl, hd⟩, hb⟩)
    | 6, ho =>
      have hoo := Option.some.inj ho
      subst hoo
      exact fx_val hK hρ (.int .i64 x) (by have h := hA.tmp 1 (by decide); simp [execOp, h, go_sem]) rfl
    | 7, ho =>
      have hoo := Option.some.inj ho
      subst hoo
      have f5 : ∃ x : Sh, (ρ (.tmp 20)) = x.arg T.period T.deadline ∧ IsD w x T := hd ⟨5, .data⟩ (by simp) (by rfl)
      have f6 : (ρ (.tmp 21)) = .int .i64 x := hd ⟨6, .data⟩ (by simp) (by rfl)
      obtain ⟨x', e, d⟩ := f5
      exact fx_call hK hρ 17 _ _ _ rfl (by simp only [List.map_toArray, List.map_cons, List.map_nil, e, f6]) (eg_of Tryd.func17 (by kernel_rfl) rfl) (GotInts.lies (HK.out.feeds _ x hx.1 hx.2 d))
    | 8, ho =>
      have hoo := Option.some.inj ho
      subst hoo
      have f3 : LiesI (touchesV T x) (ρ (.tmp 18)) w := hd ⟨3, .data⟩ (by simp) (by rfl)
      exact fx_val hK hρ (ρ (.tmp 18)) (by simp [execOp, go_sem]) f3
    | 9, ho =>
      have hoo := Option.some.inj ho
      subst hoo
      have f7 : LiesI (feedsV T x) (ρ (.tmp 22)) w := hd ⟨7, .data⟩ (by simp) (by rfl)
      exact fx_val hK hρ (ρ (.tmp 22)) (by simp [execOp, go_sem]) f7
    | k + 10, ho => simp at ho
  case hend =>
    intro vals y hI hF
    obtain ⟨A1, a1, e5, i1⟩ : LiesI (touchesV T x) (vals 5) y := hF 8 (by decide)
    obtain ⟨A2, a2, e6, i2⟩ : LiesI (feedsV T x) (vals 6) y := hF 9 (by decide)
    simp only [fillA, fillL, List.contains_cons, List.contains_nil, Nat.reduceBEq, Bool.or_false, Bool.or_true, cond_true, cond_false, Nat.zero_add, Nat.reduceAdd]
    rw [e5, e6]
    have HI := Lib.hid hI
    have H1 := Lib.hid i1
    have H2 := Lib.hid i2
    clear hF hI e5 e6 i1 i2 B0 B1 B2
    obtain ⟨c1, c2, c3, c4, c5, c6⟩ := HI.out.c
    by_cases hM : MayT T
    · have CR := Lib.hid (fun W (h : IsD W s T) => by have := rcheck_d h; rwa [chkT_zero.mpr hM] at this)
      have HT1 : Hid (touchesV T x = nums (touL T.futures x)) := Lib.hid (by unfold touchesV; rw [if_pos hM])
      have HT2 : Hid (feedsV T x = feedsL T.edges T.futures x) := Lib.hid (by unfold feedsV; rw [if_pos hM])
      rw [HT1.out] at H1 ⊢
      rw [HT2.out] at H2 ⊢
      obtain ⟨n1, hn1⟩ : ∃ n, n = (nums (touL T.futures x)).length := ⟨_, rfl⟩
      obtain ⟨n2, hn2⟩ : ∃ n, n = (feedsL T.edges T.futures x).length := ⟨_, rfl⟩
      rw [← hn1, ← hn2]
      have HN1 := Lib.hid hn1
      have HN2 := Lib.hid hn2
      have hl1 : n1 ≤ 900 := by
        rw [hn1, nums_length]
        have h1 := touK_len T.futures x 99
        have h2 := HI.out.d.few.nf
        show (touK T.futures x 99).length ≤ _
        omega
      have hl2 : n2 ≤ 900 := by
        rw [hn2]
        have h1 := feedsL_len T.edges T.futures x
        have h2 := HI.out.d.few.nf
        have h3 := HI.out.d.few.ne
        omega
      clear hM hn1 hn2 HT1 HT2
      go_wp2_with fail
      refine (CR.out _ HI.out.d).mono ?_
      rintro e w3 ⟨rfl, b⟩
      have HI3 := Lib.hid (HI.out.next b)
      have H1 := Lib.hid ((H1.out.below b).more b.size)
      have H2 := Lib.hid ((H2.out.below b).more b.size)
      clear b c1 c2 c3 c4 c5 c6
      obtain ⟨c1, c2, c3, c4, c5, c6⟩ := HI3.out.c
      go_wp2_with fail
      refine (rtouches_d x HI3.out.d).mono ?_
      rintro e w4 ⟨_, rfl, ⟨A3, a3, rfl, i3⟩, b⟩
      rw [← HN1.out]
      have HI4 := Lib.hid (HI3.out.next b)
      have H1 := Lib.hid ((H1.out.below b).more b.size)
      have H2 := Lib.hid ((H2.out.below b).more b.size)
      have H3 := Lib.hid i3
      clear b c1 c2 c3 c4 c5 c6 i3
      go_wp2_with fail
      refine (ints_eq HN1.out.symm (by omega) H1.out H3.out).mono ?_
      rintro e w5 ⟨rfl, b⟩
      have HI5 := Lib.hid (HI4.out.next b)
      have H2 := Lib.hid ((H2.out.below b).more b.size)
      clear b
      obtain ⟨c1, c2, c3, c4, c5, c6⟩ := HI5.out.c
      go_wp2_with fail
      refine (rfeeds_d x HI5.out.d).mono ?_
      rintro e w6 ⟨_, rfl, ⟨A4, a4, rfl, i4⟩, b⟩
      rw [← HN2.out]
      have HI6 := Lib.hid (HI5.out.next b)
      have H2 := Lib.hid ((H2.out.below b).more b.size)
      have H4 := Lib.hid i4
      clear b c1 c2 c3 c4 c5 c6 i4
      go_wp2_with fail
      refine (ints_eq HN2.out.symm (by omega) H2.out H4.out).mono ?_
      rintro e w7 ⟨rfl, b⟩
      have HI7 := Lib.hid (HI6.out.next b)
      clear b
      go_wp2
      go_ret
      exact ⟨rfl, HI7.out.bel⟩
    · have HT1 : touchesV T x = [] := by unfold touchesV; rw [if_neg hM]
      have HT2 : feedsV T x = [] := by unfold feedsV; rw [if_neg hM]
      rw [HT1, HT2]
      obtain ⟨r, hr⟩ : ∃ r, r = chkT T := ⟨_, rfl⟩
      have hc : (r != 0) = true := by
        rw [bne_iff_ne, hr]
        exact fun k => hM (chkT_zero.mp k)
      have CR := Lib.hid (fun W (h : IsD W s T) => by have := rcheck_d h; rwa [← hr] at this)
      clear hM HT1 HT2 hr H1 H2
      go_wp2_with fail
      refine (CR.out _ HI.out.d).mono ?_
      rintro e w3 ⟨rfl, b⟩
      have HI3 := Lib.hid (HI.out.next b)
      clear b c1 c2 c3 c4 c5 c6
      go_wp2
      go_ret
      exact ⟨rfl, HI3.out.bel⟩
set_option maxRecDepth 100000 in
set_option maxHeartbeats 4000000 in
theorem feeds_many (K : DescOk) (w : World) (s : Sh) (T : Task) (x : Int) (hT : DTab w) (h : InD w s T) (f : ¬ FewD T) :
    Calls Tryd.prog 4 #[s.arg T.period T.deadline, .int .i64 x] w fun e w' => e = .returned (.bool true) ∧ Below w.heap.size w w' := by
  have HK := Lib.hid K
  have HTW := Lib.hid (fun W (h : Below w.heap.size w W) => DTab.via hT h)
  have B0 := Lib.hid (Bx1T.start h.t)
  have F1 := Lib.hid f
  clear K h hT f
  go_enter Tryd.func4, Tryd.ntmps4
  go_wp2_with fail
  refine (awake_any HK.out _ (HTW.out _ B0.out.bel)).mono ?_
  rintro e w1 ⟨rfl, b1⟩
  have B1 := Lib.hid (B0.out.next b1)
  clear b1
  obtain ⟨c1, c2, c3, c4, c5, c6⟩ := B1.out.c
  go_wp2_with fail
  refine (few_n B1.out.t F1.out).mono ?_
  rintro e w3 ⟨rfl, b3⟩
  have B3 := Lib.hid (B1.out.next b3)
  clear b3 c1 c2 c3 c4 c5 c6 B0 B1
  go_wp2_with fail
  refine (awake_any HK.out _ (HTW.out _ B3.out.bel)).mono ?_
  rintro e w4 ⟨rfl, b4⟩
  have B4 := Lib.hid (B3.out.next b4)
  clear b4
  go_wp2
  go_ret
  exact ⟨rfl, B4.out.bel⟩
theorem walk_DescFeeds (K : DescOk) (w : World) (hT : DTab w) {s : Sh} {T : Task} (h : InD w s T) (x : Int) (hx : -9223372036854775808 ≤ x ∧ x ≤ 9223372036854775807) :
    Calls Tryd.prog 4 #[s.arg T.period T.deadline, .int .i64 x] w fun e w' => e = .returned (.bool true) ∧ Below w.heap.size w w' := by
  by_cases hf : FewD T
  · exact feeds_few K w s T x hx hT h hf
  · exact feeds_many K w s T x hT h hf
end Go.Proofs.YtpckmhmabmmllaaDoor
