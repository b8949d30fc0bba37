/- The walk of DescChecks in the seat YtpckmhmabmmllaaDoor, given what the program's functions answer. No statement is proved here. -/
import Derived.Test.YtpckmhmabmmllaaDoorZDescWalk0
set_option linter.unusedVariables false
namespace Go.Proofs.YtpckmhmabmmllaaDoor
open Go.RowKit

/-- Two tasks lie in boxes of the call's own (it began in w), and as they came. -/
structure Bx2D (w : World) (s : Sh) (T : Task) (s' : Sh) (T' : Task) (w' : World) : Prop where
  b : BxS w T.period T.deadline s T T'.period T'.deadline s' T' w'
  d : IsD w' s T
  d' : IsD w' s' T'
theorem Bx2D.next {w w1 w2 : World} {s : Sh} {T : Task} {s' : Sh} {T' : Task} (h : Bx2D w s T s' T' w1) (hb : Below w1.heap.size w1 w2) : Bx2D w s T s' T' w2 := ⟨h.b.next hb, h.d.below hb, h.d'.below hb⟩
theorem BxS.cells {w w' : World} {p q : Int} {s : Sh} {T : Task} {p' q' : Int} {s' : Sh} {T' : Task} (h : BxS w p q s T p' q' s' T' w') :
    (w'.cell? ⟨w.heap.size, 0, none⟩ = some (.int .i64 p) ∧ w'.cell? ⟨w.heap.size, 1, none⟩ = some (.int .i64 q) ∧ w'.cell? ⟨w.heap.size, 2, none⟩ = some (.slice s.P s.np s.pc) ∧ w'.cell? ⟨w.heap.size, 3, none⟩ = some (.slice s.E s.ne s.ec) ∧ w'.cell? ⟨w.heap.size, 4, none⟩ = some (.slice s.F s.nf s.fc) ∧ w'.cell? ⟨w.heap.size, 5, none⟩ = some (.slice s.R s.nr s.rc)) ∧
    w'.cell? ⟨w.heap.size + 1, 0, none⟩ = some (.int .i64 p') ∧ w'.cell? ⟨w.heap.size + 1, 1, none⟩ = some (.int .i64 q') ∧ w'.cell? ⟨w.heap.size + 1, 2, none⟩ = some (.slice s'.P s'.np s'.pc) ∧ w'.cell? ⟨w.heap.size + 1, 3, none⟩ = some (.slice s'.E s'.ne s'.ec) ∧ w'.cell? ⟨w.heap.size + 1, 4, none⟩ = some (.slice s'.F s'.nf s'.fc) ∧ w'.cell? ⟨w.heap.size + 1, 5, none⟩ = some (.slice s'.R s'.nr s'.rc) :=
  ⟨h.b.cells, h.d0, h.d1, h.d2, h.d3, h.d4, h.d5⟩
def PhiC (s : Sh) (T : Task) (s' : Sh) (T' : Task) (r : Int) (u : Bool) : Nat → Value → World → Prop
  | 0, v, w => v = s.arg T.period T.deadline
  | 1, v, w => ∃ x : Sh, v = x.arg T.period T.deadline ∧ IsD w x T
  | 2, v, w => v = .int .i64 r
  | 3, v, w => v = s.arg T.period T.deadline
  | 4, v, w => v = .int .i64 r
  | 5, v, w => v = .bool true
  | 6, v, w => v = .bool true
  | 7, v, w => v = s.arg T.period T.deadline
  | 8, v, w => ∃ x : Sh, v = x.arg T.period T.deadline ∧ IsD w x T
  | 9, v, w => v = s'.arg T'.period T'.deadline
  | 10, v, w => ∃ x : Sh, v = x.arg T'.period T'.deadline ∧ IsD w x T'
  | 11, v, w => v = .bool u
  | 12, v, w => v = s.arg T.period T.deadline
  | 13, v, w => v = s'.arg T'.period T'.deadline
  | 14, v, w => v = .bool u
  | 15, v, w => v = .bool true
  | 16, v, w => v = .bool true
  | 17, v, w => v = .bool true
  | _, _, _ => True
theorem phiC_below (s : Sh) (T : Task) (s' : Sh) (T' : Task) (r : Int) (u : Bool) : ∀ k v w w', PhiC s T s' T' r u k v w → Below w.heap.size w w' → PhiC s T s' T' r u k v w' := by
  intro k v w w' h hb
  match k, h with
  | 0, h => exact h
  | 1, h => obtain ⟨x, e, d⟩ := h; exact ⟨x, e, d.below hb⟩
  | 2, h => exact h
  | 3, h => exact h
  | 4, h => exact h
  | 5, h => exact h
  | 6, h => exact h
  | 7, h => exact h
  | 8, h => obtain ⟨x, e, d⟩ := h; exact ⟨x, e, d.below hb⟩
  | 9, h => exact h
  | 10, h => obtain ⟨x, e, d⟩ := h; exact ⟨x, e, d.below hb⟩
  | 11, h => exact h
  | 12, h => exact h
  | 13, h => exact h
  | 14, h => exact h
  | 15, h => exact h
  | 16, h => exact h
  | 17, h => exact h
  | k + 18, h => exact trivial
set_option maxRecDepth 100000 in
set_option maxHeartbeats 8000000 in
theorem checks_few (K : DescOk) (w : World) (s : Sh) (T : Task) (s' : Sh) (T' : Task) (hT : DTab w) (h : InD w s T) (h' : InD w s' T') (f : FewD T) (f' : FewD T') :
    Calls Tryd.prog 3 #[s.arg T.period T.deadline, s'.arg T'.period T'.deadline] w fun e w' => e = .returned (.bool true) ∧ Below w.heap.size w w' := by
  have HK := Lib.hid K
  have HTB := Lib.hid hT
  have S0 := BxS.start T.period T.deadline T'.period T'.deadline h.t h'.t
  have B0 : Hid (Bx2D w s T s' T' _) := Lib.hid ⟨S0, (h.isD hT f).below S0.b.bel, (h'.isD hT f').below S0.b.bel⟩
  have F1 := Lib.hid f
  have F2 := Lib.hid f'
  clear K h h' S0 hT f f'
  obtain ⟨r, hr⟩ : ∃ r, r = chkT T := ⟨_, rfl⟩
  obtain ⟨u, hu⟩ : ∃ u, u = decide (T = T') := ⟨_, rfl⟩
  have CC := Lib.hid (fun W s (h : IsD W s T) => show Calls Tryd.prog 11 #[s.arg T.period T.deadline] W fun e w' => e = .returned (.int .i64 r) ∧ Below W.heap.size W w' by rw [hr]; exact HK.out.check W h)
  have CR := Lib.hid (fun W s (h : IsD W s T) => show Calls Tryd.prog 13 #[s.arg T.period T.deadline] W fun e w' => e = .returned (.int .i64 r) ∧ Below W.heap.size W w' by rw [hr]; exact rcheck_d h)
  have CS := Lib.hid (fun W s s' (h : IsD W s T) (h' : IsD W s' T') => show Calls Tryd.prog 14 #[s.arg T.period T.deadline, s'.arg T'.period T'.deadline] W fun e w' => e = .returned (.bool u) ∧ Below W.heap.size W w' by rw [hu]; exact HK.out.same W h h')
  have CT := Lib.hid (fun W s s' (h : IsD W s T) (h' : IsD W s' T') => show Calls Tryd.prog 15 #[s.arg T.period T.deadline, s'.arg T'.period T'.deadline] W fun e w' => e = .returned (.bool u) ∧ Below W.heap.size W w' by rw [hu]; exact rsame_d h h')
  have HTW := Lib.hid (fun W (h : Below w.heap.size w W) => DTab.via HTB.out h)
  clear hr hu
  go_enter Tryd.func3, Tryd.ntmps3
  go_wp2_with fail
  refine (awake_any HK.out _ (HTW.out _ B0.out.b.b.bel)).mono ?_
  rintro e w1 ⟨rfl, b1⟩
  have B1 := Lib.hid (B0.out.next b1)
  clear b1
  obtain ⟨⟨c1, c2, c3, c4, c5, c6⟩, d1, d2, d3, d4, d5, d6⟩ := B1.out.b.cells
  go_wp2_with fail
  refine (few_d B1.out.d.t F1.out).mono ?_
  rintro e w2 ⟨rfl, b2⟩
  have B2 := Lib.hid (B1.out.next b2)
  clear b2 c1 c2 c3 c4 c5 c6 d1 d2 d3 d4 d5 d6
  obtain ⟨⟨c1, c2, c3, c4, c5, c6⟩, d1, d2, d3, d4, d5, d6⟩ := B2.out.b.cells
  go_wp2_with fail
  refine (few_d B2.out.d'.t F2.out).mono ?_
  rintro e w3 ⟨rfl, b3⟩
  have B3 := Lib.hid (B2.out.next b3)
  clear b3 c1 c2 c3 c4 c5 c6 d1 d2 d3 d4 d5 d6 B0 B1 B2
  go_wp2_with fail
  refine wp_region_facts' [18, 19, 20, 21, 22, 23, 24, 25, 26, 27, 28, 29, 30, 31, 32, 33, 34, 4] [] [(6, true)] (by kernel_rfl) (by kernel_rfl) (by kernel_rfl) (by intro d hd; simp at hd ⊢; omega) (fun x => Bx2D w s T s' T' x) (PhiC s T s' T' r u)
    (fun x y h hb => h.next hb) (phiC_below s T s' T' r u) (B3.out.next (Below.refl _ _).drew) (by intro p hp v x hv; obtain rfl := List.mem_singleton.mp hp; exact hv) (fun k hk => by simp at hk) ?hstep ?hend
  case hstep =>
    intro k o ho hw a w hI hA hd K hK
    obtain ⟨ρ, hρ⟩ : ∃ ρ, a.eval = ρ := ⟨_, rfl⟩
    rw [hρ] at hA hd
    match k, ho with
    | 0, ho =>
      have hoo := Option.some.inj ho
      subst hoo
      exact fx_val hK hρ _ (ld_desc rfl (hA.tmp 2 (by decide)) hI.b.cells.1) rfl
    | 1, ho =>
      have hoo := Option.some.inj ho
      subst hoo
      have f0 : (ρ (.tmp 18)) = s.arg T.period T.deadline := hd ⟨0, .data⟩ (by simp) (by rfl)
      exact fx_call hK hρ 12 _ _ _ rfl (by rw [Array.map_singleton, f0]) (eg_of Tryd.func12 (by kernel_rfl) rfl) ((own_d (hI.d)).mono fun e w' ⟨x, he, hd, hb⟩ => ⟨_, he, ⟨x, rfl, hd⟩, hb⟩)
    | 2, ho =>
      have hoo := Option.some.inj ho
      subst hoo
      have f1 : ∃ x : Sh, (ρ (.tmp 19)) = x.arg T.period T.deadline ∧ IsD w x T := hd ⟨1, .data⟩ (by simp) (by rfl)
      obtain ⟨x, e, d⟩ := f1
      exact fx_call hK hρ 11 _ _ _ rfl (by rw [Array.map_singleton, e]) (eg_of Tryd.func11 (by kernel_rfl) rfl) ((CC.out _ _ d).mono fun e w' ⟨he, hb⟩ => ⟨_, he, rfl, hb⟩)
    | 3, ho =>
      have hoo := Option.some.inj ho
      subst hoo
      exact fx_val hK hρ _ (ld_desc rfl (hA.tmp 2 (by decide)) hI.b.cells.1) rfl
    | 4, ho =>
      have hoo := Option.some.inj ho
      subst hoo
      have f3 : (ρ (.tmp 21)) = s.arg T.period T.deadline := hd ⟨3, .data⟩ (by simp) (by rfl)
      exact fx_call hK hρ 13 _ _ _ rfl (by rw [Array.map_singleton, f3]) (eg_of Tryd.func13 (by kernel_rfl) rfl) ((CR.out _ _ hI.d).mono fun e w' ⟨he, hb⟩ => ⟨_, he, rfl, hb⟩)
    | 5, ho =>
      have hoo := Option.some.inj ho
      subst hoo
      have f2 : (ρ (.tmp 20)) = .int .i64 r := hd ⟨2, .data⟩ (by simp) (by rfl)
      have f4 : (ρ (.tmp 22)) = .int .i64 r := hd ⟨4, .data⟩ (by simp) (by rfl)
      exact fx_val hK hρ (.bool true) (by simp [execOp, f2, f4, go_sem]) rfl
    | 6, ho =>
      have hoo := Option.some.inj ho
      subst hoo
      have f5 : (ρ (.tmp 23)) = .bool true := hd ⟨5, .data⟩ (by simp) (by rfl)
      exact fx_val hK hρ (.bool true) (by simp [execOp, f5, go_sem]) rfl
    | 7, ho =>
      have hoo := Option.some.inj ho
      subst hoo
      exact fx_val hK hρ _ (ld_desc rfl (hA.tmp 2 (by decide)) hI.b.cells.1) rfl
    | 8, ho =>
      have hoo := Option.some.inj ho
      subst hoo
      have f7 : (ρ (.tmp 25)) = s.arg T.period T.deadline := hd ⟨7, .data⟩ (by simp) (by rfl)
      exact fx_call hK hρ 12 _ _ _ rfl (by rw [Array.map_singleton, f7]) (eg_of Tryd.func12 (by kernel_rfl) rfl) ((own_d (hI.d)).mono fun e w' ⟨x, he, hd, hb⟩ => ⟨_, he, ⟨x, rfl, hd⟩, hb⟩)
    | 9, ho =>
      have hoo := Option.some.inj ho
      subst hoo
      exact fx_val hK hρ _ (ld_desc rfl (hA.tmp 3 (by decide)) hI.b.cells.2) rfl
    | 10, ho =>
      have hoo := Option.some.inj ho
      subst hoo
      have f9 : (ρ (.tmp 27)) = s'.arg T'.period T'.deadline := hd ⟨9, .data⟩ (by simp) (by rfl)
      exact fx_call hK hρ 12 _ _ _ rfl (by rw [Array.map_singleton, f9]) (eg_of Tryd.func12 (by kernel_rfl) rfl) ((own_d (hI.d')).mono fun e w' ⟨x, he, hd, hb⟩ => ⟨_, he, ⟨x, rfl, hd⟩, hb⟩)
    | 11, ho =>
      have hoo := Option.some.inj ho
      subst hoo
      have f8 : ∃ x : Sh, (ρ (.tmp 26)) = x.arg T.period T.deadline ∧ IsD w x T := hd ⟨8, .data⟩ (by simp) (by rfl)
      have f10 : ∃ x : Sh, (ρ (.tmp 28)) = x.arg T'.period T'.deadline ∧ IsD w x T' := hd ⟨10, .data⟩ (by simp) (by rfl)
      obtain ⟨x, e, d⟩ := f8
      obtain ⟨y, e', d'⟩ := f10
      exact fx_call hK hρ 14 _ _ _ rfl (by simp only [List.map_toArray, List.map_cons, List.map_nil, e, e']) (eg_of Tryd.func14 (by kernel_rfl) rfl) ((CS.out _ _ _ d d').mono fun e w' ⟨he, hb⟩ => ⟨_, he, rfl, hb⟩)
    | 12, ho =>
      have hoo := Option.some.inj ho
      subst hoo
      exact fx_val hK hρ _ (ld_desc rfl (hA.tmp 2 (by decide)) hI.b.cells.1) rfl
    | 13, ho =>
      have hoo := Option.some.inj ho
      subst hoo
      exact fx_val hK hρ _ (ld_desc rfl (hA.tmp 3 (by decide)) hI.b.cells.2) rfl
    | 14, ho =>
      have hoo := Option.some.inj ho
      subst hoo
      have f12 : (ρ (.tmp 30)) = s.arg T.period T.deadline := hd ⟨12, .data⟩ (by simp) (by rfl)
      have f13 : (ρ (.tmp 31)) = s'.arg T'.period T'.deadline := hd ⟨13, .data⟩ (by simp) (by rfl)
      exact fx_call hK hρ 15 _ _ _ rfl (by simp only [List.map_toArray, List.map_cons, List.map_nil, f12, f13]) (eg_of Tryd.func15 (by kernel_rfl) rfl) ((CT.out _ _ _ hI.d hI.d').mono fun e w' ⟨he, hb⟩ => ⟨_, he, rfl, hb⟩)
    | 15, ho =>
      have hoo := Option.some.inj ho
      subst hoo
      have f11 : (ρ (.tmp 29)) = .bool u := hd ⟨11, .data⟩ (by simp) (by rfl)
      have f14 : (ρ (.tmp 32)) = .bool u := hd ⟨14, .data⟩ (by simp) (by rfl)
      exact fx_val hK hρ (.bool true) (by simp [execOp, f11, f14, go_sem]) rfl
    | 16, ho =>
      have hoo := Option.some.inj ho
      subst hoo
      have f6 : (ρ (.tmp 24)) = .bool true := hd ⟨6, .data⟩ (by simp) (by rfl)
      have f15 : (ρ (.tmp 33)) = .bool true := hd ⟨15, .data⟩ (by simp) (by rfl)
      exact fx_val hK hρ (.bool true) (by simp [execOp, f6, f15, go_sem]) rfl
    | 17, ho =>
      have hoo := Option.some.inj ho
      subst hoo
      have f16 : (ρ (.tmp 34)) = .bool true := hd ⟨16, .data⟩ (by simp) (by rfl)
      exact fx_val hK hρ (.bool true) (by simp [execOp, f16, go_sem]) rfl
    | k + 18, ho => simp at ho
  case hend =>
    intro vals x hI hF
    have f17 : vals 4 = .bool true := hF 17 (by decide)
    simp only [fillA, fillL, List.contains_cons, List.contains_nil, Nat.reduceBEq, Bool.or_false, Bool.or_true, cond_true, cond_false, Nat.zero_add, Nat.reduceAdd]
    rw [f17]
    have HI := Lib.hid hI
    clear hF hI f17
    go_wp2
    go_ret
    exact ⟨rfl, HI.out.b.b.bel⟩
set_option maxRecDepth 100000 in
set_option maxHeartbeats 4000000 in
theorem checks_many (K : DescOk) (w : World) (s : Sh) (T : Task) (s' : Sh) (T' : Task) (hT : DTab w) (h : InD w s T) (h' : InD w s' T') (f : ¬ (FewD T ∧ FewD T')) :
    Calls Tryd.prog 3 #[s.arg T.period T.deadline, s'.arg T'.period T'.deadline] w fun e w' => e = .returned (.bool true) ∧ Below w.heap.size w w' := by
  have HK := Lib.hid K
  have HTW := Lib.hid (fun W (h : Below w.heap.size w W) => DTab.via hT h)
  have B0 := Lib.hid (BxS.start T.period T.deadline T'.period T'.deadline h.t h'.t)
  clear K h h' hT
  by_cases hd : FewD T
  · have F1 := Lib.hid hd
    have F2 := Lib.hid (fun k => f ⟨hd, k⟩)
    clear hd f
    go_enter Tryd.func3, Tryd.ntmps3
    go_wp2_with fail
    refine (awake_any HK.out _ (HTW.out _ B0.out.b.bel)).mono ?_
    rintro e w1 ⟨rfl, b1⟩
    have B1 := Lib.hid (B0.out.next b1)
    clear b1
    obtain ⟨⟨c1, c2, c3, c4, c5, c6⟩, d1, d2, d3, d4, d5, d6⟩ := B1.out.cells
    go_wp2_with fail
    refine (few_d B1.out.t F1.out).mono ?_
    rintro e w2 ⟨rfl, b2⟩
    have B2 := Lib.hid (B1.out.next b2)
    clear b2 c1 c2 c3 c4 c5 c6 d1 d2 d3 d4 d5 d6
    obtain ⟨⟨c1, c2, c3, c4, c5, c6⟩, d1, d2, d3, d4, d5, d6⟩ := B2.out.cells
    go_wp2_with fail
    refine (few_n B2.out.t' F2.out).mono ?_
    rintro e w3 ⟨rfl, b3⟩
    have B3 := Lib.hid (B2.out.next b3)
    clear b3 c1 c2 c3 c4 c5 c6 d1 d2 d3 d4 d5 d6 B0 B1 B2
    go_wp2_with fail
    refine (awake_any HK.out _ (HTW.out _ B3.out.b.bel)).mono ?_
    rintro e w4 ⟨rfl, b4⟩
    have B4 := Lib.hid (B3.out.next b4)
    clear b4
    go_wp2
    go_ret
    exact ⟨rfl, B4.out.b.bel⟩
  · have F1 := Lib.hid hd
    clear hd f
    go_enter Tryd.func3, Tryd.ntmps3
    go_wp2_with fail
    refine (awake_any HK.out _ (HTW.out _ B0.out.b.bel)).mono ?_
    rintro e w1 ⟨rfl, b1⟩
    have B1 := Lib.hid (B0.out.next b1)
    clear b1
    obtain ⟨⟨c1, c2, c3, c4, c5, c6⟩, d1, d2, d3, d4, d5, d6⟩ := B1.out.cells
    go_wp2_with fail
    refine (few_n B1.out.t F1.out).mono ?_
    rintro e w3 ⟨rfl, b3⟩
    have B3 := Lib.hid (B1.out.next b3)
    clear b3 c1 c2 c3 c4 c5 c6 d1 d2 d3 d4 d5 d6 B0 B1
    go_wp2_with fail
    refine (awake_any HK.out _ (HTW.out _ B3.out.b.bel)).mono ?_
    rintro e w4 ⟨rfl, b4⟩
    have B4 := Lib.hid (B3.out.next b4)
    clear b4
    go_wp2
    go_ret
    exact ⟨rfl, B4.out.b.bel⟩
theorem walk_DescChecks (K : DescOk) (w : World) (hT : DTab w) {s : Sh} {T : Task} (h : InD w s T) {s' : Sh} {T' : Task} (h' : InD w s' T') :
    Calls Tryd.prog 3 #[s.arg T.period T.deadline, s'.arg T'.period T'.deadline] w fun e w' => e = .returned (.bool true) ∧ Below w.heap.size w w' := by
  by_cases hf : FewD T ∧ FewD T'
  · exact checks_few K w s T s' T' hT h h' hf.1 hf.2
  · exact checks_many K w s T s' T' hT h h' hf
end Go.Proofs.YtpckmhmabmmllaaDoor
