/- The walk of DescLess in the seat YtpckmhmabmmllaaDoor, given what the program's functions answer (printed by desc/mk_walks.py). No statement is proved here. -/
import Derived.Test.YtpckmhmabmmllaaDoorZDescPull
import Derived.Deep.CutRange
set_option linter.unusedVariables false
namespace Go.Proofs.YtpckmhmabmmllaaDoor
open Go.RowKit

def PhiL (s sx sy sz : Sh) (T : Task) (k b0 : Nat) (rx rz : Bool) : Nat → Value → World → Prop
  | 0, v, w => v = sx.arg T.period T.deadline
  | 1, v, w => v = .int .i64 0
  | 2, v, w => v = .bool true
  | 3, v, w => v = .bool true
  | 4, v, w => v = sy.arg T.period T.deadline
  | 5, v, w => v = .int .i64 0
  | 6, v, w => v = .bool true
  | 7, v, w => v = .bool true
  | 8, v, w => v = .bool true
  | 9, v, w => v = sz.arg T.period T.deadline
  | 10, v, w => v = .int .i64 0
  | 11, v, w => v = .bool true
  | 12, v, w => v = .bool true
  | 13, v, w => v = .bool true
  | 14, v, w => v = sx.arg T.period T.deadline
  | 15, v, w => v = s.arg T.period T.deadline
  | 16, v, w => v = .bool rx
  | 17, v, w => v = .int .i64 k
  | 18, v, w => v = .pointer (some ⟨b0, 3, none⟩)
  | 19, v, w => v = .slice s.E s.ne s.ec
  | 20, v, w => v = .int .i64 s.ne
  | 21, v, w => v = .bool rx
  | 22, v, w => v = .bool true
  | 23, v, w => v = .bool true
  | 24, v, w => v = .bool true
  | 25, v, w => v = sz.arg T.period T.deadline
  | 26, v, w => v = s.arg T.period T.deadline
  | 27, v, w => v = .bool rz
  | 28, v, w => v = .int .i64 k
  | 29, v, w => v = .pointer (some ⟨b0, 5, none⟩)
  | 30, v, w => v = .slice s.R s.nr s.rc
  | 31, v, w => v = .int .i64 s.nr
  | 32, v, w => v = .bool rz
  | 33, v, w => v = .bool true
  | 34, v, w => v = .bool true
  | 35, v, w => v = .bool true
  | _, _, _ => True
theorem phiL_below (s sx sy sz : Sh) (T : Task) (k b0 : Nat) (rx rz : Bool) : ∀ kq v w w', PhiL s sx sy sz T k b0 rx rz kq v w → Below w.heap.size w w' → PhiL s sx sy sz T k b0 rx rz kq v w' := by
  intro kq v w w' h hb
  match kq, h with
  | 0, h => exact h
  | 1, h => exact h
  | 2, h => exact h
  | 3, h => exact h
  | 4, h => exact h
  | 5, h => exact h
  | 6, h => exact h
  | 7, h => exact h
  | 8, h => exact h
  | 9, h => exact h
  | 10, h => exact h
  | 11, h => exact h
  | 12, h => exact h
  | 13, h => exact h
  | 14, h => exact h
  | 15, h => exact h
  | 16, h => exact h
  | 17, h => exact h
  | 18, h => exact h
  | 19, h => exact h
  | 20, h => exact h
  | 21, h => exact h
  | 22, h => exact h
  | 23, h => exact h
  | 24, h => exact h
  | 25, h => exact h
  | 26, h => exact h
  | 27, h => exact h
  | 28, h => exact h
  | 29, h => exact h
  | 30, h => exact h
  | 31, h => exact h
  | 32, h => exact h
  | 33, h => exact h
  | 34, h => exact h
  | 35, h => exact h
  | kq + 36, h => exact trivial
/-! Plain: one less may be, too -/
theorem MayT.edge {T : Task} (h : MayT T) (k : Nat) : MayT { T with edges := T.edges.eraseIdx k } := by
  have hs := List.eraseIdx_sublist T.edges k
  refine ⟨fun q => h.few ?_, h.time, h.parts, ⟨fun e he => h.edges.1 e (hs.subset he), fun e he => h.edges.2.1 e (hs.subset he), h.edges.2.2.sublist hs⟩, h.futures, h.bars⟩
  have := hs.length_le
  unfold ManyT at q ⊢
  simp only at q
  omega
theorem MayT.future {T : Task} (h : MayT T) (k : Nat) : MayT { T with futures := T.futures.eraseIdx k } := by
  have hs := List.eraseIdx_sublist T.futures k
  refine ⟨fun q => h.few ?_, h.time, h.parts, h.edges, ⟨fun f hf => h.futures.each f (hs.subset hf), h.futures.once.sublist (hs.map _)⟩, h.bars⟩
  have := hs.length_le
  unfold ManyT at q ⊢
  simp only at q
  omega
theorem MayT.bar {T : Task} (h : MayT T) (k : Nat) : MayT { T with bars := T.bars.eraseIdx k } := by
  have hs := List.eraseIdx_sublist T.bars k
  refine ⟨fun q => h.few ?_, h.time, h.parts, h.edges, h.futures, fun b hb => h.bars b (hs.subset hb)⟩
  have := hs.length_le
  unfold ManyT at q ⊢
  simp only at q
  omega
theorem erase_same {α : Type} {l : List α} {k : Nat} : l.eraseIdx k = l ↔ l.length ≤ k := by
  constructor
  · intro h
    refine Nat.le_of_not_lt fun hk => ?_
    have := congrArg List.length h
    rw [List.length_eraseIdx, if_pos hk] at this
    omega
  · exact fun h => List.eraseIdx_of_length_le h
/-- While the four tasks are compared. -/
structure InvL (w : World) (s sx sy sz : Sh) (T : Task) (k gx gy gz : Nat) (y : World) : Prop where
  b : Bx1D w s T y
  cx : CellsD y sx T.period T.deadline gx
  mx : IsD y sx { T with edges := T.edges.eraseIdx k }
  cy : CellsD y sy T.period T.deadline gy
  my : IsD y sy { T with futures := T.futures.eraseIdx k }
  cz : CellsD y sz T.period T.deadline gz
  mz : IsD y sz { T with bars := T.bars.eraseIdx k }
theorem InvL.next {w y z : World} {s sx sy sz : Sh} {T : Task} {k gx gy gz : Nat} (h : InvL w s sx sy sz T k gx gy gz y) (hb : Below y.heap.size y z) : InvL w s sx sy sz T k gx gy gz z :=
  ⟨h.b.next hb, h.cx.next hb, h.mx.below hb, h.cy.next hb, h.my.below hb, h.cz.next hb, h.mz.below hb⟩
/-- The three boxes, x's edges, y's futures, z's barriers as they are by now. -/
def StL (w wB : World) (s : Sh) (T : Task) (x y z : BoxOne) (E : List (Int × Int)) (F : List (Int × Int × Int)) (B : List (List Int × List Int)) (wx : World) : Prop :=
  Bx1D w s T wx ∧ Below wB.heap.size wB wx ∧ ∃ x2 y3 z4, BoxD wB.heap.size T.period T.deadline { T with edges := E } x.g x.u1 x2 x.u3 x.u4 wx ∧ BoxD wB.heap.size T.period T.deadline { T with futures := F } y.g y.u1 y.u2 y3 y.u4 wx ∧ BoxD wB.heap.size T.period T.deadline { T with bars := B } z.g z.u1 z.u2 z.u3 z4 wx ∧
    Apart x2 y.u2 ∧ Apart x2 z.u2 ∧ Apart y3 x.u3 ∧ Apart y3 z.u3 ∧ Apart z4 x.u4 ∧ Apart z4 y.u4
set_option maxRecDepth 100000 in
set_option maxHeartbeats 8000000 in
theorem less_in (K : DescOk) (w : World) (s : Sh) (T : Task) (k : Nat) (hT : DTab w) (h : InD w s T) (f : FewD T) (hM : MayT T) :
    Calls Tryd.prog 7 #[s.arg T.period T.deadline, .int .i64 k] w fun e w' => e = .returned (.bool true) ∧ Below w.heap.size w w' := by
  have HK := Lib.hid K
  have HTW := Lib.hid (fun W (h : Below w.heap.size w W) => DTab.via hT h)
  have B0 := Lib.hid ((Bx1T.start h.t).few h hT f)
  have F1 := Lib.hid f
  have HNE := Lib.hid h.t.he
  have HNF := Lib.hid h.t.hf
  have HNR := Lib.hid h.t.hr
  have hl1 : s.ne ≤ 60 := by have := f.ne; have := h.t.he; omega
  have hl2 : s.nf ≤ 20 := by have := f.nf; have := h.t.hf; omega
  have hl3 : s.nr ≤ 8 := by have := f.nr; have := h.t.hr; omega
  have hF := f.few
  have HFEW := Lib.hid hF
  have CC := Lib.hid (fun W s (h : IsD W s T) => show Calls Tryd.prog 11 #[s.arg T.period T.deadline] W fun e w' => e = .returned (.int .i64 0) ∧ Below W.heap.size W w' by have := HK.out.check W h; rwa [chkT_zero.mpr hM] at this)
  have CX0 := Lib.hid (fun W sx (h : IsD W sx { T with edges := T.edges.eraseIdx k }) => show Calls Tryd.prog 11 #[sx.arg T.period T.deadline] W fun e w' => e = .returned (.int .i64 0) ∧ Below W.heap.size W w' by have := HK.out.check W h; rwa [chkT_zero.mpr (hM.edge k)] at this)
  have CY0 := Lib.hid (fun W sx (h : IsD W sx { T with futures := T.futures.eraseIdx k }) => show Calls Tryd.prog 11 #[sx.arg T.period T.deadline] W fun e w' => e = .returned (.int .i64 0) ∧ Below W.heap.size W w' by have := HK.out.check W h; rwa [chkT_zero.mpr (hM.future k)] at this)
  have CZ0 := Lib.hid (fun W sx (h : IsD W sx { T with bars := T.bars.eraseIdx k }) => show Calls Tryd.prog 11 #[sx.arg T.period T.deadline] W fun e w' => e = .returned (.int .i64 0) ∧ Below W.heap.size W w' by have := HK.out.check W h; rwa [chkT_zero.mpr (hM.bar k)] at this)
  obtain ⟨rx, hrx⟩ : ∃ r, decide ((s.ne : Int) ≤ (k : Int)) = r := ⟨_, rfl⟩
  obtain ⟨rz, hrz⟩ : ∃ r, decide ((s.nr : Int) ≤ (k : Int)) = r := ⟨_, rfl⟩
  have HRX : Hid (decide ((s.ne : Int) ≤ (k : Int)) = rx ∧ decide (s.ne ≤ k) = rx) := Lib.hid ⟨hrx, by rw [← hrx, decide_eq_decide]; omega⟩
  have HRZ : Hid (decide ((s.nr : Int) ≤ (k : Int)) = rz ∧ decide (s.nr ≤ k) = rz) := Lib.hid ⟨hrz, by rw [← hrz, decide_eq_decide]; omega⟩
  have EX : decide (({ T with edges := T.edges.eraseIdx k } : Task) = T) = rx := by
    rw [← HRX.out.2, decide_eq_decide, ← HNE.out, ← erase_same]
    constructor
    · intro h; exact congrArg Task.edges h
    · intro h; rw [h]
  have EZ : decide (({ T with bars := T.bars.eraseIdx k } : Task) = T) = rz := by
    rw [← HRZ.out.2, decide_eq_decide, ← HNR.out, ← erase_same]
    constructor
    · intro h; exact congrArg Task.bars h
    · intro h; rw [h]
  have SX0 := Lib.hid (fun W sx (h : IsD W sx { T with edges := T.edges.eraseIdx k }) (h' : IsD W s T) => show Calls Tryd.prog 14 #[sx.arg T.period T.deadline, s.arg T.period T.deadline] W fun e w' => e = .returned (.bool rx) ∧ Below W.heap.size W w' by have := HK.out.same W h h'; rwa [EX] at this)
  have SZ0 := Lib.hid (fun W sx (h : IsD W sx { T with bars := T.bars.eraseIdx k }) (h' : IsD W s T) => show Calls Tryd.prog 14 #[sx.arg T.period T.deadline, s.arg T.period T.deadline] W fun e w' => e = .returned (.bool rz) ∧ Below W.heap.size W w' by have := HK.out.same W h h'; rwa [EZ] at this)
  have k1 : decide ((k : Int) < 0) = false := by rw [decide_eq_false_iff_not]; omega
  clear K h hT f hM hrx hrz EX EZ hF
  go_enter Tryd.func7, Tryd.ntmps7
  go_wp2_with fail
  refine (awake_any HK.out _ (HTW.out _ B0.out.bel)).mono ?_
  rintro e w1 ⟨rfl, b1⟩
  have B1 := Lib.hid (B0.out.next b1)
  clear b1
  obtain ⟨c1, c2, c3, c4, c5, c6⟩ := B1.out.c
  go_wp2_with fail
  refine (few_d B1.out.d.t F1.out).mono ?_
  rintro e w2 ⟨rfl, b2⟩
  have B2 := Lib.hid (B1.out.next b2)
  clear b2 c1 c2 c3 c4 c5 c6
  obtain ⟨c1, c2, c3, c4, c5, c6⟩ := B2.out.c
  go_wp2_with fail
  refine (own_d B2.out.d).mono ?_
  rintro e w3 ⟨sa, rfl, hd, b3⟩
  have B3 := Lib.hid (B2.out.next b3)
  have D3 := Lib.hid hd
  clear b3 c1 c2 c3 c4 c5 c6 hd
  go_wp2_with fail
  refine (CC.out _ _ D3.out).mono ?_
  rintro e w4 ⟨rfl, b4⟩
  have B4 := Lib.hid (B3.out.next b4)
  clear b4 D3
  clear B0 B1 B2 B3
  go_wp2_with fail
  refine wp_boxes_d2 3 [26, 28, 30] [27, 29, 31] [5, 6, 7] (by kernel_rfl) (by intro d hd; simp at hd ⊢; omega) B4.out
    (fun j o hj ho => by
      match j, hj, ho with
      | 0, _, ho => obtain rfl := Option.some.inj ho; exact ⟨2, rfl, by decide, rfl⟩
      | 1, _, ho => obtain rfl := Option.some.inj ho; exact ⟨2, rfl, by decide, rfl⟩
      | 2, _, ho => obtain rfl := Option.some.inj ho; exact ⟨2, rfl, by decide, rfl⟩)
    (fun j o hj ho => by
      match j, hj, ho with
      | 0, _, ho => obtain rfl := Option.some.inj ho; exact ⟨_, rfl⟩
      | 1, _, ho => obtain rfl := Option.some.inj ho; exact ⟨_, rfl⟩
      | 2, _, ho => obtain rfl := Option.some.inj ho; exact ⟨_, rfl⟩) ?_
  intro vals w5 x hX hbw hbox hap
  obtain ⟨X, hXX⟩ : ∃ X, X = x 0 := ⟨_, rfl⟩
  obtain ⟨Y, hYY⟩ : ∃ Y, Y = x 1 := ⟨_, rfl⟩
  obtain ⟨Z, hZZ⟩ : ∃ Z, Z = x 2 := ⟨_, rfl⟩
  have hb0 := hbox 0 (by decide)
  have hb1 := hbox 1 (by decide)
  have hb2 := hbox 2 (by decide)
  have a01 := hap 0 1 (by decide) (by decide) (by decide)
  have a02 := hap 0 2 (by decide) (by decide) (by decide)
  have a10 := hap 1 0 (by decide) (by decide) (by decide)
  have a12 := hap 1 2 (by decide) (by decide) (by decide)
  have a20 := hap 2 0 (by decide) (by decide) (by decide)
  have a21 := hap 2 1 (by decide) (by decide) (by decide)
  rw [← hXX] at hb0 a01 a02 a10 a20
  rw [← hYY] at hb1 a01 a10 a12 a21
  rw [← hZZ] at hb2 a02 a12 a20 a21
  have ex : vals 5 = .pointer (some ⟨X.g, 0, none⟩) := hb0.1
  have ey : vals 6 = .pointer (some ⟨Y.g, 0, none⟩) := hb1.1
  have ez : vals 7 = .pointer (some ⟨Z.g, 0, none⟩) := hb2.1
  have NE := Lib.hid (And.intro a01.1 (And.intro a02.1 a12.1))
  have S0 : Hid (StL w w4 s T X Y Z T.edges T.futures T.bars w5) := Lib.hid ⟨hX, hbw, X.u2, Y.u3, Z.u4, hb0.2, hb1.2, hb2.2, a01.2.1, a02.2.1, a10.2.2.1, a12.2.2.1, a20.2.2.2, a21.2.2.2⟩
  simp only [fillA, fillL, Nat.zero_add, Nat.reduceAdd]
  rw [ex, ey, ez]
  clear hX hbw hbox hap hXX hYY hZZ hb0 hb1 hb2 a01 a02 a10 a12 a20 a21 ex ey ez
  obtain ⟨c1, c2, c3, c4, c5, c6⟩ := S0.out.1.c
  go_upto_if 36 with fail
  go_cut [] from 37 to 47 (fun wx => Hid (StL w w4 s T X Y Z (T.edges.eraseIdx k) T.futures T.bars wx))
  case first =>
    obtain ⟨q1, q2, x2, y3, z4, p1, p2, p3, p4, p5, p6, p7, p8, p9⟩ := S0.out
    by_cases hlt : k < s.ne
    · have d1 : decide ((k : Int) < (s.ne : Int)) = true := by rw [decide_eq_true_iff]; omega
      have d2 : decide (k < s.ne) = true := decide_eq_true hlt
      clear S0 q1
      go_wp2_with fail
      refine wp_pull_edges 5 1 [37, 38, 39, 40, 41, 42, 43, 44, 45, 46, 47] (by kernel_rfl) (by intro d hd; simp at hd ⊢; omega) (by kernel_rfl) (fun k o ho => by
        match k, ho with
        | 0, ho => obtain rfl := Option.some.inj ho; rfl
        | 1, ho => obtain rfl := Option.some.inj ho; rfl
        | 2, ho => obtain rfl := Option.some.inj ho; rfl
        | 3, ho => obtain rfl := Option.some.inj ho; rfl
        | 4, ho => obtain rfl := Option.some.inj ho; rfl
        | 5, ho => obtain rfl := Option.some.inj ho; rfl
        | 6, ho => obtain rfl := Option.some.inj ho; rfl
        | 7, ho => obtain rfl := Option.some.inj ho; rfl
        | 8, ho => obtain rfl := Option.some.inj ho; rfl
        | 9, ho => obtain rfl := Option.some.inj ho; rfl
        | 10, ho => obtain rfl := Option.some.inj ho; rfl
        | 11, ho => obtain rfl := Option.some.inj ho; rfl
        | k + 12, ho => exact trivial) (fun o ho => by obtain rfl := Option.some.inj ho; rfl) (by decide) (by decide) p1 q2.size rfl rfl (by show k < T.edges.length; rw [HNE.out]; exact hlt) (by show T.edges.length ≤ _; rw [HNE.out]; omega) ?_
      intro vals w' u' hbw hbx hoth hap
      simp only [fillA, fillL, Nat.zero_add, Nat.reduceAdd]
      have HREL : Hid (StL w w4 s T X Y Z (T.edges.eraseIdx k) T.futures T.bars w') := Lib.hid ⟨B4.out.next (q2.trans hbw), q2.trans hbw, u', y3, z4, hbx, hoth _ _ _ _ _ _ _ _ p2 (Ne.symm NE.out.1) p4, hoth _ _ _ _ _ _ _ _ p3 (Ne.symm NE.out.2.1) p5, hap _ p4, hap _ p5, p6, p7, p8, p9⟩
      clear hbw hbx hoth hap d1 d2 p1 p2 p3 p4 p5 p6 p7 p8 p9 q2
      go_wp2
      go_meet
      case rel => exact HREL
    · have d1 : decide ((k : Int) < (s.ne : Int)) = false := by rw [decide_eq_false_iff_not]; omega
      have d2 : decide (k < s.ne) = false := decide_eq_false hlt
      have hn : T.edges.eraseIdx k = T.edges := erase_same.mpr (by rw [HNE.out]; omega)
      have HREL : Hid (StL w w4 s T X Y Z (T.edges.eraseIdx k) T.futures T.bars w5) := Lib.hid (by rw [hn]; exact S0.out)
      clear p1 p2 p3 p4 p5 p6 p7 p8 p9 q1 q2 hn
      go_wp2
      go_meet
      case rel => exact HREL
  case rest =>
    have S1 := hcut
    clear S0 hcut c1 c2 c3 c4 c5 c6
    obtain ⟨c1, c2, c3, c4, c5, c6⟩ := S1.out.1.c
    go_upto_if 52 with fail
    go_cut [] from 53 to 63 (fun wx => Hid (StL w w4 s T X Y Z (T.edges.eraseIdx k) (T.futures.eraseIdx k) T.bars wx))
    case first =>
      obtain ⟨q1, q2, x2, y3, z4, p1, p2, p3, p4, p5, p6, p7, p8, p9⟩ := S1.out
      by_cases hlt : k < s.nf
      · have d1 : decide ((k : Int) < (s.nf : Int)) = true := by rw [decide_eq_true_iff]; omega
        have d2 : decide (k < s.nf) = true := decide_eq_true hlt
        clear S1 q1
        go_wp2_with fail
        refine wp_pull_futures 6 1 [53, 54, 55, 56, 57, 58, 59, 60, 61, 62, 63] (by kernel_rfl) (by intro d hd; simp at hd ⊢; omega) (by kernel_rfl) (fun k o ho => by
          match k, ho with
          | 0, ho => obtain rfl := Option.some.inj ho; rfl
          | 1, ho => obtain rfl := Option.some.inj ho; rfl
          | 2, ho => obtain rfl := Option.some.inj ho; rfl
          | 3, ho => obtain rfl := Option.some.inj ho; rfl
          | 4, ho => obtain rfl := Option.some.inj ho; rfl
          | 5, ho => obtain rfl := Option.some.inj ho; rfl
          | 6, ho => obtain rfl := Option.some.inj ho; rfl
          | 7, ho => obtain rfl := Option.some.inj ho; rfl
          | 8, ho => obtain rfl := Option.some.inj ho; rfl
          | 9, ho => obtain rfl := Option.some.inj ho; rfl
          | 10, ho => obtain rfl := Option.some.inj ho; rfl
          | 11, ho => obtain rfl := Option.some.inj ho; rfl
          | k + 12, ho => exact trivial) (fun o ho => by obtain rfl := Option.some.inj ho; rfl) (by decide) (by decide) p2 q2.size rfl rfl (by show k < T.futures.length; rw [HNF.out]; exact hlt) (by show T.futures.length ≤ _; rw [HNF.out]; omega) ?_
        intro vals w' u' hbw hbx hoth hap
        simp only [fillA, fillL, Nat.zero_add, Nat.reduceAdd]
        have HREL : Hid (StL w w4 s T X Y Z (T.edges.eraseIdx k) (T.futures.eraseIdx k) T.bars w') := Lib.hid ⟨B4.out.next (q2.trans hbw), q2.trans hbw, x2, u', z4, hoth _ _ _ _ _ _ _ _ p1 NE.out.1 p6, hbx, hoth _ _ _ _ _ _ _ _ p3 (Ne.symm NE.out.2.2) p7, p4, p5, hap _ p6, hap _ p7, p8, p9⟩
        clear hbw hbx hoth hap d1 d2 p1 p2 p3 p4 p5 p6 p7 p8 p9 q2
        go_wp2
        go_meet
        case rel => exact HREL
      · have d1 : decide ((k : Int) < (s.nf : Int)) = false := by rw [decide_eq_false_iff_not]; omega
        have d2 : decide (k < s.nf) = false := decide_eq_false hlt
        have hn : T.futures.eraseIdx k = T.futures := erase_same.mpr (by rw [HNF.out]; omega)
        have HREL : Hid (StL w w4 s T X Y Z (T.edges.eraseIdx k) (T.futures.eraseIdx k) T.bars wc) := Lib.hid (by rw [hn]; exact S1.out)
        clear p1 p2 p3 p4 p5 p6 p7 p8 p9 q1 q2 hn
        go_wp2
        go_meet
        case rel => exact HREL
    case rest =>
      have S2 := hcut
      clear S1 hcut c1 c2 c3 c4 c5 c6
      obtain ⟨c1, c2, c3, c4, c5, c6⟩ := S2.out.1.c
      go_upto_if 68 with fail
      go_cut [] from 69 to 79 (fun wx => Hid (StL w w4 s T X Y Z (T.edges.eraseIdx k) (T.futures.eraseIdx k) (T.bars.eraseIdx k) wx))
      case first =>
        obtain ⟨q1, q2, x2, y3, z4, p1, p2, p3, p4, p5, p6, p7, p8, p9⟩ := S2.out
        by_cases hlt : k < s.nr
        · have d1 : decide ((k : Int) < (s.nr : Int)) = true := by rw [decide_eq_true_iff]; omega
          have d2 : decide (k < s.nr) = true := decide_eq_true hlt
          clear S2 q1
          go_wp2_with fail
          refine wp_pull_bars 7 1 [69, 70, 71, 72, 73, 74, 75, 76, 77, 78, 79] (by kernel_rfl) (by intro d hd; simp at hd ⊢; omega) (by kernel_rfl) (fun k o ho => by
            match k, ho with
            | 0, ho => obtain rfl := Option.some.inj ho; rfl
            | 1, ho => obtain rfl := Option.some.inj ho; rfl
            | 2, ho => obtain rfl := Option.some.inj ho; rfl
            | 3, ho => obtain rfl := Option.some.inj ho; rfl
            | 4, ho => obtain rfl := Option.some.inj ho; rfl
            | 5, ho => obtain rfl := Option.some.inj ho; rfl
            | 6, ho => obtain rfl := Option.some.inj ho; rfl
            | 7, ho => obtain rfl := Option.some.inj ho; rfl
            | 8, ho => obtain rfl := Option.some.inj ho; rfl
            | 9, ho => obtain rfl := Option.some.inj ho; rfl
            | 10, ho => obtain rfl := Option.some.inj ho; rfl
            | 11, ho => obtain rfl := Option.some.inj ho; rfl
            | k + 12, ho => exact trivial) (fun o ho => by obtain rfl := Option.some.inj ho; rfl) (by decide) (by decide) p3 q2.size rfl rfl (by show k < T.bars.length; rw [HNR.out]; exact hlt) (by show T.bars.length ≤ _; rw [HNR.out]; omega) ?_
          intro vals w' u' hbw hbx hoth hap
          simp only [fillA, fillL, Nat.zero_add, Nat.reduceAdd]
          have HREL : Hid (StL w w4 s T X Y Z (T.edges.eraseIdx k) (T.futures.eraseIdx k) (T.bars.eraseIdx k) w') := Lib.hid ⟨B4.out.next (q2.trans hbw), q2.trans hbw, x2, y3, u', hoth _ _ _ _ _ _ _ _ p1 NE.out.2.1 p8, hoth _ _ _ _ _ _ _ _ p2 NE.out.2.2 p9, hbx, p4, p5, p6, p7, hap _ p8, hap _ p9⟩
          clear hbw hbx hoth hap d1 d2 p1 p2 p3 p4 p5 p6 p7 p8 p9 q2
          go_wp2
          go_meet
          case rel => exact HREL
        · have d1 : decide ((k : Int) < (s.nr : Int)) = false := by rw [decide_eq_false_iff_not]; omega
          have d2 : decide (k < s.nr) = false := decide_eq_false hlt
          have hn : T.bars.eraseIdx k = T.bars := erase_same.mpr (by rw [HNR.out]; omega)
          have HREL : Hid (StL w w4 s T X Y Z (T.edges.eraseIdx k) (T.futures.eraseIdx k) (T.bars.eraseIdx k) wc) := Lib.hid (by rw [hn]; exact S2.out)
          clear p1 p2 p3 p4 p5 p6 p7 p8 p9 q1 q2 hn
          go_wp2
          go_meet
          case rel => exact HREL
      case rest =>
        have S3 := hcut
        clear S2 hcut c1 c2 c3 c4 c5 c6
        obtain ⟨c1, c2, c3, c4, c5, c6⟩ := S3.out.1.c
        obtain ⟨q1, q2, x2, y3, z4, p1, p2, p3, _, _, _, _, _, _⟩ := S3.out
        have hF := HFEW.out
        have e1 := (List.eraseIdx_sublist T.edges k).length_le
        have e2 := (List.eraseIdx_sublist T.futures k).length_le
        have e3 := List.eraseIdx_sublist T.bars k
        have e4 := e3.length_le
        obtain ⟨sx, _, _, _, _, lx, ix⟩ := p1.lies ⟨hF.np, by have := hF.ne; show (T.edges.eraseIdx k).length ≤ _; omega, hF.nf, hF.nr, hF.bars⟩ q1.d.tab
        obtain ⟨sy, _, _, _, _, ly, iy⟩ := p2.lies ⟨hF.np, hF.ne, by have := hF.nf; show (T.futures.eraseIdx k).length ≤ _; omega, hF.nr, hF.bars⟩ q1.d.tab
        obtain ⟨sz, _, _, _, _, lz, iz⟩ := p3.lies ⟨hF.np, hF.ne, hF.nf, by have := hF.nr; show (T.bars.eraseIdx k).length ≤ _; omega, fun b hb => hF.bars b (e3.subset hb)⟩ q1.d.tab
        have HI : Hid (InvL w s sx sy sz T k X.g Y.g Z.g wc) := Lib.hid ⟨q1, lx, ix T.period T.deadline, ly, iy T.period T.deadline, lz, iz T.period T.deadline⟩
        have CX := Lib.hid (fun W => CX0.out W sx)
        have CY := Lib.hid (fun W => CY0.out W sy)
        have CZ := Lib.hid (fun W => CZ0.out W sz)
        have SX := Lib.hid (fun W => SX0.out W sx)
        have SZ := Lib.hid (fun W => SZ0.out W sz)
        clear q1 q2 p1 p2 p3 hF e1 e2 e3 e4 lx ly lz ix iy iz S3 CX0 CY0 CZ0 SX0 SZ0 c1 c2 c3 c4 c5 c6 B4
        go_wp2_with fail
        refine wp_region_facts' [80, 81, 82, 83, 84, 85, 86, 87, 88, 89, 90, 91, 92, 93, 94, 95, 96, 97, 98, 99, 100, 101, 102, 103, 104, 105, 106, 107, 108, 109, 110, 111, 112, 113, 114, 4] [] [(3, true), (8, true), (13, true), (24, true)] (by kernel_rfl) (by kernel_rfl) (by kernel_rfl) (by intro d hd; simp at hd ⊢; omega) (InvL w s sx sy sz T k X.g Y.g Z.g) (PhiL s sx sy sz T k w.heap.size rx rz)
          (fun x y h hb => h.next hb) (phiL_below s sx sy sz T k w.heap.size rx rz) (HI.out.next (Below.refl _ _).drew) (by
            intro p hp v x hv
            rcases List.mem_cons.mp hp with rfl | hp
            · exact hv
            · rcases List.mem_cons.mp hp with rfl | hp
              · exact hv
              · rcases List.mem_cons.mp hp with rfl | hp
                · exact hv
                · obtain rfl := List.mem_singleton.mp hp
                  exact hv) (fun k hk => by simp at hk) ?hstep ?hend
        case hstep =>
          intro kq o ho hw a w hI hA hd K hK
          obtain ⟨ρ, hρ⟩ : ∃ ρ, a.eval = ρ := ⟨_, rfl⟩
          rw [hρ] at hA hd
          match kq, ho with
          | 0, ho =>
            have hoo := Option.some.inj ho
            subst hoo
            exact fx_val hK hρ _ (ld_desc rfl ((hA.tmp 5 (by decide))) hI.cx) rfl
          | 1, ho =>
            have hoo := Option.some.inj ho
            subst hoo
            have f0 : (ρ (.tmp 80)) = sx.arg T.period T.deadline := hd ⟨0, .data⟩ (by simp) (by rfl)
            exact fx_call hK hρ 11 _ _ _ rfl (by rw [Array.map_singleton, f0]) (eg_of Tryd.func11 (by kernel_rfl) rfl) ((CX.out _ hI.mx).mono fun e w' ⟨he, hb⟩ => ⟨_, he, rfl, hb⟩)
          | 2, ho =>
            have hoo := Option.some.inj ho
            subst hoo
            have f1 : (ρ (.tmp 81)) = .int .i64 0 := hd ⟨1, .data⟩ (by simp) (by rfl)
            exact fx_val hK hρ (.bool true) (by simp [execOp, f1, hA.const, go_sem]) rfl
          | 3, ho =>
            have hoo := Option.some.inj ho
            subst hoo
            have f2 : (ρ (.tmp 82)) = .bool true := hd ⟨2, .data⟩ (by simp) (by rfl)
            exact fx_val hK hρ (.bool true) (by simp [execOp, f2, go_sem]) rfl
          | 4, ho =>
            have hoo := Option.some.inj ho
            subst hoo
            exact fx_val hK hρ _ (ld_desc rfl ((hA.tmp 6 (by decide))) hI.cy) rfl
          | 5, ho =>
            have hoo := Option.some.inj ho
            subst hoo
            have f4 : (ρ (.tmp 84)) = sy.arg T.period T.deadline := hd ⟨4, .data⟩ (by simp) (by rfl)
            exact fx_call hK hρ 11 _ _ _ rfl (by rw [Array.map_singleton, f4]) (eg_of Tryd.func11 (by kernel_rfl) rfl) ((CY.out _ hI.my).mono fun e w' ⟨he, hb⟩ => ⟨_, he, rfl, hb⟩)
          | 6, ho =>
            have hoo := Option.some.inj ho
            subst hoo
            have f5 : (ρ (.tmp 85)) = .int .i64 0 := hd ⟨5, .data⟩ (by simp) (by rfl)
            exact fx_val hK hρ (.bool true) (by simp [execOp, f5, hA.const, go_sem]) rfl
          | 7, ho =>
            have hoo := Option.some.inj ho
            subst hoo
            have f3 : (ρ (.tmp 83)) = .bool true := hd ⟨3, .data⟩ (by simp) (by rfl)
            have f6 : (ρ (.tmp 86)) = .bool true := hd ⟨6, .data⟩ (by simp) (by rfl)
            exact fx_val hK hρ (.bool true) (by simp [execOp, f3, f6, go_sem]) rfl
          | 8, ho =>
            have hoo := Option.some.inj ho
            subst hoo
            have f7 : (ρ (.tmp 87)) = .bool true := hd ⟨7, .data⟩ (by simp) (by rfl)
            exact fx_val hK hρ (.bool true) (by simp [execOp, f7, go_sem]) rfl
          | 9, ho =>
            have hoo := Option.some.inj ho
            subst hoo
            exact fx_val hK hρ _ (ld_desc rfl ((hA.tmp 7 (by decide))) hI.cz) rfl
          | 10, ho =>
            have hoo := Option.some.inj ho
            subst hoo
            have f9 : (ρ (.tmp 89)) = sz.arg T.period T.deadline := hd ⟨9, .data⟩ (by simp) (by rfl)
            exact fx_call hK hρ 11 _ _ _ rfl (by rw [Array.map_singleton, f9]) (eg_of Tryd.func11 (by kernel_rfl) rfl) ((CZ.out _ hI.mz).mono fun e w' ⟨he, hb⟩ => ⟨_, he, rfl, hb⟩)
          | 11, ho =>
            have hoo := Option.some.inj ho
            subst hoo
            have f10 : (ρ (.tmp 90)) = .int .i64 0 := hd ⟨10, .data⟩ (by simp) (by rfl)
            exact fx_val hK hρ (.bool true) (by simp [execOp, f10, hA.const, go_sem]) rfl
          | 12, ho =>
            have hoo := Option.some.inj ho
            subst hoo
            have f8 : (ρ (.tmp 88)) = .bool true := hd ⟨8, .data⟩ (by simp) (by rfl)
            have f11 : (ρ (.tmp 91)) = .bool true := hd ⟨11, .data⟩ (by simp) (by rfl)
            exact fx_val hK hρ (.bool true) (by simp [execOp, f8, f11, go_sem]) rfl
          | 13, ho =>
            have hoo := Option.some.inj ho
            subst hoo
            have f12 : (ρ (.tmp 92)) = .bool true := hd ⟨12, .data⟩ (by simp) (by rfl)
            exact fx_val hK hρ (.bool true) (by simp [execOp, f12, go_sem]) rfl
          | 14, ho =>
            have hoo := Option.some.inj ho
            subst hoo
            exact fx_val hK hρ _ (ld_desc rfl ((hA.tmp 5 (by decide))) hI.cx) rfl
          | 15, ho =>
            have hoo := Option.some.inj ho
            subst hoo
            exact fx_val hK hρ _ (ld_desc rfl (hA.tmp 2 (by decide)) hI.b.c) rfl
          | 16, ho =>
            have hoo := Option.some.inj ho
            subst hoo
            have f14 : (ρ (.tmp 94)) = sx.arg T.period T.deadline := hd ⟨14, .data⟩ (by simp) (by rfl)
            have f15 : (ρ (.tmp 95)) = s.arg T.period T.deadline := hd ⟨15, .data⟩ (by simp) (by rfl)
            exact fx_call hK hρ 14 _ _ _ rfl (by simp only [List.map_toArray, List.map_cons, List.map_nil, f14, f15]) (eg_of Tryd.func14 (by kernel_rfl) rfl) ((SX.out _ hI.mx hI.b.d).mono fun e w' ⟨he, hb⟩ => ⟨_, he, rfl, hb⟩)
          | 17, ho =>
            have hoo := Option.some.inj ho
            subst hoo
            exact fx_val hK hρ (.int .i64 k) (by have h := hA.tmp 1 (by decide); simp [execOp, h, go_sem]) rfl
          | 18, ho =>
            have hoo := Option.some.inj ho
            subst hoo
            exact fx_val hK hρ _ (by have h := hA.tmp 2 (by decide); simp [execOp, h, go_sem]) rfl
          | 19, ho =>
            have hoo := Option.some.inj ho
            subst hoo
            have f18 : (ρ (.tmp 98)) = .pointer (some ⟨_, 3, none⟩) := hd ⟨18, .data⟩ (by simp) (by rfl)
            exact fx_val hK hρ _ (by have h := hI.b.c.2.2.2.1; simp [execOp, f18, h, go_sem]) rfl
          | 20, ho =>
            have hoo := Option.some.inj ho
            subst hoo
            have f19 : (ρ (.tmp 99)) = .slice s.E s.ne s.ec := hd ⟨19, .data⟩ (by simp) (by rfl)
            exact fx_val hK hρ _ (by simp [execOp, resolve, invoke, builtin, f19, go_sem]) rfl
          | 21, ho =>
            have hoo := Option.some.inj ho
            subst hoo
            have f17 : (ρ (.tmp 97)) = .int .i64 k := hd ⟨17, .data⟩ (by simp) (by rfl)
            have f20 : (ρ (.tmp 100)) = .int .i64 s.ne := hd ⟨20, .data⟩ (by simp) (by rfl)
            exact fx_val hK hρ (.bool rx) (by simp [execOp, f17, f20, go_sem, HRX.out.2]) rfl
          | 22, ho =>
            have hoo := Option.some.inj ho
            subst hoo
            have f16 : (ρ (.tmp 96)) = .bool rx := hd ⟨16, .data⟩ (by simp) (by rfl)
            have f21 : (ρ (.tmp 101)) = .bool rx := hd ⟨21, .data⟩ (by simp) (by rfl)
            exact fx_val hK hρ (.bool true) (by simp [execOp, f16, f21, go_sem]) rfl
          | 23, ho =>
            have hoo := Option.some.inj ho
            subst hoo
            have f13 : (ρ (.tmp 93)) = .bool true := hd ⟨13, .data⟩ (by simp) (by rfl)
            have f22 : (ρ (.tmp 102)) = .bool true := hd ⟨22, .data⟩ (by simp) (by rfl)
            exact fx_val hK hρ (.bool true) (by simp [execOp, f13, f22, go_sem]) rfl
          | 24, ho =>
            have hoo := Option.some.inj ho
            subst hoo
            have f23 : (ρ (.tmp 103)) = .bool true := hd ⟨23, .data⟩ (by simp) (by rfl)
            exact fx_val hK hρ (.bool true) (by simp [execOp, f23, go_sem]) rfl
          | 25, ho =>
            have hoo := Option.some.inj ho
            subst hoo
            exact fx_val hK hρ _ (ld_desc rfl ((hA.tmp 7 (by decide))) hI.cz) rfl
          | 26, ho =>
            have hoo := Option.some.inj ho
            subst hoo
            exact fx_val hK hρ _ (ld_desc rfl (hA.tmp 2 (by decide)) hI.b.c) rfl
          | 27, ho =>
            have hoo := Option.some.inj ho
            subst hoo
            have f25 : (ρ (.tmp 105)) = sz.arg T.period T.deadline := hd ⟨25, .data⟩ (by simp) (by rfl)
            have f26 : (ρ (.tmp 106)) = s.arg T.period T.deadline := hd ⟨26, .data⟩ (by simp) (by rfl)
            exact fx_call hK hρ 14 _ _ _ rfl (by simp only [List.map_toArray, List.map_cons, List.map_nil, f25, f26]) (eg_of Tryd.func14 (by kernel_rfl) rfl) ((SZ.out _ hI.mz hI.b.d).mono fun e w' ⟨he, hb⟩ => ⟨_, he, rfl, hb⟩)
          | 28, ho =>
            have hoo := Option.some.inj ho
            subst hoo
            exact fx_val hK hρ (.int .i64 k) (by have h := hA.tmp 1 (by decide); simp [execOp, h, go_sem]) rfl
          | 29, ho =>
            have hoo := Option.some.inj ho
            subst hoo
            exact fx_val hK hρ _ (by have h := hA.tmp 2 (by decide); simp [execOp, h, go_sem]) rfl
          | 30, ho =>
            have hoo := Option.some.inj ho
            subst hoo
            have f29 : (ρ (.tmp 109)) = .pointer (some ⟨_, 5, none⟩) := hd ⟨29, .data⟩ (by simp) (by rfl)
            exact fx_val hK hρ _ (by have h := hI.b.c.2.2.2.2.2; simp [execOp, f29, h, go_sem]) rfl
          | 31, ho =>
            have hoo := Option.some.inj ho
            subst hoo
            have f30 : (ρ (.tmp 110)) = .slice s.R s.nr s.rc := hd ⟨30, .data⟩ (by simp) (by rfl)
            exact fx_val hK hρ _ (by simp [execOp, resolve, invoke, builtin, f30, go_sem]) rfl
          | 32, ho =>
            have hoo := Option.some.inj ho
            subst hoo
            have f28 : (ρ (.tmp 108)) = .int .i64 k := hd ⟨28, .data⟩ (by simp) (by rfl)
            have f31 : (ρ (.tmp 111)) = .int .i64 s.nr := hd ⟨31, .data⟩ (by simp) (by rfl)
            exact fx_val hK hρ (.bool rz) (by simp [execOp, f28, f31, go_sem, HRZ.out.2]) rfl
          | 33, ho =>
            have hoo := Option.some.inj ho
            subst hoo
            have f27 : (ρ (.tmp 107)) = .bool rz := hd ⟨27, .data⟩ (by simp) (by rfl)
            have f32 : (ρ (.tmp 112)) = .bool rz := hd ⟨32, .data⟩ (by simp) (by rfl)
            exact fx_val hK hρ (.bool true) (by simp [execOp, f27, f32, go_sem]) rfl
          | 34, ho =>
            have hoo := Option.some.inj ho
            subst hoo
            have f24 : (ρ (.tmp 104)) = .bool true := hd ⟨24, .data⟩ (by simp) (by rfl)
            have f33 : (ρ (.tmp 113)) = .bool true := hd ⟨33, .data⟩ (by simp) (by rfl)
            exact fx_val hK hρ (.bool true) (by simp [execOp, f24, f33, go_sem]) rfl
          | 35, ho =>
            have hoo := Option.some.inj ho
            subst hoo
            have f34 : (ρ (.tmp 114)) = .bool true := hd ⟨34, .data⟩ (by simp) (by rfl)
            exact fx_val hK hρ (.bool true) (by simp [execOp, f34, go_sem]) rfl
          | kq + 36, ho => simp at ho
        case hend =>
          intro vals x hI hF
          have f35 : vals 4 = .bool true := hF 35 (by decide)
          simp only [fillA, fillL, List.contains_cons, List.contains_nil, Nat.reduceBEq, Bool.or_false, Bool.or_true, cond_true, cond_false, Nat.zero_add, Nat.reduceAdd]
          rw [f35]
          have HJ := Lib.hid hI
          clear hF hI f35
          go_wp2
          go_ret
          exact ⟨rfl, HJ.out.b.bel⟩
set_option maxRecDepth 100000 in
set_option maxHeartbeats 8000000 in
theorem less_out (K : DescOk) (w : World) (s : Sh) (T : Task) (x : Int) (hT : DTab w) (h : InD w s T) (f : FewD T) (hM : ¬ (MayT T ∧ 0 ≤ x)) :
    Calls Tryd.prog 7 #[s.arg T.period T.deadline, .int .i64 x] w fun e w' => e = .returned (.bool true) ∧ Below w.heap.size w w' := by
  have HK := Lib.hid K
  have HTW := Lib.hid (fun W (h : Below w.heap.size w W) => DTab.via hT h)
  have B0 := Lib.hid ((Bx1T.start h.t).few h hT f)
  have F1 := Lib.hid f
  clear K h hT f
  obtain ⟨r, hr⟩ : ∃ r, r = chkT T := ⟨_, rfl⟩
  have CC := Lib.hid (fun W s (h : IsD W s T) => show Calls Tryd.prog 11 #[s.arg T.period T.deadline] W fun e w' => e = .returned (.int .i64 r) ∧ Below W.heap.size W w' by rw [hr]; exact HK.out.check W h)
  by_cases hM2 : MayT T
  · obtain rfl : r = 0 := hr.trans (chkT_zero.mpr hM2)
    have h1 : x < 0 := by
      have : ¬ 0 ≤ x := fun q => hM ⟨hM2, q⟩
      omega
    clear hr hM hM2
    go_enter Tryd.func7, Tryd.ntmps7
    go_wp2_with fail
    refine (awake_any HK.out _ (HTW.out _ B0.out.bel)).mono ?_
    rintro e w1 ⟨rfl, b1⟩
    have B1 := Lib.hid (B0.out.next b1)
    clear b1
    obtain ⟨c1, c2, c3, c4, c5, c6⟩ := B1.out.c
    go_wp2_with fail
    refine (few_d B1.out.d.t F1.out).mono ?_
    rintro e w2 ⟨rfl, b2⟩
    have B2 := Lib.hid (B1.out.next b2)
    clear b2 c1 c2 c3 c4 c5 c6
    obtain ⟨c1, c2, c3, c4, c5, c6⟩ := B2.out.c
    go_wp2_with fail
    refine (own_d B2.out.d).mono ?_
    rintro e w3 ⟨sa, rfl, hd, b3⟩
    have B3 := Lib.hid (B2.out.next b3)
    have D3 := Lib.hid hd
    clear b3 c1 c2 c3 c4 c5 c6 hd
    go_wp2_with fail
    refine (CC.out _ _ D3.out).mono ?_
    rintro e w4 ⟨rfl, b4⟩
    have B4 := Lib.hid (B3.out.next b4)
    clear b4 D3
    go_wp2_with fail
    refine (awake_any HK.out _ (HTW.out _ B4.out.bel)).mono ?_
    rintro e w9 ⟨rfl, b9⟩
    have B9 := Lib.hid (B4.out.next b9)
    clear b9
    go_wp2
    go_ret
    exact ⟨rfl, B9.out.bel⟩
  · have hc : (r != 0) = true := by
      rw [bne_iff_ne, hr]
      exact fun k => hM2 (chkT_zero.mp k)
    clear hM hr hM2
    go_enter Tryd.func7, Tryd.ntmps7
    go_wp2_with fail
    refine (awake_any HK.out _ (HTW.out _ B0.out.bel)).mono ?_
    rintro e w1 ⟨rfl, b1⟩
    have B1 := Lib.hid (B0.out.next b1)
    clear b1
    obtain ⟨c1, c2, c3, c4, c5, c6⟩ := B1.out.c
    go_wp2_with fail
    refine (few_d B1.out.d.t F1.out).mono ?_
    rintro e w2 ⟨rfl, b2⟩
    have B2 := Lib.hid (B1.out.next b2)
    clear b2 c1 c2 c3 c4 c5 c6
    obtain ⟨c1, c2, c3, c4, c5, c6⟩ := B2.out.c
    go_wp2_with fail
    refine (own_d B2.out.d).mono ?_
    rintro e w3 ⟨sa, rfl, hd, b3⟩
    have B3 := Lib.hid (B2.out.next b3)
    have D3 := Lib.hid hd
    clear b3 c1 c2 c3 c4 c5 c6 hd
    go_wp2_with fail
    refine (CC.out _ _ D3.out).mono ?_
    rintro e w4 ⟨rfl, b4⟩
    have B4 := Lib.hid (B3.out.next b4)
    clear b4 D3
    go_wp2_with fail
    refine (awake_any HK.out _ (HTW.out _ B4.out.bel)).mono ?_
    rintro e w9 ⟨rfl, b9⟩
    have B9 := Lib.hid (B4.out.next b9)
    clear b9
    go_wp2
    go_ret
    exact ⟨rfl, B9.out.bel⟩
theorem less_few (K : DescOk) (w : World) (s : Sh) (T : Task) (x : Int) (hx : -9223372036854775808 ≤ x ∧ x ≤ 9223372036854775807) (hT : DTab w) (h : InD w s T) (f : FewD T) :
    Calls Tryd.prog 7 #[s.arg T.period T.deadline, .int .i64 x] w fun e w' => e = .returned (.bool true) ∧ Below w.heap.size w w' := by
  by_cases hM : MayT T ∧ 0 ≤ x
  · obtain ⟨k, rfl⟩ := Int.eq_ofNat_of_zero_le hM.2
    exact less_in K w s T k hT h f hM.1
  · exact less_out K w s T x hT h f hM
set_option maxRecDepth 100000 in
set_option maxHeartbeats 4000000 in
theorem less_many (K : DescOk) (w : World) (s : Sh) (T : Task) (x : Int) (hT : DTab w) (h : InD w s T) (f : ¬ FewD T) :
    Calls Tryd.prog 7 #[s.arg T.period T.deadline, .int .i64 x] w fun e w' => e = .returned (.bool true) ∧ Below w.heap.size w w' := by
  have HK := Lib.hid K
  have HTW := Lib.hid (fun W (h : Below w.heap.size w W) => DTab.via hT h)
  have B0 := Lib.hid (Bx1T.start h.t)
  have F1 := Lib.hid f
  clear K h hT f
  go_enter Tryd.func7, Tryd.ntmps7
  go_wp2_with fail
  refine (awake_any HK.out _ (HTW.out _ B0.out.bel)).mono ?_
  rintro e w1 ⟨rfl, b1⟩
  have B1 := Lib.hid (B0.out.next b1)
  clear b1
  obtain ⟨c1, c2, c3, c4, c5, c6⟩ := B1.out.c
  go_wp2_with fail
  refine (few_n B1.out.t F1.out).mono ?_
  rintro e w3 ⟨rfl, b3⟩
  have B3 := Lib.hid (B1.out.next b3)
  clear b3 c1 c2 c3 c4 c5 c6 B0 B1
  go_wp2_with fail
  refine (awake_any HK.out _ (HTW.out _ B3.out.bel)).mono ?_
  rintro e w4 ⟨rfl, b4⟩
  have B4 := Lib.hid (B3.out.next b4)
  clear b4
  go_wp2
  go_ret
  exact ⟨rfl, B4.out.bel⟩
theorem walk_DescLess (K : DescOk) (w : World) (hT : DTab w) {s : Sh} {T : Task} (h : InD w s T) (x : Int) (hx : -9223372036854775808 ≤ x ∧ x ≤ 9223372036854775807) :
    Calls Tryd.prog 7 #[s.arg T.period T.deadline, .int .i64 x] w fun e w' => e = .returned (.bool true) ∧ Below w.heap.size w w' := by
  by_cases hf : FewD T
  · exact less_few K w s T x hx hT h hf
  · exact less_many K w s T x hT h hf
end Go.Proofs.YtpckmhmabmmllaaDoor
