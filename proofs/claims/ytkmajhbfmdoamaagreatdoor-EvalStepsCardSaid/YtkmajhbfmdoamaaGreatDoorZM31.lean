/- Own and few of trefoillaw08 in the seat YtkmajhbfmdoamaaGreatDoor: their contracts.
   What Run tells is what each part's feeds come to; what inputs count: in plain words, in the seat YtkmajhbfmdoamaaGreatDoor.
   No statement is proved here. -/
import Derived.Test.YtkmajhbfmdoamaaGreatDoorZEvalNew
import Derived.Test.YtkmajhbfmdoamaaGreatDoorZM26
import Derived.Test.YtkmajhbfmdoamaaGreatDoorZM25
import Derived.Test.YtkmajhbfmdoamaaGreatDoorZM27
set_option linter.unusedSimpArgs false
set_option linter.unusedVariables false
set_option linter.unusedSimpArgs false
namespace Go.Proofs.YtkmajhbfmdoamaaGreatDoor
open Go.RowKit

/-- The boxes of Own. -/
structure BxJ (w : World) (A : Option Addr) (n c : Nat) (F : Option Addr) (m d : Nat) (D : List Bool) (V : List Int) (w' : World) : Prop where
  bel : Below w.heap.size w w'
  a : w'.heap[w.heap.size]? = some (.cells #[.slice A n c, .slice F m d] 31 (0, 0))
  r : w'.heap[w.heap.size + 1]? = some (.cells #[.slice none 0 0, .slice none 0 0] 31 (0, 0))
  l : InM w' A n c F m d D V
section
variable {A : Option Addr} {n c : Nat} {F : Option Addr} {m d : Nat} {D : List Bool} {V : List Int}
theorem BxJ.next {w w1 w2 : World} (h : BxJ w A n c F m d D V w1) (b : Below w1.heap.size w1 w2) : BxJ w A n c F m d D V w2 :=
  ⟨h.bel.trans (b.mono h.bel.size), (b.block _ (Array.getElem?_eq_some_iff.1 h.a).1).trans h.a, (b.block _ (Array.getElem?_eq_some_iff.1 h.r).1).trans h.r, h.l.below b⟩
/-- What the operations of Own's region have yielded. -/
def OwJF (hb : Nat) (A : Option Addr) (n c : Nat) (F : Option Addr) (m d : Nat) (D : List Bool) (V : List Int) : Nat → Value → World → Prop
  | 0, v, w => NewRow 4 w (hb + 2) v
  | 1, v, _ => v = .pointer (some ⟨hb, 0, none⟩)
  | 2, v, _ => v = .slice A n c
  | 3, v, w => OwnZ w (hb + 2) v D
  | 4, v, w => NewRow 3 w (hb + 2) v
  | 5, v, _ => v = .pointer (some ⟨hb, 1, none⟩)
  | 6, v, _ => v = .slice F m d
  | 7, v, w => OwnI w (hb + 2) v V
  | 8, v, w => ∃ u v', v = .agg #[u, v'] ∧ OwnZ w (hb + 2) u D ∧ OwnI w (hb + 2) v' V
  | _, _, _ => True
theorem owJF_below {hb : Nat} : ∀ q v w w', OwJF hb A n c F m d D V q v w → Below w.heap.size w w' → OwJF hb A n c F m d D V q v w'
  | 1, _, _, _, h, _ | 2, _, _, _, h, _ | 5, _, _, _, h, _ | 6, _, _, _, h, _ => h
  | 0, _, _, _, h, hb => NewRow.below h hb
  | 4, _, _, _, h, hb => NewRow.below h hb
  | 3, _, _, _, h, hb => own_below h hb
  | 7, _, _, _, h, hb => own_below h hb
  | 8, _, _, _, ⟨u, v', h1, h2, h3⟩, hb => ⟨u, v', h1, own_below h2 hb, own_below h3 hb⟩
  | _ + 9, _, _, _, _, _ => trivial
set_option maxRecDepth 100000 in
set_option maxHeartbeats 8000000 in
theorem ownM_any (w : World) (h : InM w A n c F m d D V) (l1 : n ≤ 400) (l2 : m ≤ 400) :
    Calls Tryz.prog 8 #[.agg #[.slice A n c, .slice F m d]] w fun z w' => (∃ A1 c1 F1 d1, z = .returned (.agg #[.slice A1 n c1, .slice F1 m d1]) ∧ IsM w' A1 n c1 F1 m d1 D V) ∧ Below w.heap.size w w' := by
  obtain ⟨i0, hi0, hz0, hz1, hz2⟩ := info_parts5 int_cell_info
  obtain ⟨j0, hj0, hy0, hy1, hy2⟩ := info_parts5 bool_cell_info
  obtain rfl := h.hn
  obtain rfl := h.hm
  obtain ⟨w0, hw0⟩ : ∃ w0, w0 = (w.alloc (.cells #[.slice A D.length c, .slice F V.length d] 31)).alloc (.cells #[.slice none 0 0, .slice none 0 0] 31) := ⟨_, rfl⟩
  have hB0 : BxJ w A D.length c F V.length d D V w0 := by
    have x1 := heap_alloc_new w (.cells #[.slice A D.length c, .slice F V.length d] 31)
    obtain ⟨v1, hv1⟩ : ∃ v1, v1 = w.alloc (.cells #[.slice A D.length c, .slice F V.length d] 31) := ⟨_, rfl⟩
    have s1 : v1.heap.size = w.heap.size + 1 := by rw [hv1]; simp
    have hb : Below w.heap.size w w0 := by rw [hw0]; exact below_alloc2 _ _
    rw [← hv1] at x1 hw0
    have x2 := heap_alloc_new v1 (.cells #[.slice none 0 0, .slice none 0 0] 31)
    rw [← hw0, s1] at x2
    exact ⟨hb, by rw [hw0, Below.heap_alloc _ _ _ (by omega)]; exact x1, x2, h.below hb⟩
  have HB0 := Lib.hid hB0
  have HW := Lib.hid hw0
  clear hB0 hw0 h
  go_enter Tryz.func8, Tryz.ntmps8
  go_wp2_with fail
  rw [← HW.out]
  clear HW
  refine wp_region_gather2' 9 9 [3, 4, 5, 6, 7, 8, 9, 10, 11] (by kernel_rfl) (by kernel_rfl) (by intro d hd; simp at hd ⊢; omega) (fun y => BxJ w A D.length c F V.length d D V y ∧ Below w0.heap.size w0 y) (fun _ => True) (fun y z => Below y.heap.size y z) (OwJF w.heap.size A D.length c F V.length d D V)
    (fun _ _ h => h) (fun y z h hr => ⟨h.1.next hr, h.2.trans (hr.mono h.2.size)⟩) (fun _ _ h _ => trivial) (fun k v y z _ h hr => owJF_below k v y z h hr) (fun v y z h _ => trivial) ⟨HB0.out.next (Below.refl _ _).drew, (Below.refl _ _).drew⟩ trivial ?hstep ?hlast
  case hstep =>
    intro q o hq ho ρ y hI hA hd hJ
    have t1 : ρ (.tmp 1) = .pointer (some ⟨w.heap.size, 0, none⟩) := hA.tmp 1 (by decide)
    have c0 := cell_of_row y _ 0 _ _ _ hI.1.a
    have c1 := cell_of_row y _ 1 _ _ _ hI.1.a
    simp at c0 c1
    have hlt := (Array.getElem?_eq_some_iff.1 hI.1.r).1
    match q, hq with
    | 0, _ =>
      have hoo := Option.some.inj ho
      subst hoo
      exact ⟨.slice (some ⟨y.heap.size, 0, none⟩) 0 0, y.alloc (.cells #[] 4), by simp [execOp, go_sem], newRow_here _ y _ (by omega), below_alloc _⟩
    | 1, _ =>
      have hoo := Option.some.inj ho
      subst hoo
      exact ⟨.pointer (some ⟨w.heap.size, 0, none⟩), y, by simp [execOp, t1, go_sem], rfl, Below.refl _ _⟩
    | 2, _ =>
      have hoo := Option.some.inj ho
      subst hoo
      have f : ρ (.tmp 4) = .pointer (some ⟨w.heap.size, 0, none⟩) := hd ⟨1, .data⟩ (by simp) (by rfl)
      exact ⟨.slice A D.length c, y, by simp [execOp, f, c0, go_sem], rfl, Below.refl _ _⟩
    | 3, _ =>
      have hoo := Option.some.inj ho
      subst hoo
      obtain ⟨g, h2, hg, hgl⟩ := hd ⟨0, .data⟩ (by simp) (by rfl)
      have h2' : ρ (.tmp 3) = _ := h2
      have h3 : ρ (.tmp 5) = .slice A D.length c := hd ⟨2, .data⟩ (by simp) (by rfl)
      obtain ⟨v', w2, hr, how, hb⟩ := fresh_append (P := Tryz.prog) y 29 29 4 j0 (.bool false) 1 1 Tryz.underlying29 hj0 hy0 hy1 hy2 rfl (by omega) (w.heap.size + 2) g hg hgl (by omega) A D.length c (boolsV D) (by simp [boolsV]) hI.1.l.hA (fun ad e => by have q := hI.1.l.bools; rw [e] at q; exact q.cells) (bools_oneCell D) (by unfold maxLen; omega) (by omega)
      exact ⟨v', w2, by simp [execOp, resolve, invoke, builtin, h2', h3, hr, Result.andThen], how, hb⟩
    | 4, _ =>
      have hoo := Option.some.inj ho
      subst hoo
      exact ⟨.slice (some ⟨y.heap.size, 0, none⟩) 0 0, y.alloc (.cells #[] 3), by simp [execOp, go_sem], newRow_here _ y _ (by omega), below_alloc _⟩
    | 5, _ =>
      have hoo := Option.some.inj ho
      subst hoo
      exact ⟨.pointer (some ⟨w.heap.size, 1, none⟩), y, by simp [execOp, t1, go_sem], rfl, Below.refl _ _⟩
    | 6, _ =>
      have hoo := Option.some.inj ho
      subst hoo
      have f : ρ (.tmp 8) = .pointer (some ⟨w.heap.size, 1, none⟩) := hd ⟨5, .data⟩ (by simp) (by rfl)
      exact ⟨.slice F V.length d, y, by simp [execOp, f, c1, go_sem], rfl, Below.refl _ _⟩
    | 7, _ =>
      have hoo := Option.some.inj ho
      subst hoo
      obtain ⟨g, h2, hg, hgl⟩ := hd ⟨4, .data⟩ (by simp) (by rfl)
      have h2' : ρ (.tmp 7) = _ := h2
      have h3 : ρ (.tmp 9) = .slice F V.length d := hd ⟨6, .data⟩ (by simp) (by rfl)
      obtain ⟨v', w2, hr, how, hb⟩ := fresh_append (P := Tryz.prog) y 28 28 3 i0 (.int .i64 0) 1 8 Tryz.underlying28 hi0 hz0 hz1 hz2 rfl (by omega) (w.heap.size + 2) g hg hgl (by omega) F V.length d (V.map (Value.int .i64)) (by simp) hI.1.l.hF (fun ad e => by have q := hI.1.l.ints; rw [e] at q; exact q.cells) (oneCell_ints V) (by unfold maxLen; omega) (by omega)
      exact ⟨v', w2, by simp [execOp, resolve, invoke, builtin, h2', h3, hr, Result.andThen], how, hb⟩
    | 8, _ =>
      have hoo := Option.some.inj ho
      subst hoo
      have h3 : OwnZ y (w.heap.size + 2) (ρ (.tmp 6)) D := hd ⟨3, .data⟩ (by simp) (by rfl)
      have h7 : OwnI y (w.heap.size + 2) (ρ (.tmp 10)) V := hd ⟨7, .data⟩ (by simp) (by rfl)
      obtain ⟨A1, a1, f3, _⟩ := h3.bools
      obtain ⟨A2, a2, f7, _⟩ := h7.slice
      rw [f3] at h3
      rw [f7] at h7
      exact ⟨.agg #[.slice A1 D.length a1, .slice A2 V.length a2], y, by simp [execOp, f3, f7, go_sem], ⟨_, _, rfl, h3, h7⟩, Below.refl _ _⟩
    | q + 9, hk => omega
  case hlast =>
    intro o ho vals y hI hF
    have hoo := Option.some.inj ho
    subst hoo
    obtain ⟨u, v', q8, h2, h3⟩ : OwJF w.heap.size A D.length c F V.length d D V 8 (vals 11) y := hF 8 (by decide)
    obtain ⟨hJ1, hJ2⟩ := hI
    obtain ⟨A1, c1, rfl, _⟩ := h2.bools
    obtain ⟨F1, d1, rfl, _⟩ := OwnI.slice h3
    refine ox_store2 (g := w.heap.size + 1) (u := .slice A1 D.length c1) (v := .slice F1 V.length d1) rfl rfl rfl q8 ⟨_, _, _, _, _, _, rfl, rfl⟩ hJ1.r ?_
    have hg := hJ1.r
    have hoth : ∀ k, k ≠ w.heap.size + 1 → ((y.setCell ⟨w.heap.size + 1, 0, none⟩ (.slice A1 D.length c1)).setCell ⟨w.heap.size + 1, 1, none⟩ (.slice F1 V.length d1)).heap[k]? = y.heap[k]? := fun k hk => by rw [heap_setCell_other _ _ _ _ hk, heap_setCell_other _ _ _ _ hk]
    have o2 := other_own h2 hg (by decide) hoth
    have o3 := other_own h3 hg (by decide) hoth
    have s3 := row_set2 hg (.slice A1 D.length c1) (.slice F1 V.length d1)
    have hbe : Below w.heap.size w ((y.setCell ⟨w.heap.size + 1, 0, none⟩ (.slice A1 D.length c1)).setCell ⟨w.heap.size + 1, 1, none⟩ (.slice F1 V.length d1)) := hJ1.bel.trans (below_set2 (Nat.le_succ _) _ _)
    have hM : IsM ((y.setCell ⟨w.heap.size + 1, 0, none⟩ (.slice A1 D.length c1)).setCell ⟨w.heap.size + 1, 1, none⟩ (.slice F1 V.length d1)) A1 D.length c1 F1 V.length d1 D V := by
      obtain ⟨A2, a2, e1, k1, k2⟩ := OwnZ.bools o2
      injection e1 with e1 _ e2
      subst e1 e2
      refine ⟨rfl, rfl, l1, l2, k1, OwnI.ints o3, k2, fun e => ?_⟩
      subst e
      exact OwnI.none_nil o3
    have HE := Lib.hid (And.intro s3 (And.intro hbe hM))
    clear hF hJ1 hJ2 h2 h3 hg s3 hbe hM o2 o3 hoth
    simp only [fillA, fillL, List.contains_cons, List.contains_nil, Nat.reduceBEq, Bool.or_false, Bool.or_true, cond_true, cond_false, Nat.zero_add, Nat.reduceAdd]
    go_wp2
    refine bodyPost_ret (v := .agg #[.slice A1 D.length c1, .slice F1 V.length d1]) ?_ rfl ⟨⟨A1, c1, F1, d1, rfl, HE.out.2.2⟩, HE.out.2.1⟩
    exact results_cell_row rfl _ _ (w.heap.size + 1) _ _ _ _ rfl HE.out.1 Tryz.underlying31 rfl (by kernel_rfl)
end
/-- The boxes of few. -/
structure BxK (w : World) (s : Sh) (T : Task) (A : Option Addr) (n c : Nat) (F : Option Addr) (m d : Nat) (w' : World) : Prop where
  bel : Below w.heap.size w w'
  lt : w.heap.size + 1 < w'.heap.size
  cd : CellsD w' s T.period T.deadline w.heap.size
  m0 : w'.cell? ⟨w.heap.size + 1, 0, none⟩ = some (.slice A n c)
  m1 : w'.cell? ⟨w.heap.size + 1, 1, none⟩ = some (.slice F m d)
  t : IsT w' w'.heap.size s T
section
variable {s : Sh} {T : Task} {A : Option Addr} {n c : Nat} {F : Option Addr} {m d : Nat} {Ai : Option Addr} {ni ci : Nat}
theorem BxK.next {w w1 w2 : World} (h : BxK w s T A n c F m d w1) (hb : Below w1.heap.size w1 w2) : BxK w s T A n c F m d w2 :=
  ⟨h.bel.trans (hb.mono h.bel.size), Nat.lt_of_lt_of_le h.lt hb.size, h.cd.next hb, (hb.cell h.lt).trans h.m0, (hb.cell h.lt).trans h.m1, (h.t.below hb).more hb.size⟩
theorem BxK.start {w : World} (hd : IsT w w.heap.size s T) : BxK w s T A n c F m d ((w.alloc (.cells #[.int .i64 T.period, .int .i64 T.deadline, .slice s.P s.np s.pc, .slice s.E s.ne s.ec, .slice s.F s.nf s.fc, .slice s.R s.nr s.rc] 27)).alloc (.cells #[.slice A n c, .slice F m d] 31)) := by
  have h1 := Bx1T.start hd
  obtain ⟨w0, hw0⟩ : ∃ w0, w0 = w.alloc (.cells #[.int .i64 T.period, .int .i64 T.deadline, .slice s.P s.np s.pc, .slice s.E s.ne s.ec, .slice s.F s.nf s.fc, .slice s.R s.nr s.rc] 27) := ⟨_, rfl⟩
  rw [← hw0] at h1 ⊢
  have hs : w0.heap.size = w.heap.size + 1 := by rw [hw0]; simp
  have h2 := h1.next (below_alloc (w := w0) (.cells #[.slice A n c, .slice F m d] 31))
  refine ⟨h2.bel, by simp [hs], h2.c, ?_, ?_, h2.t⟩ <;> (rw [World.cell?_alloc_at _ _ _ _ hs.symm]; rfl)
set_option maxRecDepth 100000 in
set_option maxHeartbeats 4000000 in
theorem few8_any (w : World) (hd : IsT w w.heap.size s T) (b : Bool) (hb : b = true ↔ FewD T ∧ ni ≤ 60 ∧ n ≤ 70 ∧ m ≤ 70) :
    Calls Tryz.prog 5 #[s.arg T.period T.deadline, .slice Ai ni ci, .agg #[.slice A n c, .slice F m d]] w fun e w' => e = .returned (.bool b) ∧ Below w.heap.size w w' := by
  have HS := Lib.hid (BxK.start (A := A) (n := n) (c := c) (F := F) (m := m) (d := d) hd)
  obtain ⟨P, np, pc, E, ne, ec, Fu, nf, fc, R, nr, rc⟩ := s
  obtain ⟨w0, hw0⟩ : ∃ w0, w0 = (w.alloc (.cells #[.int .i64 T.period, .int .i64 T.deadline, .slice P np pc, .slice E ne ec, .slice Fu nf fc, .slice R nr rc] 27)).alloc (.cells #[.slice A n c, .slice F m d] 31) := ⟨_, rfl⟩
  simp only at HS
  rw [← hw0] at HS
  have HW := Lib.hid hw0
  clear hd hw0
  by_cases hF : FewD T
  · have HF := Lib.hid hF
    have K := Lib.hid (fun (h1 : ni ≤ 60) (h2 : n ≤ 70) (h3 : m ≤ 70) => hb.mpr ⟨hF, h1, h2, h3⟩)
    have K2 := Lib.hid (fun (h : b = true) => (hb.mp h).2)
    clear hb hF
    by_cases h1 : ni ≤ 60
    · have g1 : decide ((ni : Int) ≤ 60) = true := decide_eq_true (by omega)
      have g1' : decide (ni ≤ 60) = true := decide_eq_true h1
      by_cases h2 : n ≤ 70
      · have g2 : decide ((n : Int) ≤ 70) = true := decide_eq_true (by omega)
        have g2' : decide (n ≤ 70) = true := decide_eq_true h2
        by_cases h3 : m ≤ 70
        · have g3 : decide ((m : Int) ≤ 70) = true := decide_eq_true (by omega)
          have g3' : decide (m ≤ 70) = true := decide_eq_true h3
          obtain rfl := K.out h1 h2 h3
          go_enter Tryz.func5, Tryz.ntmps5
          go_wp2_with fail
          rw [← HW.out]
          clear HW
          refine (few_d HS.out.t HF.out).mono ?_
          rintro e w1 ⟨rfl, b1⟩
          have H1 := Lib.hid (HS.out.next b1)
          have lt := H1.out.lt
          have m0 := H1.out.m0
          have m1 := H1.out.m1
          clear b1
          go_wp2_with fail
          go_ret
          exact ⟨rfl, H1.out.bel⟩
        · have g3 : decide ((m : Int) ≤ 70) = false := decide_eq_false (by omega)
          have g3' : decide (m ≤ 70) = false := decide_eq_false h3
          obtain rfl : b = false := by cases b with | false => rfl | true => exact absurd (K2.out rfl).2.2 h3
          go_enter Tryz.func5, Tryz.ntmps5
          go_wp2_with fail
          rw [← HW.out]
          clear HW
          refine (few_d HS.out.t HF.out).mono ?_
          rintro e w1 ⟨rfl, b1⟩
          have H1 := Lib.hid (HS.out.next b1)
          have lt := H1.out.lt
          have m0 := H1.out.m0
          have m1 := H1.out.m1
          clear b1
          go_wp2_with fail
          go_ret
          exact ⟨rfl, H1.out.bel⟩
      · have g2 : decide ((n : Int) ≤ 70) = false := decide_eq_false (by omega)
        have g2' : decide (n ≤ 70) = false := decide_eq_false h2
        obtain rfl : b = false := by cases b with | false => rfl | true => exact absurd (K2.out rfl).2.1 h2
        go_enter Tryz.func5, Tryz.ntmps5
        go_wp2_with fail
        rw [← HW.out]
        clear HW
        refine (few_d HS.out.t HF.out).mono ?_
        rintro e w1 ⟨rfl, b1⟩
        have H1 := Lib.hid (HS.out.next b1)
        have lt := H1.out.lt
        have m0 := H1.out.m0
        have m1 := H1.out.m1
        clear b1
        go_wp2_with fail
        go_ret
        exact ⟨rfl, H1.out.bel⟩
    · have g1 : decide ((ni : Int) ≤ 60) = false := decide_eq_false (by omega)
      have g1' : decide (ni ≤ 60) = false := decide_eq_false h1
      obtain rfl : b = false := by cases b with | false => rfl | true => exact absurd (K2.out rfl).1 h1
      go_enter Tryz.func5, Tryz.ntmps5
      go_wp2_with fail
      rw [← HW.out]
      clear HW
      refine (few_d HS.out.t HF.out).mono ?_
      rintro e w1 ⟨rfl, b1⟩
      have H1 := Lib.hid (HS.out.next b1)
      have lt := H1.out.lt
      have m0 := H1.out.m0
      have m1 := H1.out.m1
      clear b1
      go_wp2_with fail
      go_ret
      exact ⟨rfl, H1.out.bel⟩
  · obtain rfl : b = false := by cases b with | false => rfl | true => exact absurd (hb.mp rfl).1 hF
    have HF := Lib.hid hF
    clear hb hF
    go_enter Tryz.func5, Tryz.ntmps5
    go_wp2_with fail
    rw [← HW.out]
    clear HW
    refine (few_n HS.out.t HF.out).mono ?_
    rintro e w1 ⟨rfl, b1⟩
    have H1 := Lib.hid (HS.out.next b1)
    have lt := H1.out.lt
    have m0 := H1.out.m0
    have m1 := H1.out.m1
    clear b1
    go_wp2_with fail
    go_ret
    exact ⟨rfl, H1.out.bel⟩
end
end Go.Proofs.YtkmajhbfmdoamaaGreatDoor
set_option linter.unusedVariables false
namespace Go.Proofs.YtkmajhbfmdoamaaGreatDoor

end Go.Proofs.YtkmajhbfmdoamaaGreatDoor
