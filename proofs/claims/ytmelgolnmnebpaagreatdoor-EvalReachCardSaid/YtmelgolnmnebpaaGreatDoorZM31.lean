/- Own and few of trefoillaw08 in the seat YtmelgolnmnebpaaGreatDoor: their contracts.
   What Run tells is what each part's feeds come to; what inputs count: in plain words, in the seat YtmelgolnmnebpaaGreatDoor.
   No statement is proved here. -/
import Derived.Test.YtmelgolnmnebpaaGreatDoorZEvalNew
import Derived.Test.YtmelgolnmnebpaaGreatDoorZM26
import Derived.Test.YtmelgolnmnebpaaGreatDoorZM25
import Derived.Test.YtmelgolnmnebpaaGreatDoorZM27
set_option linter.unusedSimpArgs false
set_option linter.unusedVariables false
set_option linter.unusedSimpArgs false
namespace Go.Proofs.YtmelgolnmnebpaaGreatDoor
open Go.RowKit

/-- The boxes of Own. -/
structure BxJ (w : World) (A : Option Addr) (n c : Nat) (F : Option Addr) (m d : Nat) (D : List Bool) (V : List Int) (w' : World) : Prop where
  bel : Below w.heap.size w w'
  a : w'.heap[w.heap.size]? = some (.cells #[.slice A n c, .slice F m d] 43 (0, 0))
  r : w'.heap[w.heap.size + 1]? = some (.cells #[.slice none 0 0, .slice none 0 0] 43 (0, 0))
  l : InM w' A n c F m d D V
section
variable {A : Option Addr} {n c : Nat} {F : Option Addr} {m d : Nat} {D : List Bool} {V : List Int}
theorem BxJ.next {w w1 w2 : World} (h : BxJ w A n c F m d D V w1) (b : Below w1.heap.size w1 w2) : BxJ w A n c F m d D V w2 :=
  ⟨h.bel.trans (b.mono h.bel.size), (b.block _ (Array.getElem?_eq_some_iff.1 h.a).1).trans h.a, (b.block _ (Array.getElem?_eq_some_iff.1 h.r).1).trans h.r, h.l.below b⟩
/-- What the operations of Own's region have yielded. -/
def OwJF (hb : Nat) (A : Option Addr) (n c : Nat) (F : Option Addr) (m d : Nat) (D : List Bool) (V : List Int) : Nat → Value → World → Prop
  | 0, v, w => NewRow 4 w (hb + 2) v
  | 1, v, _ => v = .pointer (some ⟨hb, 0, none⟩)
  | 2, v, _ => v = .slice A n c
  | 3, v, w => OwnZ w (hb + 2) v D
  | 4, v, w => NewRow 3 w (hb + 2) v
  | 5, v, _ => v = .pointer (some ⟨hb, 1, none⟩)
  | 6, v, _ => v = .slice F m d
  | 7, v, w => OwnI w (hb + 2) v V
  | 8, v, w => ∃ u v', v = .agg #[u, v'] ∧ OwnZ w (hb + 2) u D ∧ OwnI w (hb + 2) v' V
  | _, _, _ => True
theorem owJF_below {hb : Nat} : ∀ q v w w', OwJF hb A n c F m d D V q v w → Below w.heap.size w w' → OwJF hb A n c F m d D V q v w'
  | 1, _, _, _, h, _ | 2, _, _, _, h, _ | 5, _, _, _, h, _ | 6, _, _, _, h, _ => h
  | 0, _, _, _, h, hb => NewRow.below h hb
  | 4, _, _, _, h, hb => NewRow.below h hb
  | 3, _, _, _, h, hb => own_below h hb
  | 7, _, _, _, h, hb => own_below h hb
  | 8, _, _, _, ⟨u, v', h1, h2, h3⟩, hb => ⟨u, v', h1, own_below h2 hb, own_below h3 hb⟩
  | _ + 9, _, _, _, _, _ => trivial
set_option maxRecDepth 100000 in
set_option maxHeartbeats 8000000 in
theorem ownM_any (w : World) (h : InM w A n c F m d D V) (l1 : n ≤ 400) (l2 : m ≤ 400) :
    Calls Tryz.prog 18 #[.agg #[.slice A n c, .slice F m d]] w fun z w' => (∃ A1 c1 F1 d1, z = .returned (.agg #[.slice A1 n c1, .slice F1 m d1]) ∧ IsM w' A1 n c1 F1 m d1 D V) ∧ Below w.heap.size w w' := by
  obtain ⟨i0, hi0, hz0, hz1, hz2⟩ := info_parts5 int_cell_info
  obtain ⟨j0, hj0, hy0, hy1, hy2⟩ := info_parts5 bool_cell_info
  obtain rfl := h.hn
  obtain rfl := h.hm
  obtain ⟨w0, hw0⟩ : ∃ w0, w0 = (w.alloc (.cells #[.slice A D.length c, .slice F V.length d] 43)).alloc (.cells #[.slice none 0 0, .slice none 0 0] 43) := ⟨_, rfl⟩
  have hB0 : BxJ w A D.length c F V.length d D V w0 := by
    have x1 := heap_alloc_new w (.cells #[.slice A D.length c, .slice F V.length d] 43)
    obtain ⟨v1, hv1⟩ : ∃ v1, v1 = w.alloc (.cells #[.slice A D.length c, .slice F V.length d] 43) := ⟨_, rfl⟩
    have s1 : v1.heap.size = w.heap.size + 1 := by rw [hv1]; simp
    have hb : Below w.heap.size w w0 := by rw [hw0]; exact below_alloc2 _ _
    rw [← hv1] at x1 hw0
    have x2 := heap_alloc_new v1 (.cells #[.slice none 0 0, .slice none 0 0] 43)
    rw [← hw0, s1] at x2
    exact ⟨hb, by rw [hw0, Below.heap_alloc _ _ _ (by omega)]; exact x1, x2, h.below hb⟩
  have HB0 := Lib.hid hB0
  have HW := Lib.hid hw0
  clear hB0 hw0 h
  go_enter Tryz.func18, Tryz.ntmps18
  go_wp2_with fail
  rw [← HW.out]
  clear HW
  refine wp_region_gather2' 9 9 [3, 4, 5, 6, 7, 8, 9, 10, 11] (by kernel_rfl) (by kernel_rfl) (by intro d hd; simp at hd ⊢; omega) (fun y => BxJ w A D.length c F V.length d D V y ∧ Below w0.heap.size w0 y) (fun _ => True) (fun y z => Below y.heap.size y z) (OwJF w.heap.size A D.length c F V.length d D V)
    (fun _ _ h => h) (fun y z h hr => ⟨h.1.next hr, h.2.trans (hr.mono h.2.size)⟩) (fun _ _ h _ => trivial) (fun k v y z _ h hr => owJF_below k v y z h hr) (fun v y z h _ => trivial) ⟨HB0.out.next (Below.refl _ _).drew, (Below.refl _ _).drew⟩ trivial ?hstep ?hlast
  case hstep =>
    intro q o hq ho ρ y hI hA hd hJ
    have t1 : ρ (.tmp 1) = .pointer (some ⟨w.heap.size, 0, none⟩) := hA.tmp 1 (by decide)
    have c0 := cell_of_row y _ 0 _ _ _ hI.1.a
    have c1 := cell_of_row y _ 1 _ _ _ hI.1.a
    simp at c0 c1
    have hlt := (Array.getElem?_eq_some_iff.1 hI.1.r).1
    match q, hq with
    | 0, _ =>
      have hoo := Option.some.inj ho
      subst hoo
      exact ⟨.slice (some ⟨y.heap.size, 0, none⟩) 0 0, y.alloc (.cells #[] 4), by simp [execOp, go_sem], newRow_here _ y _ (by omega), below_alloc _⟩
    | 1, _ =>
      have hoo := Option.some.inj ho
      subst hoo
      exact ⟨.pointer (some ⟨w.heap.size, 0, none⟩), y, by simp [execOp, t1, go_sem], rfl, Below.refl _ _⟩
    | 2, _ =>
      have hoo := Option.some.inj ho
      subst hoo
      have f : ρ (.tmp 4) = .pointer (some ⟨w.heap.size, 0, none⟩) := hd ⟨1, .data⟩ (by simp) (by rfl)
      exact ⟨.slice A D.length c, y, by simp [execOp, f, c0, go_sem], rfl, Below.refl _ _⟩
    | 3, _ =>
      have hoo := Option.some.inj ho
      subst hoo
      obtain ⟨g, h2, hg, hgl⟩ := hd ⟨0, .data⟩ (by simp) (by rfl)
      have h2' : ρ (.tmp 3) = _ := h2
      have h3 : ρ (.tmp 5) = .slice A D.length c := hd ⟨2, .data⟩ (by simp) (by rfl)
      obtain ⟨v', w2, hr, how, hb⟩ := fresh_append (P := Tryz.prog) y 41 41 4 j0 (.bool false) 1 1 Tryz.underlying41 hj0 hy0 hy1 hy2 rfl (by omega) (w.heap.size + 2) g hg hgl (by omega) A D.length c (boolsV D) (by simp [boolsV]) hI.1.l.hA (fun ad e => by have q := hI.1.l.bools; rw [e] at q; exact q.cells) (bools_oneCell D) (by unfold maxLen; omega) (by omega)
      exact ⟨v', w2, by simp [execOp, resolve, invoke, builtin, h2', h3, hr, Result.andThen], how, hb⟩
    | 4, _ =>
      have hoo := Option.some.inj ho
      subst hoo
      exact ⟨.slice (some ⟨y.heap.size, 0, none⟩) 0 0, y.alloc (.cells #[] 3), by simp [execOp, go_sem], newRow_here _ y _ (by omega), below_alloc _⟩
    | 5, _ =>
      have hoo := Option.some.inj ho
      subst hoo
      exact ⟨.pointer (some ⟨w.heap.size, 1, none⟩), y, by simp [execOp, t1, go_sem], rfl, Below.refl _ _⟩
    | 6, _ =>
      have hoo := Option.some.inj ho
      subst hoo
      have f : ρ (.tmp 8) = .pointer (some ⟨w.heap.size, 1, none⟩) := hd ⟨5, .data⟩ (by simp) (by rfl)
      exact ⟨.slice F V.length d, y, by simp [execOp, f, c1, go_sem], rfl, Below.refl _ _⟩
    | 7, _ =>
      have hoo := Option.some.inj ho
      subst hoo
      obtain ⟨g, h2, hg, hgl⟩ := hd ⟨4, .data⟩ (by simp) (by rfl)
      have h2' : ρ (.tmp 7) = _ := h2
      have h3 : ρ (.tmp 9) = .slice F V.length d := hd ⟨6, .data⟩ (by simp) (by rfl)
      obtain ⟨v', w2, hr, how, hb⟩ := fresh_append (P := Tryz.prog) y 30 30 3 i0 (.int .i64 0) 1 8 Tryz.underlying30 hi0 hz0 hz1 hz2 rfl (by omega) (w.heap.size + 2) g hg hgl (by omega) F V.length d (V.map (Value.int .i64)) (by simp) hI.1.l.hF (fun ad e => by have q := hI.1.l.ints; rw [e] at q; exact q.cells) (oneCell_ints V) (by unfold maxLen; omega) (by omega)
      exact ⟨v', w2, by simp [execOp, resolve, invoke, builtin, h2', h3, hr, Result.andThen], how, hb⟩
    | 8, _ =>
      have hoo := Option.some.inj ho
      subst hoo
      have h3 : OwnZ y (w.heap.size + 2) (ρ (.tmp 6)) D := hd ⟨3, .data⟩ (by simp) (by rfl)
      have h7 : OwnI y (w.heap.size + 2) (ρ (.tmp 10)) V := hd ⟨7, .data⟩ (by simp) (by rfl)
      obtain ⟨A1, a1, f3, _⟩ := h3.bools
      obtain ⟨A2, a2, f7, _⟩ := h7.slice
      rw [f3] at h3
      rw [f7] at h7
      exact ⟨.agg #[.slice A1 D.length a1, .slice A2 V.length a2], y, by simp [execOp, f3, f7, go_sem], ⟨_, _, rfl, h3, h7⟩, Below.refl _ _⟩
    | q + 9, hk => omega
  case hlast =>
    intro o ho vals y hI hF
    have hoo := Option.some.inj ho
    subst hoo
    obtain ⟨u, v', q8, h2, h3⟩ : OwJF w.heap.size A D.length c F V.length d D V 8 (vals 11) y := hF 8 (by decide)
    obtain ⟨hJ1, hJ2⟩ := hI
    obtain ⟨A1, c1, rfl, _⟩ := h2.bools
    obtain ⟨F1, d1, rfl, _⟩ := OwnI.slice h3
    refine ox_store2 (g := w.heap.size + 1) (u := .slice A1 D.length c1) (v := .slice F1 V.length d1) rfl rfl rfl q8 ⟨_, _, _, _, _, _, rfl, rfl⟩ hJ1.r ?_
    have hg := hJ1.r
    have hoth : ∀ k, k ≠ w.heap.size + 1 → ((y.setCell ⟨w.heap.size + 1, 0, none⟩ (.slice A1 D.length c1)).setCell ⟨w.heap.size + 1, 1, none⟩ (.slice F1 V.length d1)).heap[k]? = y.heap[k]? := fun k hk => by rw [heap_setCell_other _ _ _ _ hk, heap_setCell_other _ _ _ _ hk]
    have o2 := other_own h2 hg (by decide) hoth
    have o3 := other_own h3 hg (by decide) hoth
    have s3 := row_set2 hg (.slice A1 D.length c1) (.slice F1 V.length d1)
    have hbe : Below w.heap.size w ((y.setCell ⟨w.heap.size + 1, 0, none⟩ (.slice A1 D.length c1)).setCell ⟨w.heap.size + 1, 1, none⟩ (.slice F1 V.length d1)) := hJ1.bel.trans (below_set2 (Nat.le_succ _) _ _)
    have hM : IsM ((y.setCell ⟨w.heap.size + 1, 0, none⟩ (.slice A1 D.length c1)).setCell ⟨w.heap.size + 1, 1, none⟩ (.slice F1 V.length d1)) A1 D.length c1 F1 V.length d1 D V := by
      obtain ⟨A2, a2, e1, k1, k2⟩ := OwnZ.bools o2
      injection e1 with e1 _ e2
      subst e1 e2
      refine ⟨rfl, rfl, l1, l2, k1, OwnI.ints o3, k2, fun e => ?_⟩
      subst e
      exact OwnI.none_nil o3
    have HE := Lib.hid (And.intro s3 (And.intro hbe hM))
    clear hF hJ1 hJ2 h2 h3 hg s3 hbe hM o2 o3 hoth
    simp only [fillA, fillL, List.contains_cons, List.contains_nil, Nat.reduceBEq, Bool.or_false, Bool.or_true, cond_true, cond_false, Nat.zero_add, Nat.reduceAdd]
    go_wp2
    refine bodyPost_ret (v := .agg #[.slice A1 D.length c1, .slice F1 V.length d1]) ?_ rfl ⟨⟨A1, c1, F1, d1, rfl, HE.out.2.2⟩, HE.out.2.1⟩
    exact results_cell_row rfl _ _ (w.heap.size + 1) _ _ _ _ rfl HE.out.1 Tryz.underlying43 rfl (by kernel_rfl)
end
/-- The boxes of few. -/
structure BxK (w : World) (s : Sh) (T : Task) (A : Option Addr) (n c : Nat) (F : Option Addr) (m d : Nat) (w' : World) : Prop where
  bel : Below w.heap.size w w'
  lt : w.heap.size + 1 < w'.heap.size
  cd : CellsD w' s T.period T.deadline w.heap.size
  m0 : w'.cell? ⟨w.heap.size + 1, 0, none⟩ = some (.slice A n c)
  m1 : w'.cell? ⟨w.heap.size + 1, 1, none⟩ = some (.slice F m d)
  t : IsT w' w'.heap.size s T
section
variable {s : Sh} {T : Task} {A : Option Addr} {n c : Nat} {F : Option Addr} {m d : Nat} {Ai : Option Addr} {ni ci : Nat}
theorem BxK.next {w w1 w2 : World} (h : BxK w s T A n c F m d w1) (hb : Below w1.heap.size w1 w2) : BxK w s T A n c F m d w2 :=
  ⟨h.bel.trans (hb.mono h.bel.size), Nat.lt_of_lt_of_le h.lt hb.size, h.cd.next hb, (hb.cell h.lt).trans h.m0, (hb.cell h.lt).trans h.m1, (h.t.below hb).more hb.size⟩
theorem BxK.start {w : World} (hd : IsT w w.heap.size s T) : BxK w s T A n c F m d ((w.alloc (.cells #[.int .i64 T.period, .int .i64 T.deadline, .slice s.P s.np s.pc, .slice s.E s.ne s.ec, .slice s.F s.nf s.fc, .slice s.R s.nr s.rc] 27)).alloc (.cells #[.slice A n c, .slice F m d] 43)) := by
  have h1 := Bx1T.start hd
  obtain ⟨w0, hw0⟩ : ∃ w0, w0 = w.alloc (.cells #[.int .i64 T.period, .int .i64 T.deadline, .slice s.P s.np s.pc, .slice s.E s.ne s.ec, .slice s.F s.nf s.fc, .slice s.R s.nr s.rc] 27) := ⟨_, rfl⟩
  rw [← hw0] at h1 ⊢
  have hs : w0.heap.size = w.heap.size + 1 := by rw [hw0]; simp
  have h2 := h1.next (below_alloc (w := w0) (.cells #[.slice A n c, .slice F m d] 43))
  refine ⟨h2.bel, by simp [hs], h2.c, ?_, ?_, h2.t⟩ <;> (rw [World.cell?_alloc_at _ _ _ _ hs.symm]; rfl)
set_option maxRecDepth 100000 in
set_option maxHeartbeats 4000000 in
theorem few8_any (w : World) (hd : IsT w w.heap.size s T) (b : Bool) (hb : b = true ↔ FewD T ∧ ni ≤ 60 ∧ n ≤ 70 ∧ m ≤ 70) :
    Calls Tryz.prog 16 #[s.arg T.period T.deadline, .slice Ai ni ci, .agg #[.slice A n c, .slice F m d]] w fun e w' => e = .returned (.bool b) ∧ Below w.heap.size w w' := by
  have HS := Lib.hid (BxK.start (A := A) (n := n) (c := c) (F := F) (m := m) (d := d) hd)
  obtain ⟨P, np, pc, E, ne, ec, Fu, nf, fc, R, nr, rc⟩ := s
  obtain ⟨w0, hw0⟩ : ∃ w0, w0 = (w.alloc (.cells #[.int .i64 T.period, .int .i64 T.deadline, .slice P np pc, .slice E ne ec, .slice Fu nf fc, .slice R nr rc] 27)).alloc (.cells #[.slice A n c, .slice F m d] 43) := ⟨_, rfl⟩
  simp only at HS
  rw [← hw0] at HS
  have HW := Lib.hid hw0
  clear hd hw0
  by_cases hF : FewD T
  · have HF := Lib.hid hF
    have K := Lib.hid (fun (h1 : ni ≤ 60) (h2 : n ≤ 70) (h3 : m ≤ 70) => hb.mpr ⟨hF, h1, h2, h3⟩)
    have K2 := Lib.hid (fun (h : b = true) => (hb.mp h).2)
    clear hb hF
    by_cases h1 : ni ≤ 60
    · have g1 : decide ((ni : Int) ≤ 60) = true := decide_eq_true (by omega)
      have g1' : decide (ni ≤ 60) = true := decide_eq_true h1
      by_cases h2 : n ≤ 70
      · have g2 : decide ((n : Int) ≤ 70) = true := decide_eq_true (by omega)
        have g2' : decide (n ≤ 70) = true := decide_eq_true h2
        by_cases h3 : m ≤ 70
        · have g3 : decide ((m : Int) ≤ 70) = true := decide_eq_true (by omega)
          have g3' : decide (m ≤ 70) = true := decide_eq_true h3
          obtain rfl := K.out h1 h2 h3
          go_enter Tryz.func16, Tryz.ntmps16
          go_wp2_with fail
          rw [← HW.out]
          clear HW
          refine (few_d HS.out.t HF.out).mono ?_
          rintro e w1 ⟨rfl, b1⟩
          have H1 := Lib.hid (HS.out.next b1)
          have lt := H1.out.lt
          have m0 := H1.out.m0
          have m1 := H1.out.m1
          clear b1
          go_wp2_with fail
          go_ret
          exact ⟨rfl, H1.out.bel⟩
        · have g3 : decide ((m : Int) ≤ 70) = false := decide_eq_false (by omega)
          have g3' : decide (m ≤ 70) = false := decide_eq_false h3
          obtain rfl : b = false := by cases b with | false => rfl | true => exact absurd (K2.out rfl).2.2 h3
          go_enter Tryz.func16, Tryz.ntmps16
          go_wp2_with fail
          rw [← HW.out]
          clear HW
          refine (few_d HS.out.t HF.out).mono ?_
          rintro e w1 ⟨rfl, b1⟩
          have H1 := Lib.hid (HS.out.next b1)
          have lt := H1.out.lt
          have m0 := H1.out.m0
          have m1 := H1.out.m1
          clear b1
          go_wp2_with fail
          go_ret
          exact ⟨rfl, H1.out.bel⟩
      · have g2 : decide ((n : Int) ≤ 70) = false := decide_eq_false (by omega)
        have g2' : decide (n ≤ 70) = false := decide_eq_false h2
        obtain rfl : b = false := by cases b with | false => rfl | true => exact absurd (K2.out rfl).2.1 h2
        go_enter Tryz.func16, Tryz.ntmps16
        go_wp2_with fail
        rw [← HW.out]
        clear HW
        refine (few_d HS.out.t HF.out).mono ?_
        rintro e w1 ⟨rfl, b1⟩
        have H1 := Lib.hid (HS.out.next b1)
        have lt := H1.out.lt
        have m0 := H1.out.m0
        have m1 := H1.out.m1
        clear b1
        go_wp2_with fail
        go_ret
        exact ⟨rfl, H1.out.bel⟩
    · have g1 : decide ((ni : Int) ≤ 60) = false := decide_eq_false (by omega)
      have g1' : decide (ni ≤ 60) = false := decide_eq_false h1
      obtain rfl : b = false := by cases b with | false => rfl | true => exact absurd (K2.out rfl).1 h1
      go_enter Tryz.func16, Tryz.ntmps16
      go_wp2_with fail
      rw [← HW.out]
      clear HW
      refine (few_d HS.out.t HF.out).mono ?_
      rintro e w1 ⟨rfl, b1⟩
      have H1 := Lib.hid (HS.out.next b1)
      have lt := H1.out.lt
      have m0 := H1.out.m0
      have m1 := H1.out.m1
      clear b1
      go_wp2_with fail
      go_ret
      exact ⟨rfl, H1.out.bel⟩
  · obtain rfl : b = false := by cases b with | false => rfl | true => exact absurd (hb.mp rfl).1 hF
    have HF := Lib.hid hF
    clear hb hF
    go_enter Tryz.func16, Tryz.ntmps16
    go_wp2_with fail
    rw [← HW.out]
    clear HW
    refine (few_n HS.out.t HF.out).mono ?_
    rintro e w1 ⟨rfl, b1⟩
    have H1 := Lib.hid (HS.out.next b1)
    have lt := H1.out.lt
    have m0 := H1.out.m0
    have m1 := H1.out.m1
    clear b1
    go_wp2_with fail
    go_ret
    exact ⟨rfl, H1.out.bel⟩
end
end Go.Proofs.YtmelgolnmnebpaaGreatDoor
set_option linter.unusedVariables false
namespace Go.Proofs.YtmelgolnmnebpaaGreatDoor

/-- The nodes of a list, done. -/
def doneK (n : Nat) (l : List Nat) : List Bool := l.foldl (fun D m => D.set m true) (List.replicate n false)
theorem doneK_snoc (n : Nat) (l : List Nat) (m : Nat) : doneK n (l ++ [m]) = (doneK n l).set m true := by unfold doneK; rw [List.foldl_append]; rfl
theorem doneK_len (n : Nat) (l : List Nat) : (doneK n l).length = n := by
  have : ∀ (l : List Nat) (D : List Bool), (l.foldl (fun D m => D.set m true) D).length = D.length := by
    intro l
    induction l with
    | nil => intro D; rfl
    | cons m l ih => intro D; rw [List.foldl_cons, ih, List.length_set]
  unfold doneK
  rw [this, List.length_replicate]
theorem doneK_mem (n : Nat) : ∀ (l : List Nat) (D : List Bool) (j : Nat), (l.foldl (fun D m => D.set m true) D).getD j false = true ↔ D.getD j false = true ∨ (j < D.length ∧ j ∈ l) := by
  intro l
  induction l with
  | nil => intro D j; simp
  | cons m l ih =>
    intro D j
    rw [List.foldl_cons, ih, List.length_set]
    have h : (D.set m true).getD j false = true ↔ D.getD j false = true ∨ (j < D.length ∧ j = m) := by
      rw [List.getD_eq_getElem?_getD, List.getD_eq_getElem?_getD, List.getElem?_set]
      by_cases e : m = j
      · subst e
        rw [if_pos rfl]
        by_cases hl : m < D.length
        · rw [if_pos hl]; simp [hl]
        · rw [if_neg hl]; simp [hl]
      · rw [if_neg e]
        constructor
        · exact .inl
        · rintro (h | ⟨_, h⟩)
          · exact h
          · exact absurd h.symm e
    rw [h]
    constructor
    · rintro ((h1 | ⟨h1, rfl⟩) | ⟨h1, h2⟩)
      · exact .inl h1
      · exact .inr ⟨h1, List.mem_cons_self⟩
      · exact .inr ⟨h1, List.mem_cons_of_mem _ h2⟩
    · rintro (h1 | ⟨h1, h2⟩)
      · exact .inl (.inl h1)
      · rcases List.mem_cons.mp h2 with rfl | h2
        · exact .inl (.inr ⟨h1, rfl⟩)
        · exact .inr ⟨h1, h2⟩
theorem doneK_iff {n : Nat} {l : List Nat} {j : Nat} : (doneK n l).getD j false = true ↔ j < n ∧ j ∈ l := by
  unfold doneK
  rw [doneK_mem n, List.length_replicate]
  constructor
  · rintro (h | h)
    · rw [repl_false] at h; cases h
    · exact h
  · exact .inr
theorem run_told {T : Task} (h : LowOk T) (inp : List Int) {l : List Nat} (ho : Ordered (lowP T).length (lowE T) l) : ∀ j, j ≤ l.length → MemOk T (doneK (lowP T).length (l.take j)) (runK T inp (l.take j)) ∧ ToldM T inp (doneK (lowP T).length (l.take j)) (runK T inp (l.take j)) := by
  intro j
  induction j with
  | zero =>
    intro _
    rw [List.take_zero]
    exact ⟨MemOk.new h, ToldM.new T inp _⟩
  | succ j ih =>
    intro hj
    obtain ⟨i1, i2⟩ := ih (by omega)
    have hm : l[j]? = some l[j] := List.getElem?_eq_getElem (by omega)
    have hr : l[j] ∈ readyD (lowE T) (doneK (lowP T).length (l.take j)) := by
      refine mem_readyD.mpr ⟨by rw [doneK_len]; exact ho.lt _ (List.getElem_mem _), ?_, ?_⟩
      · cases hd : (doneK (lowP T).length (l.take j)).getD l[j] false with
        | false => rfl
        | true =>
          exfalso
          have h2 := (doneK_iff.mp hd).2
          have hn := ho.nodup
          rw [show l = l.take j ++ l.drop j from (List.take_append_drop j l).symm, List.nodup_append] at hn
          refine hn.2.2 _ h2 _ ?_ rfl
          rw [List.drop_eq_getElem_cons (by omega)]
          exact List.mem_cons_self
      · refine waitB_false.mpr fun a ha => ?_
        have hf := (low_fits h) _ ha
        obtain ⟨x, rfl⟩ : ∃ x : Nat, a = x := ⟨a.toNat, by have := hf.1; simp only at this; omega⟩
        rw [Int.toNat_natCast]
        refine doneK_iff.mpr ⟨by have := hf.2.1; simp only at this; omega, ho.behind j (by omega) x ha⟩
    have e1 : l.take (j + 1) = l.take j ++ [l[j]] := by rw [List.take_add_one, hm]; rfl
    rw [runK_snoc T inp hm, e1, doneK_snoc]
    exact ⟨i1.step hr (settleV_len T inp _ _), i2.step i1 hr⟩
theorem run_fixed {T : Task} (h : LowOk T) (inp : List Int) : Fixed T inp (runV T inp) := by
  have hw : (lowW T).length = (lowP T).length := by rw [lowW_len h.1, lowP_len h.1]
  have ho : Ordered (lowP T).length (lowE T) (ord (lowW T).length (lowE T)) := by rw [← hw]; exact ordK_ordered h.2.fits _
  have hl : (ord (lowW T).length (lowE T)).length = (lowP T).length := by rw [← hw]; exact ordK_length h.2.fits h.2.acyc _ (Nat.le_refl _)
  obtain ⟨k1, k2⟩ := run_told h inp ho _ (Nat.le_refl _)
  rw [List.take_length] at k1 k2
  unfold runV
  rw [if_pos h]
  refine ToldM.fixed k1 k2 fun j hj => ?_
  rw [doneK_len] at hj
  exact doneK_iff.mpr ⟨hj, ho.all hl j hj⟩
theorem run_no {T : Task} (h : ¬ LowOk T) (inp : List Int) : runV T inp = [] := by unfold runV; rw [if_neg h]
/-- Inputs that tell the same at each place that is taken come to the same. -/
theorem run_same {T : Task} {inp inp' : List Int} (hc : ∀ e ∈ T.parts, e.1 = 0 → 0 ≤ e.2.1 → val32 (inp.getD e.2.1.toNat 0) = val32 (inp'.getD e.2.1.toNat 0)) : runV T inp = runV T inp' := by
  by_cases h : LowOk T
  · refine fixed_same h (run_fixed h inp) (run_fixed h inp') fun x hx l => ?_
    unfold comeV
    split
    · congr 1
      unfold noneV
      split
      · rename_i h0
        split
        · rename_i h1
          have hm : partAt T x ∈ T.parts := by
            unfold partAt
            rw [List.getD_eq_getElem?_getD, List.getElem?_eq_getElem hx]
            exact List.getElem_mem hx
          exact hc _ hm h0 h1
        · rfl
      · rfl
    · rfl
  · rw [run_no h, run_no h]
end Go.Proofs.YtmelgolnmnebpaaGreatDoor
