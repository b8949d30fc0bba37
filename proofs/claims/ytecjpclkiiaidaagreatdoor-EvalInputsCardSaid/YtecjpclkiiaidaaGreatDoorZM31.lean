/- Own and few of trefoillaw08 in the seat YtecjpclkiiaidaaGreatDoor: their contracts.
   What Run tells is what each part's feeds come to; what inputs count: in plain words, in the seat YtecjpclkiiaidaaGreatDoor.
   The walk of EvalInputs in the seat YtecjpclkiiaidaaGreatDoor.
   No statement is proved here. -/
import Derived.Test.YtecjpclkiiaidaaGreatDoorZEvalNew
import Derived.Test.YtecjpclkiiaidaaGreatDoorZM26
import Derived.Test.YtecjpclkiiaidaaGreatDoorZM25
import Derived.Test.YtecjpclkiiaidaaGreatDoorZM27
import Derived.Test.YtecjpclkiiaidaaGreatDoorZEvalOpsWalk
import Derived.Test.YtecjpclkiiaidaaGreatDoorZM13
import Derived.Maps.AppendAt
set_option linter.unusedSimpArgs false
set_option linter.unusedVariables false
set_option linter.unusedSimpArgs false
namespace Go.Proofs.YtecjpclkiiaidaaGreatDoor
open Go.RowKit

/-- The boxes of Own. -/
structure BxJ (w : World) (A : Option Addr) (n c : Nat) (F : Option Addr) (m d : Nat) (D : List Bool) (V : List Int) (w' : World) : Prop where
  bel : Below w.heap.size w w'
  a : w'.heap[w.heap.size]? = some (.cells #[.slice A n c, .slice F m d] 37 (0, 0))
  r : w'.heap[w.heap.size + 1]? = some (.cells #[.slice none 0 0, .slice none 0 0] 37 (0, 0))
  l : InM w' A n c F m d D V
section
variable {A : Option Addr} {n c : Nat} {F : Option Addr} {m d : Nat} {D : List Bool} {V : List Int}
theorem BxJ.next {w w1 w2 : World} (h : BxJ w A n c F m d D V w1) (b : Below w1.heap.size w1 w2) : BxJ w A n c F m d D V w2 :=
  ⟨h.bel.trans (b.mono h.bel.size), (b.block _ (Array.getElem?_eq_some_iff.1 h.a).1).trans h.a, (b.block _ (Array.getElem?_eq_some_iff.1 h.r).1).trans h.r, h.l.below b⟩
/-- What the operations of Own's region have yielded. -/
def OwJF (hb : Nat) (A : Option Addr) (n c : Nat) (F : Option Addr) (m d : Nat) (D : List Bool) (V : List Int) : Nat → Value → World → Prop
  | 0, v, w => NewRow 4 w (hb + 2) v
  | 1, v, _ => v = .pointer (some ⟨hb, 0, none⟩)
  | 2, v, _ => v = .slice A n c
  | 3, v, w => OwnZ w (hb + 2) v D
  | 4, v, w => NewRow 3 w (hb + 2) v
  | 5, v, _ => v = .pointer (some ⟨hb, 1, none⟩)
  | 6, v, _ => v = .slice F m d
  | 7, v, w => OwnI w (hb + 2) v V
  | 8, v, w => ∃ u v', v = .agg #[u, v'] ∧ OwnZ w (hb + 2) u D ∧ OwnI w (hb + 2) v' V
  | _, _, _ => True
theorem owJF_below {hb : Nat} : ∀ q v w w', OwJF hb A n c F m d D V q v w → Below w.heap.size w w' → OwJF hb A n c F m d D V q v w'
  | 1, _, _, _, h, _ | 2, _, _, _, h, _ | 5, _, _, _, h, _ | 6, _, _, _, h, _ => h
  | 0, _, _, _, h, hb => NewRow.below h hb
  | 4, _, _, _, h, hb => NewRow.below h hb
  | 3, _, _, _, h, hb => own_below h hb
  | 7, _, _, _, h, hb => own_below h hb
  | 8, _, _, _, ⟨u, v', h1, h2, h3⟩, hb => ⟨u, v', h1, own_below h2 hb, own_below h3 hb⟩
  | _ + 9, _, _, _, _, _ => trivial
set_option maxRecDepth 100000 in
set_option maxHeartbeats 8000000 in
theorem ownM_any (w : World) (h : InM w A n c F m d D V) (l1 : n ≤ 400) (l2 : m ≤ 400) :
    Calls Tryz.prog 17 #[.agg #[.slice A n c, .slice F m d]] w fun z w' => (∃ A1 c1 F1 d1, z = .returned (.agg #[.slice A1 n c1, .slice F1 m d1]) ∧ IsM w' A1 n c1 F1 m d1 D V) ∧ Below w.heap.size w w' := by
  obtain ⟨i0, hi0, hz0, hz1, hz2⟩ := info_parts5 int_cell_info
  obtain ⟨j0, hj0, hy0, hy1, hy2⟩ := info_parts5 bool_cell_info
  obtain rfl := h.hn
  obtain rfl := h.hm
  obtain ⟨w0, hw0⟩ : ∃ w0, w0 = (w.alloc (.cells #[.slice A D.length c, .slice F V.length d] 37)).alloc (.cells #[.slice none 0 0, .slice none 0 0] 37) := ⟨_, rfl⟩
  have hB0 : BxJ w A D.length c F V.length d D V w0 := by
    have x1 := heap_alloc_new w (.cells #[.slice A D.length c, .slice F V.length d] 37)
    obtain ⟨v1, hv1⟩ : ∃ v1, v1 = w.alloc (.cells #[.slice A D.length c, .slice F V.length d] 37) := ⟨_, rfl⟩
    have s1 : v1.heap.size = w.heap.size + 1 := by rw [hv1]; simp
    have hb : Below w.heap.size w w0 := by rw [hw0]; exact below_alloc2 _ _
    rw [← hv1] at x1 hw0
    have x2 := heap_alloc_new v1 (.cells #[.slice none 0 0, .slice none 0 0] 37)
    rw [← hw0, s1] at x2
    exact ⟨hb, by rw [hw0, Below.heap_alloc _ _ _ (by omega)]; exact x1, x2, h.below hb⟩
  have HB0 := Lib.hid hB0
  have HW := Lib.hid hw0
  clear hB0 hw0 h
  go_enter Tryz.func17, Tryz.ntmps17
  go_wp2_with fail
  rw [← HW.out]
  clear HW
  refine wp_region_gather2' 9 9 [3, 4, 5, 6, 7, 8, 9, 10, 11] (by kernel_rfl) (by kernel_rfl) (by intro d hd; simp at hd ⊢; omega) (fun y => BxJ w A D.length c F V.length d D V y ∧ Below w0.heap.size w0 y) (fun _ => True) (fun y z => Below y.heap.size y z) (OwJF w.heap.size A D.length c F V.length d D V)
    (fun _ _ h => h) (fun y z h hr => ⟨h.1.next hr, h.2.trans (hr.mono h.2.size)⟩) (fun _ _ h _ => trivial) (fun k v y z _ h hr => owJF_below k v y z h hr) (fun v y z h _ => trivial) ⟨HB0.out.next (Below.refl _ _).drew, (Below.refl _ _).drew⟩ trivial ?hstep ?hlast
  case hstep =>
    intro q o hq ho ρ y hI hA hd hJ
    have t1 : ρ (.tmp 1) = .pointer (some ⟨w.heap.size, 0, none⟩) := hA.tmp 1 (by decide)
    have c0 := cell_of_row y _ 0 _ _ _ hI.1.a
    have c1 := cell_of_row y _ 1 _ _ _ hI.1.a
    simp at c0 c1
    have hlt := (Array.getElem?_eq_some_iff.1 hI.1.r).1
    match q, hq with
    | 0, _ =>
      have hoo := Option.some.inj ho
      subst hoo
      exact ⟨.slice (some ⟨y.heap.size, 0, none⟩) 0 0, y.alloc (.cells #[] 4), by simp [execOp, go_sem], newRow_here _ y _ (by omega), below_alloc _⟩
    | 1, _ =>
      have hoo := Option.some.inj ho
      subst hoo
      exact ⟨.pointer (some ⟨w.heap.size, 0, none⟩), y, by simp [execOp, t1, go_sem], rfl, Below.refl _ _⟩
    | 2, _ =>
      have hoo := Option.some.inj ho
      subst hoo
      have f : ρ (.tmp 4) = .pointer (some ⟨w.heap.size, 0, none⟩) := hd ⟨1, .data⟩ (by simp) (by rfl)
      exact ⟨.slice A D.length c, y, by simp [execOp, f, c0, go_sem], rfl, Below.refl _ _⟩
    | 3, _ =>
      have hoo := Option.some.inj ho
      subst hoo
      obtain ⟨g, h2, hg, hgl⟩ := hd ⟨0, .data⟩ (by simp) (by rfl)
      have h2' : ρ (.tmp 3) = _ := h2
      have h3 : ρ (.tmp 5) = .slice A D.length c := hd ⟨2, .data⟩ (by simp) (by rfl)
      obtain ⟨v', w2, hr, how, hb⟩ := fresh_append (P := Tryz.prog) y 35 35 4 j0 (.bool false) 1 1 Tryz.underlying35 hj0 hy0 hy1 hy2 rfl (by omega) (w.heap.size + 2) g hg hgl (by omega) A D.length c (boolsV D) (by simp [boolsV]) hI.1.l.hA (fun ad e => by have q := hI.1.l.bools; rw [e] at q; exact q.cells) (bools_oneCell D) (by unfold maxLen; omega) (by omega)
      exact ⟨v', w2, by simp [execOp, resolve, invoke, builtin, h2', h3, hr, Result.andThen], how, hb⟩
    | 4, _ =>
      have hoo := Option.some.inj ho
      subst hoo
      exact ⟨.slice (some ⟨y.heap.size, 0, none⟩) 0 0, y.alloc (.cells #[] 3), by simp [execOp, go_sem], newRow_here _ y _ (by omega), below_alloc _⟩
    | 5, _ =>
      have hoo := Option.some.inj ho
      subst hoo
      exact ⟨.pointer (some ⟨w.heap.size, 1, none⟩), y, by simp [execOp, t1, go_sem], rfl, Below.refl _ _⟩
    | 6, _ =>
      have hoo := Option.some.inj ho
      subst hoo
      have f : ρ (.tmp 8) = .pointer (some ⟨w.heap.size, 1, none⟩) := hd ⟨5, .data⟩ (by simp) (by rfl)
      exact ⟨.slice F V.length d, y, by simp [execOp, f, c1, go_sem], rfl, Below.refl _ _⟩
    | 7, _ =>
      have hoo := Option.some.inj ho
      subst hoo
      obtain ⟨g, h2, hg, hgl⟩ := hd ⟨4, .data⟩ (by simp) (by rfl)
      have h2' : ρ (.tmp 7) = _ := h2
      have h3 : ρ (.tmp 9) = .slice F V.length d := hd ⟨6, .data⟩ (by simp) (by rfl)
      obtain ⟨v', w2, hr, how, hb⟩ := fresh_append (P := Tryz.prog) y 25 25 3 i0 (.int .i64 0) 1 8 Tryz.underlying25 hi0 hz0 hz1 hz2 rfl (by omega) (w.heap.size + 2) g hg hgl (by omega) F V.length d (V.map (Value.int .i64)) (by simp) hI.1.l.hF (fun ad e => by have q := hI.1.l.ints; rw [e] at q; exact q.cells) (oneCell_ints V) (by unfold maxLen; omega) (by omega)
      exact ⟨v', w2, by simp [execOp, resolve, invoke, builtin, h2', h3, hr, Result.andThen], how, hb⟩
    | 8, _ =>
      have hoo := Option.some.inj ho
      subst hoo
      have h3 : OwnZ y (w.heap.size + 2) (ρ (.tmp 6)) D := hd ⟨3, .data⟩ (by simp) (by rfl)
      have h7 : OwnI y (w.heap.size + 2) (ρ (.tmp 10)) V := hd ⟨7, .data⟩ (by simp) (by rfl)
      obtain ⟨A1, a1, f3, _⟩ := h3.bools
      obtain ⟨A2, a2, f7, _⟩ := h7.slice
      rw [f3] at h3
      rw [f7] at h7
      exact ⟨.agg #[.slice A1 D.length a1, .slice A2 V.length a2], y, by simp [execOp, f3, f7, go_sem], ⟨_, _, rfl, h3, h7⟩, Below.refl _ _⟩
    | q + 9, hk => omega
  case hlast =>
    intro o ho vals y hI hF
    have hoo := Option.some.inj ho
    subst hoo
    obtain ⟨u, v', q8, h2, h3⟩ : OwJF w.heap.size A D.length c F V.length d D V 8 (vals 11) y := hF 8 (by decide)
    obtain ⟨hJ1, hJ2⟩ := hI
    obtain ⟨A1, c1, rfl, _⟩ := h2.bools
    obtain ⟨F1, d1, rfl, _⟩ := OwnI.slice h3
    refine ox_store2 (g := w.heap.size + 1) (u := .slice A1 D.length c1) (v := .slice F1 V.length d1) rfl rfl rfl q8 ⟨_, _, _, _, _, _, rfl, rfl⟩ hJ1.r ?_
    have hg := hJ1.r
    have hoth : ∀ k, k ≠ w.heap.size + 1 → ((y.setCell ⟨w.heap.size + 1, 0, none⟩ (.slice A1 D.length c1)).setCell ⟨w.heap.size + 1, 1, none⟩ (.slice F1 V.length d1)).heap[k]? = y.heap[k]? := fun k hk => by rw [heap_setCell_other _ _ _ _ hk, heap_setCell_other _ _ _ _ hk]
    have o2 := other_own h2 hg (by decide) hoth
    have o3 := other_own h3 hg (by decide) hoth
    have s3 := row_set2 hg (.slice A1 D.length c1) (.slice F1 V.length d1)
    have hbe : Below w.heap.size w ((y.setCell ⟨w.heap.size + 1, 0, none⟩ (.slice A1 D.length c1)).setCell ⟨w.heap.size + 1, 1, none⟩ (.slice F1 V.length d1)) := hJ1.bel.trans (below_set2 (Nat.le_succ _) _ _)
    have hM : IsM ((y.setCell ⟨w.heap.size + 1, 0, none⟩ (.slice A1 D.length c1)).setCell ⟨w.heap.size + 1, 1, none⟩ (.slice F1 V.length d1)) A1 D.length c1 F1 V.length d1 D V := by
      obtain ⟨A2, a2, e1, k1, k2⟩ := OwnZ.bools o2
      injection e1 with e1 _ e2
      subst e1 e2
      refine ⟨rfl, rfl, l1, l2, k1, OwnI.ints o3, k2, fun e => ?_⟩
      subst e
      exact OwnI.none_nil o3
    have HE := Lib.hid (And.intro s3 (And.intro hbe hM))
    clear hF hJ1 hJ2 h2 h3 hg s3 hbe hM o2 o3 hoth
    simp only [fillA, fillL, List.contains_cons, List.contains_nil, Nat.reduceBEq, Bool.or_false, Bool.or_true, cond_true, cond_false, Nat.zero_add, Nat.reduceAdd]
    go_wp2
    refine bodyPost_ret (v := .agg #[.slice A1 D.length c1, .slice F1 V.length d1]) ?_ rfl ⟨⟨A1, c1, F1, d1, rfl, HE.out.2.2⟩, HE.out.2.1⟩
    exact results_cell_row rfl _ _ (w.heap.size + 1) _ _ _ _ rfl HE.out.1 Tryz.underlying37 rfl (by kernel_rfl)
end
/-- The boxes of few. -/
structure BxK (w : World) (s : Sh) (T : Task) (A : Option Addr) (n c : Nat) (F : Option Addr) (m d : Nat) (w' : World) : Prop where
  bel : Below w.heap.size w w'
  lt : w.heap.size + 1 < w'.heap.size
  cd : CellsD w' s T.period T.deadline w.heap.size
  m0 : w'.cell? ⟨w.heap.size + 1, 0, none⟩ = some (.slice A n c)
  m1 : w'.cell? ⟨w.heap.size + 1, 1, none⟩ = some (.slice F m d)
  t : IsT w' w'.heap.size s T
section
variable {s : Sh} {T : Task} {A : Option Addr} {n c : Nat} {F : Option Addr} {m d : Nat} {Ai : Option Addr} {ni ci : Nat}
theorem BxK.next {w w1 w2 : World} (h : BxK w s T A n c F m d w1) (hb : Below w1.heap.size w1 w2) : BxK w s T A n c F m d w2 :=
  ⟨h.bel.trans (hb.mono h.bel.size), Nat.lt_of_lt_of_le h.lt hb.size, h.cd.next hb, (hb.cell h.lt).trans h.m0, (hb.cell h.lt).trans h.m1, (h.t.below hb).more hb.size⟩
theorem BxK.start {w : World} (hd : IsT w w.heap.size s T) : BxK w s T A n c F m d ((w.alloc (.cells #[.int .i64 T.period, .int .i64 T.deadline, .slice s.P s.np s.pc, .slice s.E s.ne s.ec, .slice s.F s.nf s.fc, .slice s.R s.nr s.rc] 34)).alloc (.cells #[.slice A n c, .slice F m d] 37)) := by
  have h1 := Bx1T.start hd
  obtain ⟨w0, hw0⟩ : ∃ w0, w0 = w.alloc (.cells #[.int .i64 T.period, .int .i64 T.deadline, .slice s.P s.np s.pc, .slice s.E s.ne s.ec, .slice s.F s.nf s.fc, .slice s.R s.nr s.rc] 34) := ⟨_, rfl⟩
  rw [← hw0] at h1 ⊢
  have hs : w0.heap.size = w.heap.size + 1 := by rw [hw0]; simp
  have h2 := h1.next (below_alloc (w := w0) (.cells #[.slice A n c, .slice F m d] 37))
  refine ⟨h2.bel, by simp [hs], h2.c, ?_, ?_, h2.t⟩ <;> (rw [World.cell?_alloc_at _ _ _ _ hs.symm]; rfl)
set_option maxRecDepth 100000 in
set_option maxHeartbeats 4000000 in
theorem few8_any (w : World) (hd : IsT w w.heap.size s T) (b : Bool) (hb : b = true ↔ FewD T ∧ ni ≤ 60 ∧ n ≤ 70 ∧ m ≤ 70) :
    Calls Tryz.prog 14 #[s.arg T.period T.deadline, .slice Ai ni ci, .agg #[.slice A n c, .slice F m d]] w fun e w' => e = .returned (.bool b) ∧ Below w.heap.size w w' := by
  have HS := Lib.hid (BxK.start (A := A) (n := n) (c := c) (F := F) (m := m) (d := d) hd)
  obtain ⟨P, np, pc, E, ne, ec, Fu, nf, fc, R, nr, rc⟩ := s
  obtain ⟨w0, hw0⟩ : ∃ w0, w0 = (w.alloc (.cells #[.int .i64 T.period, .int .i64 T.deadline, .slice P np pc, .slice E ne ec, .slice Fu nf fc, .slice R nr rc] 34)).alloc (.cells #[.slice A n c, .slice F m d] 37) := ⟨_, rfl⟩
  simp only at HS
  rw [← hw0] at HS
  have HW := Lib.hid hw0
  clear hd hw0
  by_cases hF : FewD T
  · have HF := Lib.hid hF
    have K := Lib.hid (fun (h1 : ni ≤ 60) (h2 : n ≤ 70) (h3 : m ≤ 70) => hb.mpr ⟨hF, h1, h2, h3⟩)
    have K2 := Lib.hid (fun (h : b = true) => (hb.mp h).2)
    clear hb hF
    by_cases h1 : ni ≤ 60
    · have g1 : decide ((ni : Int) ≤ 60) = true := decide_eq_true (by omega)
      have g1' : decide (ni ≤ 60) = true := decide_eq_true h1
      by_cases h2 : n ≤ 70
      · have g2 : decide ((n : Int) ≤ 70) = true := decide_eq_true (by omega)
        have g2' : decide (n ≤ 70) = true := decide_eq_true h2
        by_cases h3 : m ≤ 70
        · have g3 : decide ((m : Int) ≤ 70) = true := decide_eq_true (by omega)
          have g3' : decide (m ≤ 70) = true := decide_eq_true h3
          obtain rfl := K.out h1 h2 h3
          go_enter Tryz.func14, Tryz.ntmps14
          go_wp2_with fail
          rw [← HW.out]
          clear HW
          refine (few_d HS.out.t HF.out).mono ?_
          rintro e w1 ⟨rfl, b1⟩
          have H1 := Lib.hid (HS.out.next b1)
          have lt := H1.out.lt
          have m0 := H1.out.m0
          have m1 := H1.out.m1
          clear b1
          go_wp2_with fail
          go_ret
          exact ⟨rfl, H1.out.bel⟩
        · have g3 : decide ((m : Int) ≤ 70) = false := decide_eq_false (by omega)
          have g3' : decide (m ≤ 70) = false := decide_eq_false h3
          obtain rfl : b = false := by cases b with | false => rfl | true => exact absurd (K2.out rfl).2.2 h3
          go_enter Tryz.func14, Tryz.ntmps14
          go_wp2_with fail
          rw [← HW.out]
          clear HW
          refine (few_d HS.out.t HF.out).mono ?_
          rintro e w1 ⟨rfl, b1⟩
          have H1 := Lib.hid (HS.out.next b1)
          have lt := H1.out.lt
          have m0 := H1.out.m0
          have m1 := H1.out.m1
          clear b1
          go_wp2_with fail
          go_ret
          exact ⟨rfl, H1.out.bel⟩
      · have g2 : decide ((n : Int) ≤ 70) = false := decide_eq_false (by omega)
        have g2' : decide (n ≤ 70) = false := decide_eq_false h2
        obtain rfl : b = false := by cases b with | false => rfl | true => exact absurd (K2.out rfl).2.1 h2
        go_enter Tryz.func14, Tryz.ntmps14
        go_wp2_with fail
        rw [← HW.out]
        clear HW
        refine (few_d HS.out.t HF.out).mono ?_
        rintro e w1 ⟨rfl, b1⟩
        have H1 := Lib.hid (HS.out.next b1)
        have lt := H1.out.lt
        have m0 := H1.out.m0
        have m1 := H1.out.m1
        clear b1
        go_wp2_with fail
        go_ret
        exact ⟨rfl, H1.out.bel⟩
    · have g1 : decide ((ni : Int) ≤ 60) = false := decide_eq_false (by omega)
      have g1' : decide (ni ≤ 60) = false := decide_eq_false h1
      obtain rfl : b = false := by cases b with | false => rfl | true => exact absurd (K2.out rfl).1 h1
      go_enter Tryz.func14, Tryz.ntmps14
      go_wp2_with fail
      rw [← HW.out]
      clear HW
      refine (few_d HS.out.t HF.out).mono ?_
      rintro e w1 ⟨rfl, b1⟩
      have H1 := Lib.hid (HS.out.next b1)
      have lt := H1.out.lt
      have m0 := H1.out.m0
      have m1 := H1.out.m1
      clear b1
      go_wp2_with fail
      go_ret
      exact ⟨rfl, H1.out.bel⟩
  · obtain rfl : b = false := by cases b with | false => rfl | true => exact absurd (hb.mp rfl).1 hF
    have HF := Lib.hid hF
    clear hb hF
    go_enter Tryz.func14, Tryz.ntmps14
    go_wp2_with fail
    rw [← HW.out]
    clear HW
    refine (few_n HS.out.t HF.out).mono ?_
    rintro e w1 ⟨rfl, b1⟩
    have H1 := Lib.hid (HS.out.next b1)
    have lt := H1.out.lt
    have m0 := H1.out.m0
    have m1 := H1.out.m1
    clear b1
    go_wp2_with fail
    go_ret
    exact ⟨rfl, H1.out.bel⟩
end
end Go.Proofs.YtecjpclkiiaidaaGreatDoor
set_option linter.unusedVariables false
namespace Go.Proofs.YtecjpclkiiaidaaGreatDoor

/-- The nodes of a list, done. -/
def doneK (n : Nat) (l : List Nat) : List Bool := l.foldl (fun D m => D.set m true) (List.replicate n false)
theorem doneK_snoc (n : Nat) (l : List Nat) (m : Nat) : doneK n (l ++ [m]) = (doneK n l).set m true := by unfold doneK; rw [List.foldl_append]; rfl
theorem doneK_len (n : Nat) (l : List Nat) : (doneK n l).length = n := by
  have : ∀ (l : List Nat) (D : List Bool), (l.foldl (fun D m => D.set m true) D).length = D.length := by
    intro l
    induction l with
    | nil => intro D; rfl
    | cons m l ih => intro D; rw [List.foldl_cons, ih, List.length_set]
  unfold doneK
  rw [this, List.length_replicate]
theorem doneK_mem (n : Nat) : ∀ (l : List Nat) (D : List Bool) (j : Nat), (l.foldl (fun D m => D.set m true) D).getD j false = true ↔ D.getD j false = true ∨ (j < D.length ∧ j ∈ l) := by
  intro l
  induction l with
  | nil => intro D j; simp
  | cons m l ih =>
    intro D j
    rw [List.foldl_cons, ih, List.length_set]
    have h : (D.set m true).getD j false = true ↔ D.getD j false = true ∨ (j < D.length ∧ j = m) := by
      rw [List.getD_eq_getElem?_getD, List.getD_eq_getElem?_getD, List.getElem?_set]
      by_cases e : m = j
      · subst e
        rw [if_pos rfl]
        by_cases hl : m < D.length
        · rw [if_pos hl]; simp [hl]
        · rw [if_neg hl]; simp [hl]
      · rw [if_neg e]
        constructor
        · exact .inl
        · rintro (h | ⟨_, h⟩)
          · exact h
          · exact absurd h.symm e
    rw [h]
    constructor
    · rintro ((h1 | ⟨h1, rfl⟩) | ⟨h1, h2⟩)
      · exact .inl h1
      · exact .inr ⟨h1, List.mem_cons_self⟩
      · exact .inr ⟨h1, List.mem_cons_of_mem _ h2⟩
    · rintro (h1 | ⟨h1, h2⟩)
      · exact .inl (.inl h1)
      · rcases List.mem_cons.mp h2 with rfl | h2
        · exact .inl (.inr ⟨h1, rfl⟩)
        · exact .inr ⟨h1, h2⟩
theorem doneK_iff {n : Nat} {l : List Nat} {j : Nat} : (doneK n l).getD j false = true ↔ j < n ∧ j ∈ l := by
  unfold doneK
  rw [doneK_mem n, List.length_replicate]
  constructor
  · rintro (h | h)
    · rw [repl_false] at h; cases h
    · exact h
  · exact .inr
theorem run_told {T : Task} (h : LowOk T) (inp : List Int) {l : List Nat} (ho : Ordered (lowP T).length (lowE T) l) : ∀ j, j ≤ l.length → MemOk T (doneK (lowP T).length (l.take j)) (runK T inp (l.take j)) ∧ ToldM T inp (doneK (lowP T).length (l.take j)) (runK T inp (l.take j)) := by
  intro j
  induction j with
  | zero =>
    intro _
    rw [List.take_zero]
    exact ⟨MemOk.new h, ToldM.new T inp _⟩
  | succ j ih =>
    intro hj
    obtain ⟨i1, i2⟩ := ih (by omega)
    have hm : l[j]? = some l[j] := List.getElem?_eq_getElem (by omega)
    have hr : l[j] ∈ readyD (lowE T) (doneK (lowP T).length (l.take j)) := by
      refine mem_readyD.mpr ⟨by rw [doneK_len]; exact ho.lt _ (List.getElem_mem _), ?_, ?_⟩
      · cases hd : (doneK (lowP T).length (l.take j)).getD l[j] false with
        | false => rfl
        | true =>
          exfalso
          have h2 := (doneK_iff.mp hd).2
          have hn := ho.nodup
          rw [show l = l.take j ++ l.drop j from (List.take_append_drop j l).symm, List.nodup_append] at hn
          refine hn.2.2 _ h2 _ ?_ rfl
          rw [List.drop_eq_getElem_cons (by omega)]
          exact List.mem_cons_self
      · refine waitB_false.mpr fun a ha => ?_
        have hf := (low_fits h) _ ha
        obtain ⟨x, rfl⟩ : ∃ x : Nat, a = x := ⟨a.toNat, by have := hf.1; simp only at this; omega⟩
        rw [Int.toNat_natCast]
        refine doneK_iff.mpr ⟨by have := hf.2.1; simp only at this; omega, ho.behind j (by omega) x ha⟩
    have e1 : l.take (j + 1) = l.take j ++ [l[j]] := by rw [List.take_add_one, hm]; rfl
    rw [runK_snoc T inp hm, e1, doneK_snoc]
    exact ⟨i1.step hr (settleV_len T inp _ _), i2.step i1 hr⟩
theorem run_fixed {T : Task} (h : LowOk T) (inp : List Int) : Fixed T inp (runV T inp) := by
  have hw : (lowW T).length = (lowP T).length := by rw [lowW_len h.1, lowP_len h.1]
  have ho : Ordered (lowP T).length (lowE T) (ord (lowW T).length (lowE T)) := by rw [← hw]; exact ordK_ordered h.2.fits _
  have hl : (ord (lowW T).length (lowE T)).length = (lowP T).length := by rw [← hw]; exact ordK_length h.2.fits h.2.acyc _ (Nat.le_refl _)
  obtain ⟨k1, k2⟩ := run_told h inp ho _ (Nat.le_refl _)
  rw [List.take_length] at k1 k2
  unfold runV
  rw [if_pos h]
  refine ToldM.fixed k1 k2 fun j hj => ?_
  rw [doneK_len] at hj
  exact doneK_iff.mpr ⟨hj, ho.all hl j hj⟩
theorem run_no {T : Task} (h : ¬ LowOk T) (inp : List Int) : runV T inp = [] := by unfold runV; rw [if_neg h]
/-- Inputs that tell the same at each place that is taken come to the same. -/
theorem run_same {T : Task} {inp inp' : List Int} (hc : ∀ e ∈ T.parts, e.1 = 0 → 0 ≤ e.2.1 → val32 (inp.getD e.2.1.toNat 0) = val32 (inp'.getD e.2.1.toNat 0)) : runV T inp = runV T inp' := by
  by_cases h : LowOk T
  · refine fixed_same h (run_fixed h inp) (run_fixed h inp') fun x hx l => ?_
    unfold comeV
    split
    · congr 1
      unfold noneV
      split
      · rename_i h0
        split
        · rename_i h1
          have hm : partAt T x ∈ T.parts := by
            unfold partAt
            rw [List.getD_eq_getElem?_getD, List.getElem?_eq_getElem hx]
            exact List.getElem_mem hx
          exact hc _ hm h0 h1
        · rfl
      · rfl
    · rfl
  · rw [run_no h, run_no h]
end Go.Proofs.YtecjpclkiiaidaaGreatDoor
set_option linter.unusedVariables false
set_option linter.unusedSimpArgs false
namespace Go.Proofs.YtecjpclkiiaidaaGreatDoor
open Go.RowKit

/-! In plain words -/
def shV (z : Int) : Int := if z < 1099511627776 ∧ -1099511627776 < z then z + 4294967296 else z
theorem shV_val (z : Int) : val32 (shV z) = val32 z := by
  unfold shV val32
  split <;> omega
def shL (inp : List Int) (j : Nat) : List Int := (inp.take j).map shV ++ inp.drop j
theorem shL_zero (inp : List Int) : shL inp 0 = inp := by unfold shL; simp
theorem shL_all {inp : List Int} : shL inp inp.length = inp.map shV := by unfold shL; simp
theorem shL_len {inp : List Int} {j : Nat} (h : j ≤ inp.length) : (shL inp j).length = inp.length := by unfold shL; simp; omega
theorem shL_step {inp : List Int} {j : Nat} {z : Int} (h : inp[j]? = some z) : shL inp (j + 1) = (shL inp j).set j (shV z) ∧ (shL inp j)[j]? = some z := by
  have hj := (List.getElem?_eq_some_iff.mp h).1
  have hz := (List.getElem?_eq_some_iff.mp h).2
  have hl : ((inp.take j).map shV).length = j := by simp; omega
  have hd : inp.drop j = z :: inp.drop (j + 1) := by rw [List.drop_eq_getElem_cons hj, hz]
  unfold shL
  constructor
  · rw [List.take_add_one, h, hd, List.map_append, List.set_append_right _ _ (by omega), hl, Nat.sub_self, List.append_assoc]
    rfl
  · rw [List.getElem?_append_right (by omega), hl, Nat.sub_self, hd]
    rfl
theorem set_same8 {l : List Int} {j : Nat} {z : Int} (h : l[j]? = some z) : l.set j z = l := by
  obtain ⟨hj, e⟩ := List.getElem?_eq_some_iff.mp h
  subst e
  exact List.set_getElem_self hj
theorem runV_len8 (T : Task) (inp : List Int) : (runV T inp).length ≤ T.parts.length := by
  unfold runV
  split
  · rw [runK_len]; exact Nat.le_refl _
  · exact Nat.zero_le _
def mostV (ps : List (Int × Int × Int)) : Int := ps.foldl (fun m e => if e.1 = 0 then max m e.2.1 else m) (-1)
theorem mostV_step {ps : List (Int × Int × Int)} {j : Nat} {e : Int × Int × Int} (h : ps[j]? = some e) : mostV (ps.take (j + 1)) = if e.1 = 0 then max (mostV (ps.take j)) e.2.1 else mostV (ps.take j) := by
  unfold mostV
  rw [List.take_add_one, h, List.foldl_append]
  rfl
theorem most_fold : ∀ (ps : List (Int × Int × Int)) (m : Int), m ≤ ps.foldl (fun m e => if e.1 = 0 then max m e.2.1 else m) m ∧ ∀ e ∈ ps, e.1 = 0 → e.2.1 ≤ ps.foldl (fun m e => if e.1 = 0 then max m e.2.1 else m) m := by
  intro ps
  induction ps with
  | nil => exact fun m => ⟨Int.le_refl _, fun e h => by cases h⟩
  | cons x l ih =>
    intro m
    rw [List.foldl_cons]
    obtain ⟨h1, h2⟩ := ih (if x.1 = 0 then max m x.2.1 else m)
    have h3 : m ≤ if x.1 = 0 then max m x.2.1 else m := by split <;> omega
    refine ⟨Int.le_trans h3 h1, fun e he h0 => ?_⟩
    rcases List.mem_cons.mp he with rfl | he
    · rw [if_pos h0] at h1 ⊢
      omega
    · exact h2 e he h0
theorem mostV_le {ps : List (Int × Int × Int)} {e : Int × Int × Int} (he : e ∈ ps) (h0 : e.1 = 0) : e.2.1 ≤ mostV ps := (most_fold ps (-1)).2 e he h0
theorem inputs_same {T : Task} {inp oth : List Int} : runV T inp = runV T (inp.map shV ++ if mostV T.parts < inp.length then oth else []) := by
  refine run_same fun e he h0 h1 => ?_
  have hm := mostV_le he h0
  obtain ⟨x, hx⟩ : ∃ x : Nat, e.2.1 = x := ⟨e.2.1.toNat, by omega⟩
  rw [hx, Int.toNat_natCast, List.getD_eq_getElem?_getD, List.getD_eq_getElem?_getD]
  by_cases hl : x < inp.length
  · rw [List.getElem?_append_left (by simpa using hl), List.getElem?_map, List.getElem?_eq_getElem hl]
    exact (shV_val _).symm
  · rw [if_neg (by omega), List.append_nil, List.getElem?_map, List.getElem?_eq_none (by omega)]
    rfl

/-! Lists of the call's own that are written in place -/
theorem ownI_set {w : World} {base g n c j : Nat} {zs : List Int} (h : OwnI w base (.slice (some ⟨g, 0, none⟩) n c) zs) (hj : j < zs.length) (z : Int) : OwnI (w.setCell ⟨g, j, none⟩ (.int .i64 z)) base (.slice (some ⟨g, 0, none⟩) n c) (zs.set j z) := by
  unfold OwnI at h ⊢
  rw [List.length_set, List.map_set]
  refine ⟨by rw [List.length_set]; exact h.1, ?_⟩
  rcases h.2 with ⟨e, _⟩ | ⟨g', cap, cur, e, hg, hgg, hnc, hcm, hcs, htake⟩
  · cases e
  · injection e with e1 e2 e3
    injection e1 with e1
    injection e1 with e1
    subst e1 e2 e3
    refine .inr ⟨g, _, cur.setIfInBounds j (.int .i64 z), rfl, hg, heap_setCell_same w g j _ _ _ hgg, hnc, hcm, by rw [Array.size_setIfInBounds]; exact hcs, ?_⟩
    rw [Array.toList_setIfInBounds, ← htake, List.take_set]
theorem append_any8 {w : World} {base n c m d : Nat} {A F : Option Addr} {zs ys : List Int} (ty : TypeId) (h : OwnI w base (.slice A n c) zs) (hn : zs.length = n) (hy : Ints w w.heap.size F ys) (hm : ys.length = m) (hF : F = none → m = 0 ∧ d = 0) (l1 : n ≤ 1000) (l2 : m ≤ 1000) (hb : base ≤ w.heap.size) :
    ∃ A' c' w', (Builtin.append_ #[25, 25] ty #[.slice A n c, .slice F m d]).run Tryz.prog w = .ok (.slice A' (n + m) c') w' ∧ OwnI w' base (.slice A' (n + m) c') (zs ++ ys) ∧ Below base w w' := by
  obtain ⟨i0, hi0, hz0, hz1, hz2⟩ := info_parts5 int_cell_info
  subst hn hm
  cases F with
  | none =>
    obtain ⟨h1, rfl⟩ := hF rfl
    obtain rfl : ys = [] := List.eq_nil_of_length_eq_zero h1
    refine ⟨A, c, w, run_append_owned_none w base 25 ty 3 i0 1 Tryz.underlying25 hi0 _ _ _ h, ?_, Below.refl _ _⟩
    rw [List.append_nil]
    exact h
  | some ad =>
    obtain ⟨v', w', hr, ho, hg, _, _⟩ := run_append_own_at (P := Tryz.prog) w base 25 ty 3 i0 (.int .i64 0) 1 8 Tryz.underlying25 hi0 hz0 hz1 hz2 rfl (by omega) (.slice A zs.length c) zs.length (zs.map (Value.int .i64)) h ad ys.length d (ys.map (Value.int .i64)) (by simp) (fun j u hu => hy.cells j u hu) (oneCell_ints ys) (by unfold maxLen; omega) (by omega) hb
    have ho' : OwnI w' base v' (zs ++ ys) := by unfold OwnI; rw [List.length_append, List.map_append]; exact ho
    obtain ⟨A', c', rfl, _⟩ := ho'.slice
    rw [List.length_append] at ho' hr
    refine ⟨A', c', w', hr, ho', hg.os, hg.tape, hg.output, hg.size, fun k hk => hg.block k (by omega) fun e => ?_⟩
    obtain ⟨h1, _⟩ := row_lt h k e.symm
    omega
theorem new_list8 (W : World) (A : Option Addr) (c : Nat) (zs : List Int) (hl : zs.length ≤ 1000) (hZ : Ints W W.heap.size A zs) (hA : A = none → zs.length = 0 ∧ c = 0) :
    ∃ A' c' w', (Builtin.append_ #[25, 25] 25 #[.slice (some ⟨W.heap.size, 0, none⟩) 0 0, .slice A zs.length c]).run Tryz.prog (W.alloc (.cells #[] 3)) = .ok (.slice A' zs.length c') w' ∧ OwnI w' W.heap.size (.slice A' zs.length c') zs ∧ Below W.heap.size W w' := by
  obtain ⟨v', w', hr, ho, hb⟩ := new_ints8 W 25 A c zs hl hZ hA
  obtain ⟨A', c', rfl, _⟩ := OwnI.slice ho
  exact ⟨A', c', w', hr, ho, hb⟩
/-- The box, and the inputs. -/
structure BxN8 (w : World) (s : Sh) (T : Task) (Ai : Option Addr) (inp : List Int) (Ao : Option Addr) (oth : List Int) (w' : World) : Prop where
  b : Bx1D w s T w'
  i : Ints w' w'.heap.size Ai inp
  o : Ints w' w'.heap.size Ao oth
section
variable {s : Sh} {T : Task} {inp oth : List Int} {Ai Ao : Option Addr} {ni ci no co : Nat}
theorem BxN8.next {w w1 w2 : World} (h : BxN8 w s T Ai inp Ao oth w1) (b : Below w1.heap.size w1 w2) : BxN8 w s T Ai inp Ao oth w2 := ⟨h.b.next b, (h.i.below b).more b.size, (h.o.below b).more b.size⟩
set_option maxRecDepth 100000 in
set_option maxHeartbeats 8000000 in
theorem inputs_many (w : World) (hd : InD w s T) (hT : DTab w) (h : ¬ (FewD T ∧ ni ≤ 60)) :
    Calls Tryz.prog 8 #[s.arg T.period T.deadline, .slice Ai ni ci, .slice Ao no co] w fun z w' => z = .returned (.bool true) ∧ Below w.heap.size w w' := by
  have HTW := Lib.hid (fun W (h : Below w.heap.size w W) => DTab.via hT h)
  have B0 := Lib.hid (Bx1T.start hd.t)
  have CF := Lib.hid (fun W (k : IsT W W.heap.size s T) => few8_any (s := s) (T := T) (A := none) (n := 0) (c := 0) (F := none) (m := 0) (d := 0) (Ai := Ai) (ni := ni) (ci := ci) W k false ⟨fun e => (by cases e), fun e => absurd ⟨e.1, e.2.1⟩ h⟩)
  obtain ⟨P, np, pc, E, ne, ec, Fu, nf, fc, R, nr, rc⟩ := s
  clear hd hT h
  go_enter Tryz.func8, Tryz.ntmps8
  go_wp2_with fail
  refine (awakeE_any _ (HTW.out _ B0.out.bel)).mono ?_
  rintro e w1 ⟨rfl, b1⟩
  have B1 := Lib.hid (B0.out.next b1)
  clear b1
  obtain ⟨t0, t1, t2, t3, t4, t5⟩ := B1.out.c
  simp only at t2 t3 t4 t5
  go_wp2_with fail
  refine (CF.out _ B1.out.t).mono ?_
  rintro e w2 ⟨rfl, b2⟩
  have B2 := Lib.hid (B1.out.next b2)
  clear b2 t0 t1 t2 t3 t4 t5
  go_wp2_with fail
  refine (awakeE_any _ (HTW.out _ B2.out.bel)).mono ?_
  rintro e w3 ⟨rfl, b3⟩
  have B3 := Lib.hid (B2.out.next b3)
  clear b3
  go_wp2_with fail
  go_ret
  exact ⟨rfl, B3.out.bel⟩
set_option maxRecDepth 100000 in
set_option maxHeartbeats 8000000 in
theorem inputs_long (w : World) (hd : InD w s T) (hT : DTab w) (h1 : FewD T) (h2 : ni ≤ 60) (h3 : 60 < no) :
    Calls Tryz.prog 8 #[s.arg T.period T.deadline, .slice Ai ni ci, .slice Ao no co] w fun z w' => z = .returned (.bool true) ∧ Below w.heap.size w w' := by
  have HTW := Lib.hid (fun W (h : Below w.heap.size w W) => DTab.via hT h)
  have B0 := Lib.hid (Bx1T.start hd.t)
  have CF := Lib.hid (fun W (k : IsT W W.heap.size s T) => few8_any (s := s) (T := T) (A := none) (n := 0) (c := 0) (F := none) (m := 0) (d := 0) (Ai := Ai) (ni := ni) (ci := ci) W k true ⟨fun _ => ⟨h1, h2, by decide, by decide⟩, fun _ => rfl⟩)
  obtain ⟨P, np, pc, E, ne, ec, Fu, nf, fc, R, nr, rc⟩ := s
  have g1 : decide ((60 : Int) < (no : Int)) = true := decide_eq_true (by omega)
  have g2 : decide (60 < no) = true := decide_eq_true h3
  clear hd hT h1
  go_enter Tryz.func8, Tryz.ntmps8
  go_wp2_with fail
  refine (awakeE_any _ (HTW.out _ B0.out.bel)).mono ?_
  rintro e w1 ⟨rfl, b1⟩
  have B1 := Lib.hid (B0.out.next b1)
  clear b1
  obtain ⟨t0, t1, t2, t3, t4, t5⟩ := B1.out.c
  simp only at t2 t3 t4 t5
  go_wp2_with fail
  refine (CF.out _ B1.out.t).mono ?_
  rintro e w2 ⟨rfl, b2⟩
  have B2 := Lib.hid (B1.out.next b2)
  clear b2 t0 t1 t2 t3 t4 t5
  go_wp2_with fail
  refine (awakeE_any _ (HTW.out _ B2.out.bel)).mono ?_
  rintro e w3 ⟨rfl, b3⟩
  have B3 := Lib.hid (B2.out.next b3)
  clear b3
  go_wp2_with fail
  go_ret
  exact ⟨rfl, B3.out.bel⟩
set_option maxRecDepth 100000 in
set_option maxHeartbeats 32000000 in
theorem inputs_few (w : World) (hd : InD w s T) (hi : InI w Ai ni ci inp) (ho : InI w Ao no co oth) (hT : DTab w) (h1 : FewD T) (h2 : ni ≤ 60) (h3 : no ≤ 60) :
    Calls Tryz.prog 8 #[s.arg T.period T.deadline, .slice Ai ni ci, .slice Ao no co] w fun z w' => z = .returned (.bool true) ∧ Below w.heap.size w w' := by
  obtain rfl := hi.hn
  obtain rfl := ho.hn
  have HTW := Lib.hid (fun W (h : Below w.heap.size w W) => DTab.via hT h)
  have hD := hd.isD hT h1
  have hb0 := below_alloc (w := w) (.cells #[.int .i64 T.period, .int .i64 T.deadline, .slice s.P s.np s.pc, .slice s.E s.ne s.ec, .slice s.F s.nf s.fc, .slice s.R s.nr s.rc] 34)
  have B0 : Hid (BxN8 w s T Ai inp Ao oth _) := Lib.hid ⟨⟨(Bx1T.start hd.t).bel, (Bx1T.start hd.t).c, hD.below hb0⟩, (hi.ints.below hb0).more hb0.size, (ho.ints.below hb0).more hb0.size⟩
  have CF := Lib.hid (fun W (k : IsT W W.heap.size s T) => few8_any (s := s) (T := T) (A := none) (n := 0) (c := 0) (F := none) (m := 0) (d := 0) (Ai := Ai) (ni := inp.length) (ci := ci) W k true ⟨fun _ => ⟨h1, h2, by decide, by decide⟩, fun _ => rfl⟩)
  have HAI := Lib.hid hi.hA
  have HAO := Lib.hid ho.hA
  have HNP := Lib.hid hd.t.hp
  have hnp4 : s.np ≤ 400 := by have h1 := hD.few.np; have h2 := hD.t.hp; omega
  have hk0 := runV_len8 T inp
  rw [HNP.out] at hk0
  have HSAME := Lib.hid (inputs_same (T := T) (inp := inp) (oth := oth))
  obtain ⟨P, np, pc, E, ne, ec, Fu, nf, fc, R, nr, rc⟩ := s
  simp only at HNP hnp4 hk0
  obtain ⟨n, hn⟩ : ∃ n, inp.length = n := ⟨_, rfl⟩
  obtain ⟨no, hno⟩ : ∃ n, oth.length = n := ⟨_, rfl⟩
  have HN := Lib.hid hn
  have HNO := Lib.hid hno
  have HLI := Lib.hid (fun W (h1 : Ints W W.heap.size Ai inp) => new_list8 W Ai ci inp (by omega) h1 HAI.out)
  rw [hn] at CF h2 HAI HSAME HLI ⊢
  rw [hno] at h3 HAO ⊢
  have g1 : decide ((60 : Int) < (no : Int)) = false := decide_eq_false (by omega)
  have g2 : decide (60 < no) = false := decide_eq_false (by omega)
  clear hd hT h1 hi ho hD hb0 hn hno
  go_enter Tryz.func8, Tryz.ntmps8
  go_wp2_with fail
  refine (awakeE_any _ (HTW.out _ B0.out.b.bel)).mono ?_
  rintro e w1 ⟨rfl, b1⟩
  have B1 := Lib.hid (B0.out.next b1)
  clear b1
  obtain ⟨t0, t1, t2, t3, t4, t5⟩ := B1.out.b.c
  simp only at t2 t3 t4 t5
  go_wp2_with fail
  refine (CF.out _ B1.out.b.d.t).mono ?_
  rintro e w2 ⟨rfl, b2⟩
  have B2 := Lib.hid (B1.out.next b2)
  clear b2 t0 t1 t2 t3 t4 t5
  obtain ⟨t0, t1, t2, t3, t4, t5⟩ := B2.out.b.c
  simp only at t2 t3 t4 t5
  go_wp2_with fail
  refine (own_d B2.out.b.d).mono ?_
  rintro e w3 ⟨s3, rfl, hs3, b3⟩
  have B3 := Lib.hid (B2.out.next b3)
  obtain ⟨A4, c4, w4, hr4, ho4, hb4⟩ := HLI.out w3 B3.out.i
  have HS4 := Lib.hid (hs3.below hb4)
  have B4 := Lib.hid (B3.out.next hb4)
  have HR4 := Lib.hid hr4
  have HO4 := Lib.hid ho4
  clear hs3 b3 hr4 ho4 hb4 t0 t1 t2 t3 t4 t5 g1 g2
  go_wp2_with (at_builtin; refine wpList_append_run rfl _ _ 25 _ _ rfl rfl rfl HR4.out ?_)
  refine (run_any w4 HS4.out (OwnI.ints HO4.out) HN.out (by omega)).mono ?_
  rintro e w5 ⟨⟨A5, k5, c5, rfl, hk5', hi5⟩, b5⟩
  have B5 := Lib.hid (B4.out.next b5)
  have L5 := Lib.hid hi5
  have HK5 := Lib.hid hk5'
  have hk5 : k5 ≤ 1000 := by omega
  obtain ⟨lz, hlz⟩ : ∃ lz, lz = lowX T := ⟨_, rfl⟩
  have HLZ := Lib.hid hlz
  rw [← hlz]
  clear b5 hi5 hk5' hlz hk0
  go_wp2
  go_loopw [9, 10] (fun g i wr => ∃ (j : Nat) (mo : Int), j ≤ np ∧ i = .int .i64 j ∧ g = .int .i64 mo ∧ Hid (mo = mostV (T.parts.take j)) ∧ w5 = wr) (fun _ i _ => np - (intOf i).toNat)
  case atStart => exact ⟨0, -1, Nat.zero_le _, rfl, rfl, Lib.hid rfl, rfl⟩
  case round =>
    obtain ⟨j, mo, hj, rfl, rfl, HMO, rfl⟩ := hrel
    have t2 := B5.out.b.c.2.2.1
    simp only at t2
    by_cases hlt : j < np
    · obtain ⟨bp, op, p1, p2, p3, hPe, hbl, hpx, e0, e1, e2⟩ := B5.out.b.d.t.parts.at_ (k := j) (by rw [HNP.out]; exact hlt)
      simp only at hPe
      subst hPe
      have hst := mostV_step hpx
      simp only at hst
      rw [← HMO.out] at hst
      have HST := Lib.hid hst
      clear hpx hbl hst
      by_cases h0 : p1 = 0
      · have h0b : (p1 == 0) = true := by simpa using h0
        have HS1 : Hid ((if mo < p2 then p2 else mo) = mostV (T.parts.take (j + 1))) := Lib.hid (by rw [HST.out, if_pos h0]; split <;> omega)
        have HS2 : Hid (max mo p2 = mostV (T.parts.take (j + 1))) := Lib.hid (by rw [HST.out, if_pos h0])
        clear h0 HST
        go_wp2
        go_roundw
        case rel => first
          | exact ⟨j + 1, _, by omega, by go_num, rfl, HS1, trivial⟩
          | exact ⟨j + 1, _, by omega, by go_num, rfl, HS2, trivial⟩
        case measure => simp [intOf]; omega
      · have h0b : (p1 == 0) = false := by simpa using h0
        have HS1 : Hid (mo = mostV (T.parts.take (j + 1))) := Lib.hid (by rw [HST.out, if_neg h0])
        have h0c : ¬ p1 = 0 := h0
        clear h0 HST
        go_wp2
        go_roundw
        case rel => exact ⟨j + 1, _, by omega, by go_num, rfl, HS1, trivial⟩
        case measure => simp [intOf]; omega
    · obtain rfl : np = j := by omega
      have hmo := HMO.out
      rw [List.take_of_length_le (by rw [HNP.out]; exact Nat.le_refl _)] at hmo
      rw [← hmo] at HSAME
      have HM := Lib.hid hmo
      obtain ⟨A6, c6, w6, hr6, ho6, hb6⟩ := HLI.out w5 B5.out.i
      have HR6 := Lib.hid hr6
      have HO6 := Lib.hid ho6
      have HB6 := Lib.hid hb6
      clear hmo HMO hr6 ho6 hb6
      go_wp2_with (at_builtin; refine wpList_append_run rfl _ _ 25 _ _ rfl rfl rfl HR6.out ?_)
      clear t2
      go_loopw [12] (fun i wr => ∃ j : Nat, j ≤ n ∧ i = .int .i64 j ∧ Hid (OwnI wr w5.heap.size (.slice A6 n c6) (shL inp j)) ∧ Hid (Below w5.heap.size w5 wr)) (fun i _ => n - (intOf i).toNat)
      case atStart => exact ⟨0, Nat.zero_le _, rfl, Lib.hid (by rw [shL_zero]; exact HO6.out), HB6⟩
      case round =>
        obtain ⟨j, hj2, rfl, HO, HB⟩ := hrel
        by_cases hlt2 : j < n
        · obtain ⟨z, hz⟩ : ∃ z, inp[j]? = some z := ⟨_, List.getElem?_eq_getElem (by rw [HN.out]; exact hlt2)⟩
          obtain ⟨hs1, hs2⟩ := shL_step hz
          have hsl : (shL inp j).length = n := by rw [shL_len (by rw [HN.out]; omega)]; exact HN.out
          obtain ⟨ad, rfl⟩ : ∃ ad, A6 = some ad := by
            cases A6 with
            | some ad => exact ⟨ad, rfl⟩
            | none =>
              have := OwnI.none_nil HO.out
              omega
          obtain ⟨gb, rfl, hgb, hrow⟩ := own_rowC HO.out
          have q1 : wr.cell? ⟨gb, j, none⟩ = some (.int .i64 z) := hrow.cell (by rw [List.getElem?_map, hs2]; rfl)
          have q2 := hrow.frozen j
          have HS1 := Lib.hid hs1
          have HS2 := Lib.hid hs2
          have HSL := Lib.hid hsl
          have HGB := Lib.hid hgb
          have hgl := hrow.lt
          clear hz hs1 hs2 hsl hrow hgb
          by_cases hz1 : z < 1099511627776
          · have k1 : decide (z < 1099511627776) = true := decide_eq_true hz1
            by_cases hz2 : -1099511627776 < z
            · have k2 : decide (-1099511627776 < z) = true := decide_eq_true hz2
              have HSH : Hid (shV z = z + 4294967296) := Lib.hid (by unfold shV; rw [if_pos ⟨hz1, hz2⟩])
              go_wp2
              go_roundw
              case rel => exact ⟨j + 1, by omega, by go_num, Lib.hid (by rw [HS1.out, HSH.out]; exact ownI_set HO.out (by rw [HSL.out]; exact hlt2) _), Lib.hid (HB.out.setCell HGB.out _)⟩
              case measure => simp [intOf]; omega
            · have k2 : decide (-1099511627776 < z) = false := decide_eq_false hz2
              have HSH : Hid (shV z = z) := Lib.hid (by unfold shV; rw [if_neg (fun h => hz2 h.2)])
              go_wp2
              go_roundw
              case rel => exact ⟨j + 1, by omega, by go_num, Lib.hid (by rw [HS1.out, HSH.out, set_same8 HS2.out]; exact HO.out), HB⟩
              case measure => simp [intOf]; omega
          · have k1 : decide (z < 1099511627776) = false := decide_eq_false hz1
            have HSH : Hid (shV z = z) := Lib.hid (by unfold shV; rw [if_neg (fun h => hz1 h.1)])
            go_wp2
            go_roundw
            case rel => exact ⟨j + 1, by omega, by go_num, Lib.hid (by rw [HS1.out, HSH.out, set_same8 HS2.out]; exact HO.out), HB⟩
            case measure => simp [intOf]; omega
        · obtain rfl : n = j := by omega
          have hO := HO.out
          rw [show shL inp n = inp.map shV by rw [← HN.out]; exact shL_all] at hO
          have HOM := Lib.hid hO
          have hml : (inp.map shV).length = n := by rw [List.length_map]; exact HN.out
          have HML := Lib.hid hml
          clear hO HO hml
          by_cases hmo : mo < n
          · have hmd : decide (mo < (n : Int)) = true := decide_eq_true hmo
            have HEQ : Hid (runV T inp = runV T (inp.map shV ++ oth)) := Lib.hid (by
              have h := HSAME
              rw [if_pos hmo] at h
              exact h)
            obtain ⟨A7, c7, w7, hr7, ho7, hb7⟩ := append_any8 25 HOM.out HML.out ((B5.out.o.below HB.out).more HB.out.size) HNO.out HAO.out (by omega) (by omega) HB.out.size
            have HR7 := Lib.hid hr7
            have HOb := Lib.hid ho7
            have HBW := Lib.hid (HB.out.trans hb7)
            have HLb : Hid ((inp.map shV ++ oth).length = n + no) := Lib.hid (by rw [List.length_append, HML.out, HNO.out])
            have hnb : n + no ≤ 1000 := by omega
            clear hr7 ho7 hb7 HOM HB
            have B7 := Lib.hid (B5.out.next HBW.out)
            obtain ⟨t0, t1, t2, t3, t4, t5⟩ := B7.out.b.c
            simp only at t2 t3 t4 t5
            go_wp2_with (at_builtin; refine wpList_append_run rfl _ _ 25 _ _ rfl rfl rfl HR7.out ?_)
            refine (own_d B7.out.b.d).mono ?_
            rintro e w8 ⟨s8, rfl, hs8, b8⟩
            have HS8 := Lib.hid hs8
            have HO8 := Lib.hid ((OwnI.below HOb.out b8).ints)
            have L8 := Lib.hid (((L5.out.below HBW.out).more HBW.out.size).below b8 |>.more b8.size)
            have BB8 := Lib.hid (B7.out.b.bel.trans (b8.mono B7.out.b.bel.size))
            clear hs8 b8 t0 t1 t2 t3 t4 t5
            go_wp2_with fail
            refine (run_any w8 HS8.out HO8.out HLb.out hnb).mono ?_
            rintro e w9 ⟨⟨A9, k9, c9, rfl, hk9, hi9⟩, b9⟩
            rw [← HEQ.out] at hk9 hi9
            rw [HK5.out] at hk9
            subst hk9
            rw [← HLZ.out]
            have L9 := Lib.hid hi9
            have M9 := Lib.hid ((L8.out.below b9).more b9.size)
            have BB9 := Lib.hid (BB8.out.trans (b9.mono BB8.out.size))
            have hlb : (lz == lz) = true := by simp
            clear hi9 b9
            go_wp2_with fail
            refine (same_list (zs := runV T inp) HK5.out hk5 M9.out L9.out).mono ?_
            rintro e wA ⟨rfl, bA⟩
            have BBA := Lib.hid (BB9.out.trans (bA.mono BB9.out.size))
            clear bA
            go_wp2_with fail
            go_ret
            exact ⟨rfl, BBA.out⟩
          · have hmd : decide (mo < (n : Int)) = false := decide_eq_false hmo
            have HEQ : Hid (runV T inp = runV T (inp.map shV)) := Lib.hid (by
              have h := HSAME
              rw [if_neg hmo, List.append_nil] at h
              exact h)
            have HOb := HOM
            have HBW := HB
            have HLb := HML
            have hnb : n ≤ 1000 := by omega
            clear HOM HB
            have B7 := Lib.hid (B5.out.next HBW.out)
            obtain ⟨t0, t1, t2, t3, t4, t5⟩ := B7.out.b.c
            simp only at t2 t3 t4 t5
            go_wp2_with fail
            refine (own_d B7.out.b.d).mono ?_
            rintro e w8 ⟨s8, rfl, hs8, b8⟩
            have HS8 := Lib.hid hs8
            have HO8 := Lib.hid ((OwnI.below HOb.out b8).ints)
            have L8 := Lib.hid (((L5.out.below HBW.out).more HBW.out.size).below b8 |>.more b8.size)
            have BB8 := Lib.hid (B7.out.b.bel.trans (b8.mono B7.out.b.bel.size))
            clear hs8 b8 t0 t1 t2 t3 t4 t5
            go_wp2_with fail
            refine (run_any w8 HS8.out HO8.out HLb.out hnb).mono ?_
            rintro e w9 ⟨⟨A9, k9, c9, rfl, hk9, hi9⟩, b9⟩
            rw [← HEQ.out] at hk9 hi9
            rw [HK5.out] at hk9
            subst hk9
            rw [← HLZ.out]
            have L9 := Lib.hid hi9
            have M9 := Lib.hid ((L8.out.below b9).more b9.size)
            have BB9 := Lib.hid (BB8.out.trans (b9.mono BB8.out.size))
            have hlb : (lz == lz) = true := by simp
            clear hi9 b9
            go_wp2_with fail
            refine (same_list (zs := runV T inp) HK5.out hk5 M9.out L9.out).mono ?_
            rintro e wA ⟨rfl, bA⟩
            have BBA := Lib.hid (BB9.out.trans (bA.mono BB9.out.size))
            clear bA
            go_wp2_with fail
            go_ret
            exact ⟨rfl, BBA.out⟩
theorem walk_EvalInputs (w : World) (hd : InD w s T) (hi : InI w Ai ni ci inp) (ho : InI w Ao no co oth) (hT : DTab w) :
    Calls Tryz.prog 8 #[s.arg T.period T.deadline, .slice Ai ni ci, .slice Ao no co] w fun z w' => z = .returned (.bool true) ∧ Below w.heap.size w w' := by
  by_cases h1 : FewD T ∧ ni ≤ 60
  · by_cases h3 : no ≤ 60
    · exact inputs_few w hd hi ho hT h1.1 h1.2 h3
    · exact inputs_long w hd hT h1.1 h1.2 (by omega)
  · exact inputs_many w hd hT h1
end
end Go.Proofs.YtecjpclkiiaidaaGreatDoor
