/- Own and few of trefoillaw08 in the seat YtmelgolnmnebpaaGreatDoor: their contracts.
   What Run tells is what each part's feeds come to; what inputs count: in plain words, in the seat YtmelgolnmnebpaaGreatDoor.
   No statement is proved here. -/
import Derived.Test.YtmelgolnmnebpaaGreatDoorZEvalNew
import Derived.Test.YtmelgolnmnebpaaGreatDoorZM26
import Derived.Test.YtmelgolnmnebpaaGreatDoorZM25
import Derived.Test.YtmelgolnmnebpaaGreatDoorZM27
set_option linter.unusedSimpArgs false
set_option linter.unusedVariables false
set_option linter.unusedSimpArgs false
namespace Go.Proofs.YtmelgolnmnebpaaGreatDoor
open Go.RowKit

section
variable {A : Option Addr} {n c : Nat} {F : Option Addr} {m d : Nat} {D : List Bool} {V : List Int}
end
/-- The boxes of few. -/
structure BxK (w : World) (s : Sh) (T : Task) (A : Option Addr) (n c : Nat) (F : Option Addr) (m d : Nat) (w' : World) : Prop where
  bel : Below w.heap.size w w'
  lt : w.heap.size + 1 < w'.heap.size
  cd : CellsD w' s T.period T.deadline w.heap.size
  m0 : w'.cell? ⟨w.heap.size + 1, 0, none⟩ = some (.slice A n c)
  m1 : w'.cell? ⟨w.heap.size + 1, 1, none⟩ = some (.slice F m d)
  t : IsT w' w'.heap.size s T
section
variable {s : Sh} {T : Task} {A : Option Addr} {n c : Nat} {F : Option Addr} {m d : Nat} {Ai : Option Addr} {ni ci : Nat}
theorem BxK.next {w w1 w2 : World} (h : BxK w s T A n c F m d w1) (hb : Below w1.heap.size w1 w2) : BxK w s T A n c F m d w2 :=
  ⟨h.bel.trans (hb.mono h.bel.size), Nat.lt_of_lt_of_le h.lt hb.size, h.cd.next hb, (hb.cell h.lt).trans h.m0, (hb.cell h.lt).trans h.m1, (h.t.below hb).more hb.size⟩
theorem BxK.start {w : World} (hd : IsT w w.heap.size s T) : BxK w s T A n c F m d ((w.alloc (.cells #[.int .i64 T.period, .int .i64 T.deadline, .slice s.P s.np s.pc, .slice s.E s.ne s.ec, .slice s.F s.nf s.fc, .slice s.R s.nr s.rc] 27)).alloc (.cells #[.slice A n c, .slice F m d] 43)) := by
  have h1 := Bx1T.start hd
  obtain ⟨w0, hw0⟩ : ∃ w0, w0 = w.alloc (.cells #[.int .i64 T.period, .int .i64 T.deadline, .slice s.P s.np s.pc, .slice s.E s.ne s.ec, .slice s.F s.nf s.fc, .slice s.R s.nr s.rc] 27) := ⟨_, rfl⟩
  rw [← hw0] at h1 ⊢
  have hs : w0.heap.size = w.heap.size + 1 := by rw [hw0]; simp
  have h2 := h1.next (below_alloc (w := w0) (.cells #[.slice A n c, .slice F m d] 43))
  refine ⟨h2.bel, by simp [hs], h2.c, ?_, ?_, h2.t⟩ <;> (rw [World.cell?_alloc_at _ _ _ _ hs.symm]; rfl)
set_option maxRecDepth 100000 in
set_option maxHeartbeats 4000000 in
theorem few8_any (w : World) (hd : IsT w w.heap.size s T) (b : Bool) (hb : b = true ↔ FewD T ∧ ni ≤ 60 ∧ n ≤ 70 ∧ m ≤ 70) :
    Calls Tryz.prog 16 #[s.arg T.period T.deadline, .slice Ai ni ci, .agg #[.slice A n c, .slice F m d]] w fun e w' => e = .returned (.bool b) ∧ Below w.heap.size w w' := by
  have HS := Lib.hid (BxK.start (A := A) (n := n) (c := c) (F := F) (m := m) (d := d) hd)
  obtain ⟨P, np, pc, E, ne, ec, Fu, nf, fc, R, nr, rc⟩ := s
  obtain ⟨w0, hw0⟩ : ∃ w0, w0 = (w.alloc (.cells #[.int .i64 T.period, .int .i64 T.deadline, .slice P np pc, .slice E ne ec, .slice Fu nf fc, .slice R nr rc] 27)).alloc (.cells #[.slice A n c, .slice F m d] 43) := ⟨_, rfl⟩
  simp only at HS
  rw [← hw0] at HS
  have HW := Lib.hid hw0
  clear hd hw0
  by_cases hF : FewD T
  · have HF := Lib.hid hF
    have K := Lib.hid (fun (h1 : ni ≤ 60) (h2 : n ≤ 70) (h3 : m ≤ 70) => hb.mpr ⟨hF, h1, h2, h3⟩)
    have K2 := Lib.hid (fun (h : b = true) => (hb.mp h).2)
    clear hb hF
    by_cases h1 : ni ≤ 60
    · have g1 : decide ((ni : Int) ≤ 60) = true := decide_eq_true (by omega)
      have g1' : decide (ni ≤ 60) = true := decide_eq_true h1
      by_cases h2 : n ≤ 70
      · have g2 : decide ((n : Int) ≤ 70) = true := decide_eq_true (by omega)
        have g2' : decide (n ≤ 70) = true := decide_eq_true h2
        by_cases h3 : m ≤ 70
        · have g3 : decide ((m : Int) ≤ 70) = true := decide_eq_true (by omega)
          have g3' : decide (m ≤ 70) = true := decide_eq_true h3
          obtain rfl := K.out h1 h2 h3
          go_enter Tryz.func16, Tryz.ntmps16
          go_wp2_with fail
          rw [← HW.out]
          clear HW
          refine (few_d HS.out.t HF.out).mono ?_
          rintro e w1 ⟨rfl, b1⟩
          have H1 := Lib.hid (HS.out.next b1)
          have lt := H1.out.lt
          have m0 := H1.out.m0
          have m1 := H1.out.m1
          clear b1
          go_wp2_with fail
          go_ret
          exact ⟨rfl, H1.out.bel⟩
        · have g3 : decide ((m : Int) ≤ 70) = false := decide_eq_false (by omega)
          have g3' : decide (m ≤ 70) = false := decide_eq_false h3
          obtain rfl : b = false := by cases b with | false => rfl | true => exact absurd (K2.out rfl).2.2 h3
          go_enter Tryz.func16, Tryz.ntmps16
          go_wp2_with fail
          rw [← HW.out]
          clear HW
          refine (few_d HS.out.t HF.out).mono ?_
          rintro e w1 ⟨rfl, b1⟩
          have H1 := Lib.hid (HS.out.next b1)
          have lt := H1.out.lt
          have m0 := H1.out.m0
          have m1 := H1.out.m1
          clear b1
          go_wp2_with fail
          go_ret
          exact ⟨rfl, H1.out.bel⟩
      · have g2 : decide ((n : Int) ≤ 70) = false := decide_eq_false (by omega)
        have g2' : decide (n ≤ 70) = false := decide_eq_false h2
        obtain rfl : b = false := by cases b with | false => rfl | true => exact absurd (K2.out rfl).2.1 h2
        go_enter Tryz.func16, Tryz.ntmps16
        go_wp2_with fail
        rw [← HW.out]
        clear HW
        refine (few_d HS.out.t HF.out).mono ?_
        rintro e w1 ⟨rfl, b1⟩
        have H1 := Lib.hid (HS.out.next b1)
        have lt := H1.out.lt
        have m0 := H1.out.m0
        have m1 := H1.out.m1
        clear b1
        go_wp2_with fail
        go_ret
        exact ⟨rfl, H1.out.bel⟩
    · have g1 : decide ((ni : Int) ≤ 60) = false := decide_eq_false (by omega)
      have g1' : decide (ni ≤ 60) = false := decide_eq_false h1
      obtain rfl : b = false := by cases b with | false => rfl | true => exact absurd (K2.out rfl).1 h1
      go_enter Tryz.func16, Tryz.ntmps16
      go_wp2_with fail
      rw [← HW.out]
      clear HW
      refine (few_d HS.out.t HF.out).mono ?_
      rintro e w1 ⟨rfl, b1⟩
      have H1 := Lib.hid (HS.out.next b1)
      have lt := H1.out.lt
      have m0 := H1.out.m0
      have m1 := H1.out.m1
      clear b1
      go_wp2_with fail
      go_ret
      exact ⟨rfl, H1.out.bel⟩
  · obtain rfl : b = false := by cases b with | false => rfl | true => exact absurd (hb.mp rfl).1 hF
    have HF := Lib.hid hF
    clear hb hF
    go_enter Tryz.func16, Tryz.ntmps16
    go_wp2_with fail
    rw [← HW.out]
    clear HW
    refine (few_n HS.out.t HF.out).mono ?_
    rintro e w1 ⟨rfl, b1⟩
    have H1 := Lib.hid (HS.out.next b1)
    have lt := H1.out.lt
    have m0 := H1.out.m0
    have m1 := H1.out.m1
    clear b1
    go_wp2_with fail
    go_ret
    exact ⟨rfl, H1.out.bel⟩
end
end Go.Proofs.YtmelgolnmnebpaaGreatDoor
set_option linter.unusedVariables false
namespace Go.Proofs.YtmelgolnmnebpaaGreatDoor

/-- The nodes of a list, done. -/
def doneK (n : Nat) (l : List Nat) : List Bool := l.foldl (fun D m => D.set m true) (List.replicate n false)
theorem doneK_snoc (n : Nat) (l : List Nat) (m : Nat) : doneK n (l ++ [m]) = (doneK n l).set m true := by unfold doneK; rw [List.foldl_append]; rfl
theorem doneK_len (n : Nat) (l : List Nat) : (doneK n l).length = n := by
  have : ∀ (l : List Nat) (D : List Bool), (l.foldl (fun D m => D.set m true) D).length = D.length := by
    intro l
    induction l with
    | nil => intro D; rfl
    | cons m l ih => intro D; rw [List.foldl_cons, ih, List.length_set]
  unfold doneK
  rw [this, List.length_replicate]
theorem doneK_mem (n : Nat) : ∀ (l : List Nat) (D : List Bool) (j : Nat), (l.foldl (fun D m => D.set m true) D).getD j false = true ↔ D.getD j false = true ∨ (j < D.length ∧ j ∈ l) := by
  intro l
  induction l with
  | nil => intro D j; simp
  | cons m l ih =>
    intro D j
    rw [List.foldl_cons, ih, List.length_set]
    have h : (D.set m true).getD j false = true ↔ D.getD j false = true ∨ (j < D.length ∧ j = m) := by
      rw [List.getD_eq_getElem?_getD, List.getD_eq_getElem?_getD, List.getElem?_set]
      by_cases e : m = j
      · subst e
        rw [if_pos rfl]
        by_cases hl : m < D.length
        · rw [if_pos hl]; simp [hl]
        · rw [if_neg hl]; simp [hl]
      · rw [if_neg e]
        constructor
        · exact .inl
        · rintro (h | ⟨_, h⟩)
          · exact h
          · exact absurd h.symm e
    rw [h]
    constructor
    · rintro ((h1 | ⟨h1, rfl⟩) | ⟨h1, h2⟩)
      · exact .inl h1
      · exact .inr ⟨h1, List.mem_cons_self⟩
      · exact .inr ⟨h1, List.mem_cons_of_mem _ h2⟩
    · rintro (h1 | ⟨h1, h2⟩)
      · exact .inl (.inl h1)
      · rcases List.mem_cons.mp h2 with rfl | h2
        · exact .inl (.inr ⟨h1, rfl⟩)
        · exact .inr ⟨h1, h2⟩
theorem doneK_iff {n : Nat} {l : List Nat} {j : Nat} : (doneK n l).getD j false = true ↔ j < n ∧ j ∈ l := by
  unfold doneK
  rw [doneK_mem n, List.length_replicate]
  constructor
  · rintro (h | h)
    · rw [repl_false] at h; cases h
    · exact h
  · exact .inr
theorem run_told {T : Task} (h : LowOk T) (inp : List Int) {l : List Nat} (ho : Ordered (lowP T).length (lowE T) l) : ∀ j, j ≤ l.length → MemOk T (doneK (lowP T).length (l.take j)) (runK T inp (l.take j)) ∧ ToldM T inp (doneK (lowP T).length (l.take j)) (runK T inp (l.take j)) := by
  intro j
  induction j with
  | zero =>
    intro _
    rw [List.take_zero]
    exact ⟨MemOk.new h, ToldM.new T inp _⟩
  | succ j ih =>
    intro hj
    obtain ⟨i1, i2⟩ := ih (by omega)
    have hm : l[j]? = some l[j] := List.getElem?_eq_getElem (by omega)
    have hr : l[j] ∈ readyD (lowE T) (doneK (lowP T).length (l.take j)) := by
      refine mem_readyD.mpr ⟨by rw [doneK_len]; exact ho.lt _ (List.getElem_mem _), ?_, ?_⟩
      · cases hd : (doneK (lowP T).length (l.take j)).getD l[j] false with
        | false => rfl
        | true =>
          exfalso
          have h2 := (doneK_iff.mp hd).2
          have hn := ho.nodup
          rw [show l = l.take j ++ l.drop j from (List.take_append_drop j l).symm, List.nodup_append] at hn
          refine hn.2.2 _ h2 _ ?_ rfl
          rw [List.drop_eq_getElem_cons (by omega)]
          exact List.mem_cons_self
      · refine waitB_false.mpr fun a ha => ?_
        have hf := (low_fits h) _ ha
        obtain ⟨x, rfl⟩ : ∃ x : Nat, a = x := ⟨a.toNat, by have := hf.1; simp only at this; omega⟩
        rw [Int.toNat_natCast]
        refine doneK_iff.mpr ⟨by have := hf.2.1; simp only at this; omega, ho.behind j (by omega) x ha⟩
    have e1 : l.take (j + 1) = l.take j ++ [l[j]] := by rw [List.take_add_one, hm]; rfl
    rw [runK_snoc T inp hm, e1, doneK_snoc]
    exact ⟨i1.step hr (settleV_len T inp _ _), i2.step i1 hr⟩
theorem run_fixed {T : Task} (h : LowOk T) (inp : List Int) : Fixed T inp (runV T inp) := by
  have hw : (lowW T).length = (lowP T).length := by rw [lowW_len h.1, lowP_len h.1]
  have ho : Ordered (lowP T).length (lowE T) (ord (lowW T).length (lowE T)) := by rw [← hw]; exact ordK_ordered h.2.fits _
  have hl : (ord (lowW T).length (lowE T)).length = (lowP T).length := by rw [← hw]; exact ordK_length h.2.fits h.2.acyc _ (Nat.le_refl _)
  obtain ⟨k1, k2⟩ := run_told h inp ho _ (Nat.le_refl _)
  rw [List.take_length] at k1 k2
  unfold runV
  rw [if_pos h]
  refine ToldM.fixed k1 k2 fun j hj => ?_
  rw [doneK_len] at hj
  exact doneK_iff.mpr ⟨hj, ho.all hl j hj⟩
theorem run_no {T : Task} (h : ¬ LowOk T) (inp : List Int) : runV T inp = [] := by unfold runV; rw [if_neg h]
end Go.Proofs.YtmelgolnmnebpaaGreatDoor
