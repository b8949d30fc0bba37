/- Own, few and little of trefoillaw11 in the seat YtmmogdccjiagnaaDoor: their contracts.
   The longest way, an edge more and an edge less: plain mathematics (parted out of LongMath in round 10), in the seat YtmmogdccjiagnaaDoor.
   sched.Busy and sched.Bound in the seat YtmmogdccjiagnaaDoor: their contracts.
   No statement is proved here. -/
import Derived.Test.YtmmogdccjiagnaaDoorZM13
import Derived.Test.YtmmogdccjiagnaaDoorZM16
import Derived.Test.YtmmogdccjiagnaaDoorZM2
import Derived.Test.YtmmogdccjiagnaaDoorZM5
import Derived.Test.YtmmogdccjiagnaaDoorZM11
import Derived.Deep.RegionHeld3
set_option linter.unusedSimpArgs false
set_option linter.unusedVariables false
set_option linter.unusedSimpArgs false
namespace Go.Proofs.YtmmogdccjiagnaaDoor
open Go.RowKit

/-- The boxes of Own. -/
structure BxOC (w : World) (A : Option Addr) (n c : Nat) (F : Option Addr) (m d : Nat) (O L : List Int) (w' : World) : Prop where
  bel : Below w.heap.size w w'
  a : w'.heap[w.heap.size]? = some (.cells #[.slice A n c, .slice F m d] 27 (0, 0))
  r : w'.heap[w.heap.size + 1]? = some (.cells #[.slice none 0 0, .slice none 0 0] 27 (0, 0))
  l : IsC w' A n c F m d O L
section
variable {A : Option Addr} {n c : Nat} {F : Option Addr} {m d : Nat} {O L : List Int}
theorem BxOC.next {w w1 w2 : World} (h : BxOC w A n c F m d O L w1) (b : Below w1.heap.size w1 w2) : BxOC w A n c F m d O L w2 :=
  ⟨h.bel.trans (b.mono h.bel.size), (b.block _ (Array.getElem?_eq_some_iff.1 h.a).1).trans h.a, (b.block _ (Array.getElem?_eq_some_iff.1 h.r).1).trans h.r, h.l.below b⟩
/-- What the operations of Own's region have yielded. -/
def OwCF (hb : Nat) (A : Option Addr) (n c : Nat) (F : Option Addr) (m d : Nat) (O L : List Int) : Nat → Value → World → Prop
  | 0, v, w => NewR 3 w (hb + 2) v
  | 1, v, _ => v = .pointer (some ⟨hb, 0, none⟩)
  | 2, v, _ => v = .slice A n c
  | 3, v, w => OwnI w (hb + 2) v O
  | 4, v, w => NewR 3 w (hb + 2) v
  | 5, v, _ => v = .pointer (some ⟨hb, 1, none⟩)
  | 6, v, _ => v = .slice F m d
  | 7, v, w => OwnI w (hb + 2) v L
  | 8, v, w => ∃ u v', v = .agg #[u, v'] ∧ OwnI w (hb + 2) u O ∧ OwnI w (hb + 2) v' L
  | _, _, _ => True
theorem owCF_below {hb : Nat} : ∀ q v w w', OwCF hb A n c F m d O L q v w → Below w.heap.size w w' → OwCF hb A n c F m d O L q v w'
  | 1, _, _, _, h, _ | 2, _, _, _, h, _ | 5, _, _, _, h, _ | 6, _, _, _, h, _ => h
  | 0, _, _, _, h, hb => NewR.below h hb
  | 4, _, _, _, h, hb => NewR.below h hb
  | 3, _, _, _, h, hb => own_below h hb
  | 7, _, _, _, h, hb => own_below h hb
  | 8, _, _, _, ⟨u, v', h1, h2, h3⟩, hb => ⟨u, v', h1, own_below h2 hb, own_below h3 hb⟩
  | _ + 9, _, _, _, _, _ => trivial
set_option maxRecDepth 100000 in
set_option maxHeartbeats 8000000 in
theorem ownC_any (w : World) (h : IsC w A n c F m d O L) :
    Calls Tryd.prog 13 #[.agg #[.slice A n c, .slice F m d]] w fun z w' => (∃ A1 c1 F1 d1, z = .returned (.agg #[.slice A1 n c1, .slice F1 m d1]) ∧ IsC w' A1 n c1 F1 m d1 O L) ∧ Below w.heap.size w w' := by
  obtain ⟨i0, hi0, hz0, hz1, hz2⟩ := info_partsC int_cell_info
  obtain rfl := h.hn
  obtain rfl := h.hm
  have l1 := h.ln
  have l2 := h.lm
  obtain ⟨w0, hw0⟩ : ∃ w0, w0 = (w.alloc (.cells #[.slice A O.length c, .slice F L.length d] 27)).alloc (.cells #[.slice none 0 0, .slice none 0 0] 27) := ⟨_, rfl⟩
  have hB0 : BxOC w A O.length c F L.length d O L w0 := by
    have x1 := heap_alloc_new w (.cells #[.slice A O.length c, .slice F L.length d] 27)
    obtain ⟨v1, hv1⟩ : ∃ v1, v1 = w.alloc (.cells #[.slice A O.length c, .slice F L.length d] 27) := ⟨_, rfl⟩
    have s1 : v1.heap.size = w.heap.size + 1 := by rw [hv1]; simp
    have hb : Below w.heap.size w w0 := by rw [hw0]; exact below_alloc2c _ _
    rw [← hv1] at x1 hw0
    have x2 := heap_alloc_new v1 (.cells #[.slice none 0 0, .slice none 0 0] 27)
    rw [← hw0, s1] at x2
    exact ⟨hb, by rw [hw0, Below.heap_alloc _ _ _ (by omega)]; exact x1, x2, h.below hb⟩
  have HB0 := Lib.hid hB0
  have HW := Lib.hid hw0
  clear hB0 hw0 h
  go_enter Tryd.func13, Tryd.ntmps13
  go_wp2_with fail
  rw [← HW.out]
  clear HW
  refine wp_region_gather2' 9 9 [3, 4, 5, 6, 7, 8, 9, 10, 11] (by kernel_rfl) (by kernel_rfl) (by intro d hd; simp at hd ⊢; omega) (fun y => BxOC w A O.length c F L.length d O L y ∧ Below w0.heap.size w0 y) (fun _ => True) (fun y z => Below y.heap.size y z) (OwCF w.heap.size A O.length c F L.length d O L)
    (fun _ _ h => h) (fun y z h hr => ⟨h.1.next hr, h.2.trans (hr.mono h.2.size)⟩) (fun _ _ h _ => trivial) (fun k v y z _ h hr => owCF_below k v y z h hr) (fun v y z h _ => trivial) ⟨HB0.out.next (Below.refl _ _).drew, (Below.refl _ _).drew⟩ trivial ?hstep ?hlast
  case hstep =>
    intro q o hq ho ρ y hI hA hd hJ
    have t1 : ρ (.tmp 1) = .pointer (some ⟨w.heap.size, 0, none⟩) := hA.tmp 1 (by decide)
    have c0 := cell_of_row y _ 0 _ _ _ hI.1.a
    have c1 := cell_of_row y _ 1 _ _ _ hI.1.a
    simp at c0 c1
    have hlt := (Array.getElem?_eq_some_iff.1 hI.1.r).1
    match q, hq with
    | 0, _ =>
      have hoo := Option.some.inj ho
      subst hoo
      exact ⟨.slice (some ⟨y.heap.size, 0, none⟩) 0 0, y.alloc (.cells #[] 3), by simp [execOp, go_sem], newR_here _ y _ (by omega), below_alloc _⟩
    | 1, _ =>
      have hoo := Option.some.inj ho
      subst hoo
      exact ⟨.pointer (some ⟨w.heap.size, 0, none⟩), y, by simp [execOp, t1, go_sem], rfl, Below.refl _ _⟩
    | 2, _ =>
      have hoo := Option.some.inj ho
      subst hoo
      have f : ρ (.tmp 4) = .pointer (some ⟨w.heap.size, 0, none⟩) := hd ⟨1, .data⟩ (by simp) (by rfl)
      exact ⟨.slice A O.length c, y, by simp [execOp, f, c0, go_sem], rfl, Below.refl _ _⟩
    | 3, _ =>
      have hoo := Option.some.inj ho
      subst hoo
      obtain ⟨g, h2, hg, hgl⟩ := hd ⟨0, .data⟩ (by simp) (by rfl)
      have h2' : ρ (.tmp 3) = _ := h2
      have h3 : ρ (.tmp 5) = .slice A O.length c := hd ⟨2, .data⟩ (by simp) (by rfl)
      obtain ⟨v', w2, hr, how, hb⟩ := fresh_append (P := Tryd.prog) y 22 22 3 i0 (.int .i64 0) 1 8 Tryd.underlying22 hi0 hz0 hz1 hz2 rfl (by omega) (w.heap.size + 2) g hg hgl (by omega) A O.length c (O.map (Value.int .i64)) (by simp) hI.1.l.hA (fun ad e => by have q := hI.1.l.on; rw [e] at q; exact q.cells) (oneCell_ints O) (by unfold maxLen; omega) (by omega)
      exact ⟨v', w2, by simp [execOp, resolve, invoke, builtin, h2', h3, hr, Result.andThen], how, hb⟩
    | 4, _ =>
      have hoo := Option.some.inj ho
      subst hoo
      exact ⟨.slice (some ⟨y.heap.size, 0, none⟩) 0 0, y.alloc (.cells #[] 3), by simp [execOp, go_sem], newR_here _ y _ (by omega), below_alloc _⟩
    | 5, _ =>
      have hoo := Option.some.inj ho
      subst hoo
      exact ⟨.pointer (some ⟨w.heap.size, 1, none⟩), y, by simp [execOp, t1, go_sem], rfl, Below.refl _ _⟩
    | 6, _ =>
      have hoo := Option.some.inj ho
      subst hoo
      have f : ρ (.tmp 8) = .pointer (some ⟨w.heap.size, 1, none⟩) := hd ⟨5, .data⟩ (by simp) (by rfl)
      exact ⟨.slice F L.length d, y, by simp [execOp, f, c1, go_sem], rfl, Below.refl _ _⟩
    | 7, _ =>
      have hoo := Option.some.inj ho
      subst hoo
      obtain ⟨g, h2, hg, hgl⟩ := hd ⟨4, .data⟩ (by simp) (by rfl)
      have h2' : ρ (.tmp 7) = _ := h2
      have h3 : ρ (.tmp 9) = .slice F L.length d := hd ⟨6, .data⟩ (by simp) (by rfl)
      obtain ⟨v', w2, hr, how, hb⟩ := fresh_append (P := Tryd.prog) y 22 22 3 i0 (.int .i64 0) 1 8 Tryd.underlying22 hi0 hz0 hz1 hz2 rfl (by omega) (w.heap.size + 2) g hg hgl (by omega) F L.length d (L.map (Value.int .i64)) (by simp) hI.1.l.hF (fun ad e => by have q := hI.1.l.left; rw [e] at q; exact q.cells) (oneCell_ints L) (by unfold maxLen; omega) (by omega)
      exact ⟨v', w2, by simp [execOp, resolve, invoke, builtin, h2', h3, hr, Result.andThen], how, hb⟩
    | 8, _ =>
      have hoo := Option.some.inj ho
      subst hoo
      have h3 : OwnI y (w.heap.size + 2) (ρ (.tmp 6)) O := hd ⟨3, .data⟩ (by simp) (by rfl)
      have h7 : OwnI y (w.heap.size + 2) (ρ (.tmp 10)) L := hd ⟨7, .data⟩ (by simp) (by rfl)
      obtain ⟨A1, a1, f3, _⟩ := h3.slice
      obtain ⟨A2, a2, f7, _⟩ := h7.slice
      rw [f3] at h3
      rw [f7] at h7
      exact ⟨.agg #[.slice A1 O.length a1, .slice A2 L.length a2], y, by simp [execOp, f3, f7, go_sem], ⟨_, _, rfl, h3, h7⟩, Below.refl _ _⟩
    | q + 9, hk => omega
  case hlast =>
    intro o ho vals y hI hF
    have hoo := Option.some.inj ho
    subst hoo
    obtain ⟨u, v', q8, h2, h3⟩ : OwCF w.heap.size A O.length c F L.length d O L 8 (vals 11) y := hF 8 (by decide)
    obtain ⟨hJ1, hJ2⟩ := hI
    obtain ⟨A1, c1, rfl, _⟩ := OwnI.slice h2
    obtain ⟨F1, d1, rfl, _⟩ := OwnI.slice h3
    refine ox_storeC (g := w.heap.size + 1) (u := .slice A1 O.length c1) (v := .slice F1 L.length d1) rfl rfl rfl q8 ⟨_, _, _, _, _, _, rfl, rfl⟩ hJ1.r ?_
    have hg := hJ1.r
    have hoth : ∀ k, k ≠ w.heap.size + 1 → ((y.setCell ⟨w.heap.size + 1, 0, none⟩ (.slice A1 O.length c1)).setCell ⟨w.heap.size + 1, 1, none⟩ (.slice F1 L.length d1)).heap[k]? = y.heap[k]? := fun k hk => by rw [heap_setCell_other _ _ _ _ hk, heap_setCell_other _ _ _ _ hk]
    have o2 := other_ownC h2 hg (by decide) hoth
    have o3 := other_ownC h3 hg (by decide) hoth
    have s3 := row_setC hg (.slice A1 O.length c1) (.slice F1 L.length d1)
    have hbe : Below w.heap.size w ((y.setCell ⟨w.heap.size + 1, 0, none⟩ (.slice A1 O.length c1)).setCell ⟨w.heap.size + 1, 1, none⟩ (.slice F1 L.length d1)) := hJ1.bel.trans (below_setC (Nat.le_succ _) _ _)
    have hM : IsC ((y.setCell ⟨w.heap.size + 1, 0, none⟩ (.slice A1 O.length c1)).setCell ⟨w.heap.size + 1, 1, none⟩ (.slice F1 L.length d1)) A1 O.length c1 F1 L.length d1 O L := own_isC o2 o3 rfl rfl l1 l2
    have HE := Lib.hid (And.intro s3 (And.intro hbe hM))
    clear hF hJ1 hJ2 h2 h3 hg s3 hbe hM o2 o3 hoth
    simp only [fillA, fillL, List.contains_cons, List.contains_nil, Nat.reduceBEq, Bool.or_false, Bool.or_true, cond_true, cond_false, Nat.zero_add, Nat.reduceAdd]
    go_wp2
    refine bodyPost_ret (v := .agg #[.slice A1 O.length c1, .slice F1 L.length d1]) ?_ rfl ⟨⟨A1, c1, F1, d1, rfl, HE.out.2.2⟩, HE.out.2.1⟩
    exact results_cell_row rfl _ _ (w.heap.size + 1) _ _ _ _ rfl HE.out.1 Tryd.underlying27 rfl (by kernel_rfl)
end

/-- Needs that are small, or one that may not be. -/
def litV : Int → List Int → Bool
  | _, [] => true
  | left, z :: r => if z < 0 then true else if left < z then false else litV (left - z) r
theorem lit_sum : ∀ {need : List Int} {left : Int}, 0 ≤ left → (∀ z ∈ need, 0 ≤ z) → litV left need = true → need.sum ≤ left
  | [], left, h, _, _ => by simpa using h
  | z :: r, left, h, hn, hl => by
    have hz := hn z List.mem_cons_self
    unfold litV at hl
    rw [if_neg (by omega)] at hl
    split at hl
    · cases hl
    · have := lit_sum (by omega) (fun y hy => hn y (List.mem_cons_of_mem _ hy)) hl
      rw [List.sum_cons]; omega
set_option maxRecDepth 100000 in
set_option maxHeartbeats 4000000 in
theorem little_any {N : Option Addr} {nn nc : Nat} {need : List Int} (w : World) (hn : need.length = nn) (hl : nn ≤ 400) (hI : Ints w w.heap.size N need) :
    Calls Tryd.prog 25 #[.slice N nn nc] w fun e w' => e = .returned (.bool (litV 300 need)) ∧ w' = w := by
  have HI := Lib.hid hI
  have HN := Lib.hid hn
  obtain ⟨r, hr⟩ : ∃ r, r = litV 300 need := ⟨_, rfl⟩
  rw [← hr]
  have HR := Lib.hid hr
  clear hI hn hr
  go_enter Tryd.func25, Tryd.ntmps25
  go_wp2
  go_loop [3, 4] (fun v i => ∃ (j : Nat) (left : Int), j ≤ nn ∧ i = .int .i64 j ∧ v = .int .i64 left ∧ 0 ≤ left ∧ left ≤ 300 ∧ Hid (r = litV left (need.drop j))) (fun _ i => nn - (intOf i).toNat)
  case atStart => exact ⟨0, 300, Nat.zero_le _, rfl, rfl, by decide, by decide, Lib.hid (by rw [HR.out]; rfl)⟩
  case round =>
    obtain ⟨j, left, hj, rfl, rfl, hl0, hl3, HO⟩ := hrel
    by_cases hlt : j < nn
    · obtain ⟨bk, off, z, rfl, hbk, hz, d1⟩ := HI.out.at_ (k := j) (by rw [HN.out]; exact hlt)
      have HZ : Hid (need.drop j = z :: need.drop (j + 1)) := Lib.hid (by
        rw [List.drop_eq_getElem_cons (by rw [HN.out]; exact hlt)]
        congr 1
        rw [List.getElem?_eq_getElem (by rw [HN.out]; exact hlt)] at hz
        exact Option.some.inj hz)
      have HS : Hid (r = if z < 0 then true else if left < z then false else litV (left - z) (need.drop (j + 1))) := Lib.hid (by rw [HO.out, HZ.out]; rfl)
      clear hz hbk HO HZ
      by_cases h0 : z < 0
      · obtain rfl : r = true := by rw [HS.out, if_pos h0]
        have h0a : decide (z < 0) = true := decide_eq_true h0
        go_wp2
        go_ret
        exact ⟨rfl, rfl⟩
      have h0a : decide (z < 0) = false := decide_eq_false h0
      by_cases h1 : left < z
      · obtain rfl : r = false := by rw [HS.out, if_neg h0, if_pos h1]
        have h1a : decide (left < z) = true := decide_eq_true h1
        go_wp2
        go_ret
        exact ⟨rfl, rfl⟩
      have h1a : decide (left < z) = false := decide_eq_false h1
      have HS2 : Hid (r = litV (left - z) (need.drop (j + 1))) := Lib.hid (by rw [HS.out, if_neg h0, if_neg h1])
      have hz0 : 0 ≤ z := by omega
      have hzl : z ≤ left := by omega
      clear h0 h1 HS
      go_wp2
      go_round
      case rel => exact ⟨j + 1, left - z, by omega, by go_num, by go_num, by omega, by omega, HS2⟩
      case measure => simp [intOf]; omega
    · obtain rfl : nn = j := by omega
      obtain rfl : r = true := by rw [HO.out, List.drop_of_length_le (by rw [HN.out]; exact Nat.le_refl _)]; rfl
      go_wp2
      go_ret
      exact ⟨rfl, rfl⟩
section
variable {A : Option Addr} {n c : Nat} {F : Option Addr} {m d : Nat} {A' : Option Addr} {n' c' : Nat} {F' : Option Addr} {m' d' : Nat}
set_option maxRecDepth 100000 in
set_option maxHeartbeats 4000000 in
theorem fewC_any (w : World) (b : Bool) (hb : b = true ↔ (n ≤ 70 ∧ m ≤ 300) ∧ n' ≤ 12 ∧ m' ≤ 70) (kn : n ≤ 9223372036854775807) (km : m ≤ 9223372036854775807) (kn' : n' ≤ 9223372036854775807) (km' : m' ≤ 9223372036854775807) :
    Calls Tryd.prog 10 #[.agg #[.slice A n c, .slice F m d], .agg #[.slice A' n' c', .slice F' m' d']] w fun e w' => e = .returned (.bool b) ∧ Below w.heap.size w w' := by
  obtain ⟨w0, hw0⟩ : ∃ w0, w0 = (w.alloc (.cells #[.slice A n c, .slice F m d] 25)).alloc (.cells #[.slice A' n' c', .slice F' m' d'] 27) := ⟨_, rfl⟩
  have hs : w0.heap.size = w.heap.size + 1 + 1 := by rw [hw0]; simp
  have HB0 : Hid (Below w.heap.size w w0) := Lib.hid (by rw [hw0]; exact below_alloc2c _ _)
  have c0 : w0.cell? ⟨w.heap.size + 1, 0, none⟩ = some (.slice A' n' c') := by rw [hw0, World.cell?_alloc_at _ _ _ _ (by simp)]; rfl
  have c1 : w0.cell? ⟨w.heap.size + 1, 1, none⟩ = some (.slice F' m' d') := by rw [hw0, World.cell?_alloc_at _ _ _ _ (by simp)]; rfl
  have HC := Lib.hid (And.intro c0 c1)
  have HW := Lib.hid hw0
  have HLT : Hid (w.heap.size + 1 < w0.heap.size) := Lib.hid (by omega)
  by_cases h1 : n ≤ 70 ∧ m ≤ 300
  · have F1 := Lib.hid (few_yes A F n c m d w0 h1.1 h1.2)
    have HBB : Hid (b = true ↔ n' ≤ 12 ∧ m' ≤ 70) := Lib.hid ⟨fun e => (hb.mp e).2, fun e => hb.mpr ⟨h1, e⟩⟩
    clear hb h1 hw0 hs c0 c1
    go_enter Tryd.func10, Tryd.ntmps10
    go_wp2_with fail
    rw [← HW.out]
    refine F1.out.mono ?_
    rintro e w1 ⟨rfl, b1⟩
    have HB1 := Lib.hid (HB0.out.trans (b1.mono HB0.out.size))
    have d0 := (b1.cell (p := ⟨w.heap.size + 1, 0, none⟩) HLT.out).trans HC.out.1
    have d1 := (b1.cell (p := ⟨w.heap.size + 1, 1, none⟩) HLT.out).trans HC.out.2
    clear b1
    by_cases h12 : n' ≤ 12
    · have h12a : decide (n' ≤ 12) = true := decide_eq_true h12
      have h12b : decide ((n' : Int) ≤ 12) = true := decide_eq_true (by omega)
      by_cases h70 : m' ≤ 70
      · obtain rfl : b = true := HBB.out.mpr ⟨h12, h70⟩
        have h70a : decide (m' ≤ 70) = true := decide_eq_true h70
        have h70b : decide ((m' : Int) ≤ 70) = true := decide_eq_true (by omega)
        go_wp2
        go_ret
        exact ⟨rfl, HB1.out⟩
      · obtain rfl : b = false := by rw [← Bool.not_eq_true, HBB.out]; exact fun q => h70 q.2
        have h70a : decide (m' ≤ 70) = false := decide_eq_false h70
        have h70b : decide ((m' : Int) ≤ 70) = false := decide_eq_false (by omega)
        go_wp2
        go_ret
        exact ⟨rfl, HB1.out⟩
    · obtain rfl : b = false := by rw [← Bool.not_eq_true, HBB.out]; exact fun q => h12 q.1
      have h12a : decide (n' ≤ 12) = false := decide_eq_false h12
      have h12b : decide ((n' : Int) ≤ 12) = false := decide_eq_false (by omega)
      go_wp2
      go_ret
      exact ⟨rfl, HB1.out⟩
  · have F1 := Lib.hid (few_no A F n c m d w0 kn km h1)
    obtain rfl : b = false := by rw [← Bool.not_eq_true, hb]; exact fun q => h1 q.1
    clear hb h1 hw0 hs c0 c1
    go_enter Tryd.func10, Tryd.ntmps10
    go_wp2_with fail
    rw [← HW.out]
    refine F1.out.mono ?_
    rintro e w1 ⟨rfl, b1⟩
    have HB1 := Lib.hid (HB0.out.trans (b1.mono HB0.out.size))
    clear b1
    go_wp2
    go_ret
    exact ⟨rfl, HB1.out⟩
end
end Go.Proofs.YtmmogdccjiagnaaDoor
set_option linter.unusedVariables false
namespace Go.Proofs.YtmmogdccjiagnaaDoor
open Go.RowKit

section
variable {W : List Int} {E : List (Int × Int)}
theorem longV_is (hM : May W E) : IsLong W E (longV W E) := by
  unfold longV
  rw [if_pos hM]
  exact long_is hM.fits hM.acyc (fun z hz => (hM.work z hz).1)
theorem totalV_is (hM : May W E) : totalV W E = W.sum := by
  unfold totalV
  rw [if_pos hM]
theorem in_of {n : Nat} (hF : Fits n E) {p : List Nat} (hp : Up E p) (h1 : ∀ b, p = [b] → b < n) : In n p := hp.lt hF h1
theorem longV_total (hM : May W E) : longV W E ≤ W.sum ∧ 0 ≤ longV W E := by
  have h := longV_is hM
  rcases h.2 with ⟨hw, h0⟩ | ⟨p, hp, hi, he⟩
  · rw [h0, hw]
    exact ⟨Int.le_refl _, Int.le_refl _⟩
  · rw [← he]
    exact ⟨wsum_le (fun z hz => (hM.work z hz).1) (hp.nodup hM.acyc) hi, wsum_pos hM.work p⟩
theorem longV_node (hM : May W E) {k : Nat} {z : Int} (hk : W[k]? = some z) : z ≤ longV W E := by
  have h := (longV_is hM).1 [k] trivial (fun x hx => by
    obtain rfl : x = k := by simpa using hx
    rcases Nat.lt_or_ge x W.length with h | h
    · exact h
    · rw [List.getElem?_eq_none h] at hk; cases hk)
  simpa [wsum, List.getD_eq_getElem?_getD, hk] using h
theorem longV_edge (hM : May W E) {x y : Nat} {a b : Int} (he : ((x : Int), (y : Int)) ∈ E) (hx : W[x]? = some a) (hy : W[y]? = some b) : a + b ≤ longV W E := by
  have hl := ed_lt hM.fits he
  have h := (longV_is hM).1 [y, x] ⟨he, trivial⟩ (fun q hq => by
    rcases (by simpa using hq : q = y ∨ q = x) with rfl | rfl
    · exact hl.2
    · exact hl.1)
  simp [wsum, List.getD_eq_getElem?_getD, hx, hy] at h
  omega
theorem longV_mono {E' : List (Int × Int)} (hM : May W E) (hM' : May W E') (h : ∀ e ∈ E, e ∈ E') : longV W E ≤ longV W E' := by
  rcases (longV_is hM).2 with ⟨hw, h0⟩ | ⟨p, hp, hi, he⟩
  · rw [h0]
    exact (longV_total hM').2
  · rw [← he]
    exact (longV_is hM').1 p (Up.mono (fun a b hab => h _ hab) hp) hi
theorem May.erase (hM : May W E) (k : Nat) : May W (E.eraseIdx k) := by
  have hs : ∀ e ∈ E.eraseIdx k, e ∈ E := fun e he => (List.eraseIdx_sublist E k).mem he
  exact ⟨hM.nodes, Nat.le_trans (List.eraseIdx_sublist E k).length_le hM.edges, hM.work, fun e he => hM.fits e (hs e he), fun e he => hM.apart e (hs e he), hM.once.sublist (List.eraseIdx_sublist E k), hM.acyc.mono fun a b h => hs _ h⟩
theorem longV_erase (hM : May W E) (k : Nat) : longV W (E.eraseIdx k) ≤ longV W E :=
  longV_mono (hM.erase k) hM fun e he => (List.eraseIdx_sublist E k).mem he
end
end Go.Proofs.YtmmogdccjiagnaaDoor
set_option linter.unusedVariables false
namespace Go.Proofs.YtmmogdccjiagnaaDoor
open Go.RowKit

def busyR (r : List Int) : Nat := r.countP (fun x => x != -1)
theorem busyR_succ {r : List Int} {k : Nat} {x : Int} (h : r[k]? = some x) : busyR (r.take (k + 1)) = busyR (r.take k) + if x = -1 then 0 else 1 := by
  unfold busyR
  rw [take_snoc' h, List.countP_append, List.countP_singleton]
  by_cases e : x = -1
  · simp [e]
  · simp [e]
theorem busyT_succ {t : List (List Int)} {k : Nat} {r : List Int} (h : t[k]? = some r) : busyT (t.take (k + 1)) = busyT (t.take k) + busyR r := by
  unfold busyT busyR
  rw [take_snoc' h, List.flatten_append, List.countP_append]
  simp
theorem busyR_le (r : List Int) : busyR r ≤ r.length := List.countP_le_length
open Classical in
/-- Graham's bound, rounded down; 0 where needs and cores may not be. -/
noncomputable def boundV (W : List Int) (E : List (Int × Int)) (need : List Int) (cores : Int) : Int := if May W E ∧ FormOk W need cores then (need.sum + (cores - 1) * longV need E) / cores else 0
theorem need_may {W : List Int} {E : List (Int × Int)} {need : List Int} {cores : Int} (hM : May W E) (hF : FormOk W need cores) : May need E :=
  ⟨by rw [hF.1]; exact hM.nodes, hM.edges, fun z hz => ⟨by have := (hF.2.1 z hz).1; omega, (hF.2.1 z hz).2⟩, by rw [hF.1]; exact hM.fits, hM.apart, hM.once, hM.acyc⟩
section
variable {A : Option Addr} {n c : Nat} {F : Option Addr} {m d : Nat} {W : List Int} {E : List (Int × Int)} {N : Option Addr} {nn nc : Nat} {need : List Int} {T : Option Addr} {tn tc : Nat} {t : List (List Int)}
set_option maxRecDepth 100000 in
set_option maxHeartbeats 4000000 in
theorem busy_any (w : World) (ht : t.length = tn) (hl : tn ≤ 400) (hr : ∀ r ∈ t, r.length ≤ 400) (hT : Trc w w.heap.size T t) :
    Calls Tryd.prog 36 #[.slice T tn tc] w fun e w' => e = .returned (.int .i64 (busyT t)) ∧ w' = w := by
  have HT := Lib.hid hT
  have HL := Lib.hid ht
  have HRL := Lib.hid hr
  obtain ⟨r, hr2⟩ : ∃ r, r = busyT t := ⟨_, rfl⟩
  rw [← hr2]
  have HR := Lib.hid hr2
  clear hT ht hr hr2
  go_enter Tryd.func36, Tryd.ntmps36
  go_wp2
  go_loop [3, 10] (fun s v => ∃ i b : Nat, i ≤ tn ∧ v = .int .i64 i ∧ s = .int .i64 b ∧ b ≤ 400 * i ∧ Hid (b = busyT (t.take i))) (fun _ v => tn - (intOf v).toNat)
  case atStart => exact ⟨0, 0, Nat.zero_le _, rfl, rfl, by omega, Lib.hid (by simp [busyT])⟩
  case round =>
    obtain ⟨i, b, hi, rfl, rfl, hb, HBI⟩ := hrel
    by_cases hlt : i < tn
    · obtain ⟨bt, ot, row, A1, n1, c1, rfl, hbt, hrow, hn1, hcell, hints, hnil⟩ := HT.out.at_ (k := i) (by rw [HL.out]; exact hlt)
      have HI1 := Lib.hid hints
      have HN1 := Lib.hid hn1
      have HTS := Lib.hid (busyT_succ hrow)
      have h400 : n1 ≤ 400 := by rw [← hn1]; exact HRL.out row (List.mem_of_getElem? hrow)
      clear hints hrow hn1 hnil
      go_wp2
      go_loop [3, 16] (fun s v => ∃ k q : Nat, k ≤ n1 ∧ v = .int .i64 k ∧ s = .int .i64 q ∧ q ≤ 400 * i + k ∧ Hid (q = b + busyR (row.take k))) (fun _ v => n1 - (intOf v).toNat)
      case atStart => exact ⟨0, b, Nat.zero_le _, rfl, rfl, by omega, Lib.hid (by simp [busyR])⟩
      case round =>
        obtain ⟨k, q, hk, rfl, rfl, hq, HQ⟩ := hrel
        by_cases hlt2 : k < n1
        · obtain ⟨bk, off, x, rfl, hbk, hxk, hcx⟩ := HI1.out.at_ (k := k) (by rw [HN1.out]; exact hlt2)
          have HRS := Lib.hid (busyR_succ hxk)
          clear hxk
          by_cases hx : x = -1
          · subst hx
            have HQ2 : Hid (q = b + busyR (row.take (k + 1))) := Lib.hid (by rw [HRS.out, if_pos rfl]; exact HQ.out)
            go_wp2
            go_round
            case rel => exact ⟨k + 1, q, by omega, by go_num, rfl, by omega, HQ2⟩
            case measure => simp [intOf]; omega
          · have HQ2 : Hid (q + 1 = b + busyR (row.take (k + 1))) := Lib.hid (by rw [HRS.out, if_neg hx]; have := HQ.out; omega)
            have hne : (x == -1) = false := by simpa using hx
            clear hx
            go_wp2
            go_round
            case rel => exact ⟨k + 1, q + 1, by omega, by go_num, by go_num, by omega, HQ2⟩
            case measure => simp [intOf]; omega
        · obtain rfl : k = n1 := by omega
          have HQ2 : Hid (q = busyT (t.take (i + 1))) := Lib.hid (by
            have h1 := HQ.out
            rw [List.take_of_length_le (by rw [HN1.out]; omega)] at h1
            rw [HTS.out, ← HBI.out]; exact h1)
          go_wp2
          go_round
          case rel => exact ⟨i + 1, q, by omega, by go_num, rfl, by omega, HQ2⟩
          case measure => simp [intOf]; omega
    · obtain rfl : i = tn := by omega
      have hrv : r = b := by rw [HR.out, HBI.out, List.take_of_length_le (by rw [HL.out]; omega)]
      subst hrv
      go_wp2
      go_ret
      exact ⟨rfl, rfl⟩
/-- A graph lies in box g. -/
structure BxB (w : World) (g : Nat) (A : Option Addr) (n c : Nat) (F : Option Addr) (m d : Nat) (x : World) : Prop where
  bel : Below w.heap.size w x
  p0 : x.cell? ⟨g, 0, none⟩ = some (.slice A n c)
  p1 : x.cell? ⟨g, 1, none⟩ = some (.slice F m d)
theorem BxB.next {w x y : World} {g : Nat} (h : BxB w g A n c F m d x) (b : Below x.heap.size x y) : BxB w g A n c F m d y :=
  ⟨h.bel.trans (b.mono h.bel.size), (b.cell (World.block_lt_of_cell? _ _ h.p0)).trans h.p0, (b.cell (World.block_lt_of_cell? _ _ h.p1)).trans h.p1⟩
theorem BxB.cells {w x : World} {g : Nat} (h : BxB w g A n c F m d x) : x.cell? ⟨g, 0, none⟩ = some (.slice A n c) ∧ x.cell? ⟨g, 1, none⟩ = some (.slice F m d) := ⟨h.p0, h.p1⟩
theorem BxB.start {w w1 : World} (h : Below w.heap.size w w1) (A : Option Addr) (n c : Nat) (F : Option Addr) (m d : Nat) : BxB w w1.heap.size A n c F m d (w1.alloc (.cells #[.slice A n c, .slice F m d] 25)) :=
  ⟨h.trans ((below_alloc _).mono h.size), by rw [World.cell?_alloc_at _ _ _ _ rfl]; rfl, by rw [World.cell?_alloc_at _ _ _ _ rfl]; rfl⟩
theorem bxB_bel {p : Prop} {w x : World} {g : Nat} (h : p ∧ Hid (BxB w g A n c F m d x)) : Below w.heap.size w x := h.2.out.bel
theorem bxB_n {p : Prop} {w x y : World} {g : Nat} (h : p ∧ Hid (BxB w g A n c F m d x)) (b : Below x.heap.size x y) : BxB w g A n c F m d y := h.2.out.next b
set_option maxRecDepth 100000 in
set_option maxHeartbeats 4000000 in
theorem bound_any (cores : Int) (w : World) (h : IsG w A n c F m d W E) (hn : need.length = nn) (hl : nn ≤ 400) (hI : Ints w w.heap.size N need) (hN : N = none → nn = 0 ∧ nc = 0) :
    Calls Tryd.prog 34 #[.agg #[.slice A n c, .slice F m d], .slice N nn nc, .int .i64 cores] w fun e w' => e = .returned (.int .i64 (boundV W E need cores)) ∧ Below w.heap.size w w' := by
  have H := Lib.hid h
  obtain ⟨w0, hw0⟩ : ∃ w0, w0 = w.alloc (.cells #[.slice A n c, .slice F m d] 25) := ⟨_, rfl⟩
  have HW0 := Lib.hid hw0
  have HB0 : Hid (Below w.heap.size w w0) := Lib.hid (by rw [hw0]; exact below_alloc _)
  have HS0 : Hid (w.heap.size < w0.heap.size) := Lib.hid (by rw [hw0]; simp)
  have P0 : Hid (w0.cell? ⟨w.heap.size, 0, none⟩ = some (.slice A n c)) := Lib.hid (by rw [hw0, World.cell?_alloc_at _ _ _ _ rfl]; rfl)
  have P1 : Hid (w0.cell? ⟨w.heap.size, 1, none⟩ = some (.slice F m d)) := Lib.hid (by rw [hw0, World.cell?_alloc_at _ _ _ _ rfl]; rfl)
  have hS : IsS w N nn nc none 0 0 need [] := ⟨hn, rfl, hl, by omega, fun r hr => by simp at hr, hI, Trc.nil_ _ _ _, hN, fun _ => ⟨rfl, rfl⟩⟩
  have HS := Lib.hid hS
  have C0 := Lib.hid (scheck_any cores _ (h.below HB0.out) (hS.below HB0.out))
  obtain ⟨r, hr⟩ : ∃ r, r = boundV W E need cores := ⟨_, rfl⟩
  rw [← hr]
  have HRR := Lib.hid hr
  clear h hS hr hw0 hn hI
  by_cases hz : schedE W E need cores [] = 0
  · rw [hz] at C0
    obtain ⟨k, rfl, hok⟩ := schedE_zero.mp hz
    have hM := need_may hok.may hok.form
    have HM := Lib.hid hM
    have hk1 : 1 ≤ k := by have := hok.form.2.2.1; omega
    have hk2 : k ≤ 8 := by have := hok.form.2.2.2; omega
    have hlo := longV_total hM
    have hsum := sum_le need hM.work
    have hnn : nn ≤ 64 := by
      have h1 := hM.nodes
      have h2 := HS.out.hn
      omega
    have HRV : Hid (r = (need.sum + ((k : Int) - 1) * longV need E) / k) := Lib.hid (by
      rw [HRR.out]
      unfold boundV
      rw [if_pos ⟨hok.may, hok.form⟩])
    have HG : Hid (∀ W', IsG w0 A n c F m d W E → W' = w0 → IsG W' N nn nc F m d need E) := Lib.hid (fun W' h e => by
      subst e
      exact ⟨HS.out.hn, h.hm, by omega, h.lm, (HS.out.ints.below HB0.out).more HB0.out.size, h.pairs, HS.out.hN, h.hF, h.tab⟩)
    have HGW : Hid (∀ W', Below w.heap.size w W' → IsG W' N nn nc F m d need E) := Lib.hid (fun W' hb => by
      have h := H.out.below hb
      exact ⟨HS.out.hn, h.hm, by omega, h.lm, (HS.out.ints.below hb).more hb.size, h.pairs, HS.out.hN, h.hF, h.tab⟩)
    have CT := Lib.hid (fun W' (h : IsG W' N nn nc F m d need E) => total_done W' h)
    have CL := Lib.hid (fun W' (h : IsG W' N nn nc F m d need E) => long_done W' h)
    have htv : totalV need E = need.sum := by unfold totalV; rw [if_pos hM]
    rw [htv] at CT
    obtain ⟨s, hs⟩ : ∃ s, s = need.sum := ⟨_, rfl⟩
    obtain ⟨L, hL⟩ : ∃ L, L = longV need E := ⟨_, rfl⟩
    rw [← hs] at CT HRV hsum hlo
    rw [← hL] at CL HRV hlo
    have hs2 : s ≤ 64000 := by
      have h2 := HS.out.hn
      omega
    obtain ⟨hl1, hl2⟩ := hlo
    clear hz hok hM hs hL htv hsum HG
    go_enter Tryd.func34, Tryd.ntmps34
    go_wp2_with fail
    rw [← HW0.out]
    refine C0.out.mono ?_
    rintro e w1 ⟨rfl, b⟩
    have HB1 := Lib.hid (HB0.out.trans (b.mono HB0.out.size))
    have q0 := (b.cell HS0.out).trans P0.out
    have q1 := (b.cell HS0.out).trans P1.out
    have HS1 := Lib.hid (Nat.lt_of_lt_of_le HS0.out b.size)
    clear b C0
    go_wp2
    have B2 := Lib.hid (BxB.start HB1.out N nn nc F m d)
    obtain ⟨g, hg⟩ : ∃ g, g = w1.heap.size := ⟨_, rfl⟩
    obtain ⟨w2, hw2⟩ : ∃ w2, w2 = w1.alloc (.cells #[.slice N nn nc, .slice F m d] 25) := ⟨_, rfl⟩
    rw [← hw2, ← hg] at B2
    rw [← hw2, ← hg]
    have B2d := Lib.hid (B2.out.next (Below.refl w2.heap.size w2).drew)
    have hk0 : (k : Int) ≠ 0 := by omega
    have hk0n : ¬ k = 0 := by omega
    have hk0b : ((k : Int) == 0) = false := by simpa using hk0n
    have hmul : 0 ≤ ((k : Int) - 1) * L := Int.mul_nonneg (by omega) hl2
    have hmul2 : ((k : Int) - 1) * L ≤ 7 * 64000 := Int.mul_le_mul (by omega) (by omega) hl2 (by omega)
    clear q0 q1 hw2 hg
    go_region_held3 (fun x => (x.cell? ⟨g, 0, none⟩ = some (.slice N nn nc) ∧ x.cell? ⟨g, 1, none⟩ = some (.slice F m d)) ∧ Hid (BxB w g N nn nc F m d x))
      (first | exact ⟨B2d.out.cells, B2d⟩ | exact ⟨HB.out.cells, HB⟩)
      (first
        | (go_at_call 48; refine (CT.out _ (HGW.out _ (bxB_bel (by assumption)))).mono ?_; rintro e x1 ⟨rfl, b⟩; have HB := Lib.hid (bxB_n (by assumption) b); clear b)
        | (go_at_call 61; refine (CL.out _ (HGW.out _ (bxB_bel (by assumption)))).mono ?_; rintro e x1 ⟨rfl, b⟩; have HB := Lib.hid (bxB_n (by assumption) b); clear b))
    go_wp2
    go_ret
    refine ⟨?_, HB.out.bel⟩
    have e1 := IntWalk.i64_in ((k : Int) - 1) (by omega)
    have e2 := IntWalk.i64_in (((k : Int) - 1) * L) (by omega)
    have e3 := IntWalk.i64_in (s + ((k : Int) - 1) * L) (by omega)
    have e4 := IntWalk.i64_quo (s + ((k : Int) - 1) * L) k ⟨by omega, by omega, by omega⟩
    rw [HRV.out]
    show Ending.returned (Value.int .i64 (IntKind.i64.wrap ((IntKind.i64.wrap (s + IntKind.i64.wrap (IntKind.i64.wrap ((k : Int) - 1) * L))).tdiv (k : Int)))) = _
    rw [e1, e2, e3, e4]
  · obtain ⟨z, hz2⟩ : ∃ z, z = schedE W E need cores [] := ⟨_, rfl⟩
    obtain rfl : r = 0 := by
      rw [HRR.out]
      unfold boundV
      rw [if_neg]
      rintro ⟨h1, h2⟩
      refine hz ?_
      obtain ⟨k, rfl⟩ : ∃ k : Nat, cores = (k : Int) := ⟨cores.toNat, by have := h2.2.2; omega⟩
      exact schedE_zero.mpr ⟨k, rfl, h1, h2, ⟨fun r hr => by simp at hr, fun i hi => by simp at hi⟩⟩
    rw [← hz2] at C0 hz
    have hne : (z == 0) = false := by simpa using hz
    clear hz hz2 HRR
    go_enter Tryd.func34, Tryd.ntmps34
    go_wp2_with fail
    rw [← HW0.out]
    refine C0.out.mono ?_
    rintro e w1 ⟨rfl, b⟩
    have HB1 := Lib.hid (HB0.out.trans (b.mono HB0.out.size))
    clear b C0
    go_wp2
    go_ret
    exact ⟨rfl, HB1.out⟩
end
end Go.Proofs.YtmmogdccjiagnaaDoor
