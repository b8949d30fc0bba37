/- The contract of trefoilref07.Same in the seat YtmelgolnmnebpaaGreatDoor.
   What the walks of layer 7 share in the seat YtmelgolnmnebpaaGreatDoor.
   The work of a lowered task's nodes, in plain words, in the seat YtmelgolnmnebpaaGreatDoor.
   No statement is proved here. -/
import Derived.Test.YtmelgolnmnebpaaGreatDoorZM23
import Derived.Test.YtmelgolnmnebpaaGreatDoorZLowAwake
import Derived.Test.YtmelgolnmnebpaaGreatDoorZM25
set_option linter.unusedSimpArgs false
set_option linter.unusedVariables false
namespace Go.Proofs.YtmelgolnmnebpaaGreatDoor
open Go.RowKit

section
variable {A : Option Addr} {n c : Nat} {F : Option Addr} {m d : Nat} {R : Option Addr} {k e : Nat} {W : List Int} {E P : List (Int × Int)} {A' : Option Addr} {n' c' : Nat} {F' : Option Addr} {m' d' : Nat} {R' : Option Addr} {k' e' : Nat} {W' : List Int} {E' P' : List (Int × Int)}
set_option maxRecDepth 100000 in
set_option maxHeartbeats 2000000 in
theorem rsameL_any (w : World) (h : IsL w A n c F m d R k e W E P) (h' : IsL w A' n' c' F' m' d' R' k' e' W' E' P') :
    Calls Tryz.prog 14 #[.agg #[.slice A n c, .slice F m d, .slice R k e], .agg #[.slice A' n' c', .slice F' m' d', .slice R' k' e']] w fun z w' => z = .returned (.bool (decide ((W = W' ∧ E = E') ∧ P = P'))) ∧ Below w.heap.size w w' := by
  have HP := Lib.hid h.pcs
  have HM := Lib.hid h.hk
  have HP' := Lib.hid h'.pcs
  have HM' := Lib.hid h'.hk
  have lk := h.lk
  have lk' := h'.lk
  have B0 := below_alloc2 (w := w) (.cells #[.slice A n c, .slice F m d, .slice R k e] 35) (.cells #[.slice A' n' c', .slice F' m' d', .slice R' k' e'] 35)
  obtain ⟨w0, hw0⟩ : ∃ w0, w0 = (w.alloc (.cells #[.slice A n c, .slice F m d, .slice R k e] 35)).alloc (.cells #[.slice A' n' c', .slice F' m' d', .slice R' k' e'] 35) := ⟨_, rfl⟩
  rw [← hw0] at B0
  have C := Lib.hid (fun W0 (hb : Below w0.heap.size w0 W0) => same_any A F A' F' n c m d n' c' m' d' W W' E E' W0 h.g.hn h.g.hm h'.g.hn h'.g.hm (by have := h.g.ln; omega) (by have := h.g.lm; omega) (by have := h'.g.ln; omega) (by have := h'.g.lm; omega)
    ((h.g.below (B0.trans (hb.mono B0.size))).ints) ((h.g.below (B0.trans (hb.mono B0.size))).pairs) ((h'.g.below (B0.trans (hb.mono B0.size))).ints) ((h'.g.below (B0.trans (hb.mono B0.size))).pairs))
  obtain ⟨r, hr⟩ : ∃ r, r = decide ((W = W' ∧ E = E') ∧ P = P') := ⟨_, rfl⟩
  obtain ⟨r1, hr1⟩ : ∃ r, r = decide (W = W' ∧ E = E') := ⟨_, rfl⟩
  rw [← hr1] at C
  rw [← hr]
  have HR := Lib.hid (And.intro hr hr1)
  have HB := Lib.hid B0
  have HW := Lib.hid hw0
  clear h h' hr hr1 B0 hw0
  by_cases h2 : k = k'
  · subst h2
    go_enter Tryz.func14, Tryz.ntmps14
    go_wp2
    go_loopw [5] (fun i wr => ∃ j N : Nat, j ≤ k ∧ i = .int .i64 j ∧ Hid (P.take j = P'.take j) ∧ wr = ((w.alloc (.cells #[.slice A n c, .slice F m d, .slice R k e] 35)).alloc (.cells #[.slice A' n' c', .slice F' m' d', .slice R' k e'] 35)).drewN N) (fun i _ => k - (intOf i).toNat)
    case atStart => exact ⟨0, 0, Nat.zero_le _, rfl, Lib.hid rfl, rfl⟩
    case round =>
      obtain ⟨j, M, hj, rfl, HU, rfl⟩ := hrel
      by_cases hlt2 : j < k
      · obtain ⟨b1, o1, ⟨x1, x2⟩, rfl, hb1, hx1, hc1, hc2⟩ := HP.out.at_ (k := j) (by rw [HM.out]; exact hlt2)
        obtain ⟨b2, o2, ⟨y1, y2⟩, rfl, hb2, hy1, hd1, hd2⟩ := HP'.out.at_ (k := j) (by rw [HM'.out]; exact hlt2)
        simp only at hc1 hc2 hd1 hd2
        have HX := Lib.hid hx1
        have HY := Lib.hid hy1
        clear hx1 hy1
        have hrun := fun W => piece_neq_run x1 x2 y1 y2 W
        by_cases hxy : (x1, x2) = (y1, y2)
        · injection hxy with h1 h2
          subst h1 h2
          have hb : (x1 == x1 && x2 == x2) = true := by simp
          simp only [hb] at hrun
          go_wp2
          go_quiet (fail)
          go_wp2
          go_roundw
          case rel => exact ⟨j + 1, _, by omega, by go_num, Lib.hid (take_next HU.out HX.out HY.out), rfl⟩
          case measure => simp [intOf]; omega
        · have hb : (x1 == y1 && x2 == y2) = false := by
            rw [Bool.and_eq_false_iff]
            by_cases h1 : x1 = y1
            · exact .inr (by simpa using fun h2 => hxy (by rw [h1, h2]))
            · exact .inl (by simpa using h1)
          simp only [hb] at hrun
          have HXY := Lib.hid hxy
          clear hxy
          go_wp2
          go_quiet (fail)
          go_wp2
          go_ret
          exact ⟨by rw [HR.out.1, decide_eq_false (fun e : (W = W' ∧ E = E') ∧ P = P' => take_part HX.out HY.out HXY.out e.2)]; rfl, below_drewN (below_drewN (below_alloc2 _ _) M) _⟩
      · obtain rfl : j = k := by omega
        have HEE := Lib.hid (take_ext (by rw [HM.out, HM'.out]) (by rw [HM.out]; exact HU.out) : P = P')
        go_wp2_with fail
        rw [← HW.out]
        refine (C.out _ (below_drewN (Below.refl _ _) _)).mono ?_
        rintro e w1 ⟨rfl, b1⟩
        have HBF := Lib.hid ((below_drewN HB.out M).trans (b1.mono (below_drewN HB.out M).size))
        have HQ : Hid (r1 = r) := Lib.hid (by rw [HR.out.1, HR.out.2]; simp [HEE.out])
        clear b1
        go_wp2
        go_ret
        exact ⟨by rw [HQ.out]; rfl, HBF.out⟩
  · have hb : ((k : Int) != (k' : Int)) = true := by simp; omega
    have HNO := Lib.hid (fun e : (W = W' ∧ E = E') ∧ P = P' => h2 (by rw [← HM.out, ← HM'.out, e.2]))
    clear h2
    go_enter Tryz.func14, Tryz.ntmps14
    go_wp2
    go_ret
    exact ⟨by rw [HR.out.1, decide_eq_false HNO.out]; rfl, below_alloc2 _ _⟩
end
end Go.Proofs.YtmelgolnmnebpaaGreatDoor
set_option linter.unusedVariables false
namespace Go.Proofs.YtmelgolnmnebpaaGreatDoor
open Go.RowKit

/-- A lowered task lies in a box, and is as it was handed out; so does the task itself, in the call's first box. -/
structure BxL (w : World) (s : Sh) (T : Task) (g : Nat) (A : Option Addr) (n c : Nat) (F : Option Addr) (m d : Nat) (R : Option Addr) (k e : Nat) (W : List Int) (E P : List (Int × Int)) (w' : World) : Prop where
  b : Bx1D w s T w'
  c0 : w'.cell? ⟨g, 0, none⟩ = some (.slice A n c)
  c1 : w'.cell? ⟨g, 1, none⟩ = some (.slice F m d)
  c2 : w'.cell? ⟨g, 2, none⟩ = some (.slice R k e)
  l : IsL w' A n c F m d R k e W E P
section
variable {w w1 w2 : World} {s : Sh} {T : Task} {g : Nat} {A : Option Addr} {n c : Nat} {F : Option Addr} {m d : Nat} {R : Option Addr} {k e : Nat} {W : List Int} {E P : List (Int × Int)}
theorem BxL.next (h : BxL w s T g A n c F m d R k e W E P w1) (hb : Below w1.heap.size w1 w2) : BxL w s T g A n c F m d R k e W E P w2 :=
  ⟨h.b.next hb, (hb.cell (World.block_lt_of_cell? _ _ h.c0)).trans h.c0, (hb.cell (World.block_lt_of_cell? _ _ h.c1)).trans h.c1, (hb.cell (World.block_lt_of_cell? _ _ h.c2)).trans h.c2, h.l.below hb⟩
theorem BxL.cells (h : BxL w s T g A n c F m d R k e W E P w1) : w1.cell? ⟨g, 0, none⟩ = some (.slice A n c) ∧ w1.cell? ⟨g, 1, none⟩ = some (.slice F m d) ∧ w1.cell? ⟨g, 2, none⟩ = some (.slice R k e) := ⟨h.c0, h.c1, h.c2⟩
theorem BxL.start (h : Bx1D w s T w1) (hl : IsL w1 A n c F m d R k e W E P) : BxL w s T w1.heap.size A n c F m d R k e W E P (w1.alloc (.cells #[.slice A n c, .slice F m d, .slice R k e] 35)) := by
  refine ⟨h.next (below_alloc _), ?_, ?_, ?_, hl.below (below_alloc _)⟩ <;> (rw [World.cell?_alloc_at _ _ _ _ rfl]; rfl)
theorem lower_sz {n m k : Nat} (hn : (lowWv T).length = n) (hm : (lowEv T).length = m) (hk : (lowPv T).length = k) (hD : IsD w s T) : Calls Tryz.prog 11 #[s.arg T.period T.deadline] w fun e w' =>
    ∃ A c F d R z, e = .returned (.tuple #[.agg #[.slice A n c, .slice F m d, .slice R k z], .int .i64 (lowX T)]) ∧ IsL w' A n c F m d R k z (lowWv T) (lowEv T) (lowPv T) ∧ Below w.heap.size w w' := by
  subst hn hm hk
  exact lower_got s T w hD
end
theorem low_no {T : Task} (h : lowX T ≠ 0) : lowWv T = [] ∧ lowEv T = [] ∧ lowPv T = [] := by
  have hN : ¬ LowOk T := fun h2 => h (lowX_zero.mpr h2)
  unfold lowWv lowEv lowPv
  rw [if_neg hN, if_neg hN, if_neg hN]
  exact ⟨rfl, rfl, rfl⟩
theorem low_yes {T : Task} (h : LowOk T) : lowWv T = lowW T ∧ lowEv T = lowE T ∧ lowPv T = lowP T := by
  unfold lowWv lowEv lowPv
  rw [if_pos h, if_pos h, if_pos h]
  exact ⟨rfl, rfl, rfl⟩
end Go.Proofs.YtmelgolnmnebpaaGreatDoor
set_option linter.unusedVariables false
namespace Go.Proofs.YtmelgolnmnebpaaGreatDoor

theorem stepW_sum : ∀ (b : Int) (l : List Int) (z : Int), (stepW b (l ++ [z])).sum = z - b
  | b, [], z => by simp [stepW]
  | b, e :: l, z => by
    rw [List.cons_append, stepW, List.sum_cons, stepW_sum e l z]
    omega
def workK (ps : List (Int × Int × Int)) (j : Nat) : Int := ((ps.take j).map fun e => e.2.2).sum
theorem workK_succ {ps : List (Int × Int × Int)} {j : Nat} {e : Int × Int × Int} (h : ps[j]? = some e) : workK ps (j + 1) = workK ps j + e.2.2 := by
  unfold workK
  rw [List.take_add_one, h, List.map_append, List.sum_append]
  simp
theorem wPs_sum (fs ps : List (Int × Int × Int)) : ∀ j, j ≤ ps.length → (wPs fs ps j).sum = workK ps j
  | 0, _ => rfl
  | j + 1, h => by
    have hj : ps[j]? = some ps[j] := List.getElem?_eq_getElem (by omega)
    rw [wPs, List.sum_append, wPs_sum fs ps j (by omega), workK_succ hj]
    unfold endsL
    rw [stepW_sum, List.getD_eq_getElem?_getD, hj]
    simp
theorem ones_sum : ∀ n : Nat, (List.replicate n (1 : Int)).sum = n
  | 0 => rfl
  | n + 1 => by rw [List.replicate_succ, List.sum_cons, ones_sum n]; omega
theorem lowW_sum (T : Task) : (lowW T).sum = workK T.parts T.parts.length + T.bars.length := by
  unfold lowW
  rw [List.sum_append, wPs_sum _ _ _ (Nat.le_refl _), ones_sum]
theorem workK_bound {ps : List (Int × Int × Int)} (hp : partsOk ps) : ∀ j, j ≤ ps.length → 0 ≤ workK ps j ∧ workK ps j ≤ 100 * j
  | 0, _ => by simp [workK]
  | j + 1, h => by
    have hj : ps[j]? = some ps[j] := List.getElem?_eq_getElem (by omega)
    have h1 := workK_bound hp j (by omega)
    have h2 : partOk ps[j] := hp _ (List.getElem_mem _)
    unfold partOk at h2
    rw [workK_succ hj]
    omega
theorem stepW_pos : ∀ (b : Int) (l : List Int), l.Pairwise (· < ·) → (∀ e ∈ l, b < e) → ∀ z ∈ stepW b l, 1 ≤ z
  | b, [], _, _, z, hz => by simp [stepW] at hz
  | b, e :: l, hp, hb, z, hz => by
    rw [stepW] at hz
    rcases List.mem_cons.mp hz with rfl | hz
    · have := hb e (by simp)
      omega
    · exact stepW_pos e l (List.pairwise_cons.mp hp).2 (fun x hx => (List.pairwise_cons.mp hp).1 x hx) z hz
theorem touK_rises7 {fs : List (Int × Int × Int)} {x : Int} (hn : (fs.map fun f => f.2).Nodup) : ∀ a, (touK fs x a).Pairwise fun i j => (futAt fs i).2.2 < (futAt fs j).2.2
  | 0 => List.Pairwise.nil
  | a + 1 => by
    show (touK fs x a ++ selF fs x (a + 1) fs.length).Pairwise _
    rw [List.pairwise_append]
    refine ⟨touK_rises7 hn a, ?_, fun i hi j hj => ?_⟩
    · have hone : ∀ i ∈ selF fs x (a + 1) fs.length, ∀ j ∈ selF fs x (a + 1) fs.length, i = j := fun i hi j hj => by
        obtain ⟨h1, h2, h3⟩ := mem_selF.mp hi
        obtain ⟨k1, k2, k3⟩ := mem_selF.mp hj
        have e : (futAt fs i).2 = (futAt fs j).2 := Prod.ext (h2.trans k2.symm) (h3.trans k3.symm)
        unfold futAt at e
        rw [List.getD_eq_getElem?_getD, List.getElem?_eq_getElem h1, List.getD_eq_getElem?_getD, List.getElem?_eq_getElem k1] at e
        have h4 : i < (fs.map fun f => f.2).length := by simpa using h1
        have h5 : j < (fs.map fun f => f.2).length := by simpa using k1
        refine (List.getElem_inj (h₀ := h4) (h₁ := h5) hn).mp ?_
        simpa using e
      have hnd := selF_nodup fs x (a + 1) fs.length
      rcases hs : selF fs x (a + 1) fs.length with _ | ⟨i, _ | ⟨j, l⟩⟩
      · exact List.Pairwise.nil
      · exact List.pairwise_singleton _ _
      · rw [hs] at hone hnd
        have := hone i (by simp) j (by simp)
        subst this
        simp at hnd
    · have h1 := (mem_touK.mp hi).2.2.2
      have h2 := (mem_selF.mp hj).2.2
      omega
theorem ends_rise {ps fs : List (Int × Int × Int)} (hp : partsOk ps) (hf : FutsOk ps fs) {x : Nat} (hx : x < ps.length) : (endsL fs ps x).Pairwise (· < ·) ∧ ∀ e ∈ endsL fs ps x, 0 < e := by
  have hpx : ps[x]? = some ps[x] := List.getElem?_eq_getElem hx
  have hw : partOk ps[x] := hp _ (List.getElem_mem _)
  unfold partOk at hw
  have hg : (ps.getD x (0, 0, 0)).2.2 = ps[x].2.2 := by rw [List.getD_eq_getElem?_getD, hpx]; rfl
  have hone : ∀ k ∈ touL fs (x : Int), 0 < (futAt fs k).2.2 ∧ (futAt fs k).2.2 < ps[x].2.2 := fun k hk => by
    obtain ⟨h1, h2, h3, _⟩ := mem_touK.mp hk
    have e : futAt fs k = fs[k] := by unfold futAt; rw [List.getD_eq_getElem?_getD, List.getElem?_eq_getElem h1]; rfl
    have hF := hf.each fs[k] (List.getElem_mem h1)
    rw [e] at h2 ⊢
    refine ⟨by have := hF.first; omega, hF.last ps[x] ?_⟩
    rw [h2]
    exact hpx
  unfold endsL
  rw [hg]
  refine ⟨?_, fun e he => ?_⟩
  · rw [List.pairwise_append]
    refine ⟨?_, List.pairwise_singleton _ _, fun a ha b hb => ?_⟩
    · rw [List.pairwise_map]
      exact touK_rises7 hf.once 99
    · obtain ⟨k, hk, rfl⟩ := List.mem_map.mp ha
      obtain rfl : b = ps[x].2.2 := by simpa using hb
      exact (hone k hk).2
  · rcases List.mem_append.mp he with he | he
    · obtain ⟨k, hk, rfl⟩ := List.mem_map.mp he
      exact (hone k hk).1
    · obtain rfl : e = ps[x].2.2 := by simpa using he
      omega
theorem wPs_pos {ps fs : List (Int × Int × Int)} (hp : partsOk ps) (hf : FutsOk ps fs) : ∀ j, j ≤ ps.length → ∀ z ∈ wPs fs ps j, 1 ≤ z
  | 0, _, z, hz => by simp [wPs] at hz
  | j + 1, h, z, hz => by
    rw [wPs] at hz
    rcases List.mem_append.mp hz with hz | hz
    · exact wPs_pos hp hf j (by omega) z hz
    · have := ends_rise hp hf (x := j) (by omega)
      exact stepW_pos 0 _ this.1 this.2 z hz
theorem lowW_pos {T : Task} (h : MayT T) : ∀ z ∈ lowW T, 1 ≤ z := by
  intro z hz
  unfold lowW at hz
  rcases List.mem_append.mp hz with hz | hz
  · exact wPs_pos h.parts h.futures _ (Nat.le_refl _) z hz
  · have := (List.mem_replicate.mp hz).2
    omega
end Go.Proofs.YtmelgolnmnebpaaGreatDoor
