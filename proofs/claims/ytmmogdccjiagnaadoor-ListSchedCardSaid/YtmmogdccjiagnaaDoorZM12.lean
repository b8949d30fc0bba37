/- The run off a list (plain): its schedule may be, is greedy, all is done in it, in the seat YtmmogdccjiagnaaDoor. No statement is proved here; it imports nothing of the program.
   Words for memory in the seat YtmmogdccjiagnaaDoor: crews; what layer 11 tells (plain).
   No statement is proved here. -/
import Derived.Test.YtmmogdccjiagnaaDoorZM11
import Derived.Test.YtmmogdccjiagnaaDoorZM5
set_option linter.unusedSimpArgs false
set_option linter.unusedVariables false
namespace Go.Proofs.YtmmogdccjiagnaaDoor

/-- The crew behind k ticks; what runs in tick k; the first k rows. -/
def crewK (n : Nat) (E : List (Int × Int)) (O L : List Int) : Nat → List Int × List Int
  | 0 => (O, L)
  | k + 1 => (onT (fillC n E (crewK n E O L k).2 (crewK n E O L k).1) (crewK n E O L k).2, leftT (fillC n E (crewK n E O L k).2 (crewK n E O L k).1) (crewK n E O L k).2)
def rowK (n : Nat) (E : List (Int × Int)) (O L : List Int) (k : Nat) : List Int := fillC n E (crewK n E O L k).2 (crewK n E O L k).1
def runR (n : Nat) (E : List (Int × Int)) (O L : List Int) (k : Nat) : List (List Int) := (List.range k).map (rowK n E O L)
/-- How many ticks it takes till nothing is left. -/
def lenR (n : Nat) (E : List (Int × Int)) (O L : List Int) : Nat := ((List.range (L.sum.toNat + 1)).find? fun k => decide ((crewK n E O L k).2.sum ≤ 0)).getD 0

section
variable {n : Nat} {E : List (Int × Int)} {O L : List Int}
theorem runR_len (k : Nat) : (runR n E O L k).length = k := by simp [runR]
theorem runR_succ (k : Nat) : runR n E O L (k + 1) = runR n E O L k ++ [rowK n E O L k] := by unfold runR; rw [List.range_succ, List.map_append]; rfl
theorem runR_take (k : Nat) : (runR n E O L (k + 1)).take k = runR n E O L k := by
  rw [runR_succ, List.take_append_of_le_length (by rw [runR_len]; exact Nat.le_refl _), List.take_of_length_le (by rw [runR_len]; exact Nat.le_refl _)]
theorem runR_row (k : Nat) : rowT (runR n E O L (k + 1)) k = rowK n E O L k := by
  rw [runR_succ]
  refine rowT_at ?_
  rw [List.getElem?_append_right (by rw [runR_len]; exact Nat.le_refl _), runR_len, Nat.sub_self]
  rfl
theorem idx_once {l : List Int} {x : Int} (h : l.count x ≤ 1) {c j : Nat} (hc : l[c]? = some x) (hj : l[j]? = some x) : c = j := by
  have part : ∀ a b : Nat, a < b → l[a]? = some x → l[b]? = some x → False := by
    intro a b hab ha hb
    have h1 : l = l.take b ++ l.drop b := (List.take_append_drop b l).symm
    have h2 : x ∈ l.take b := by
      rw [List.mem_iff_getElem?]
      exact ⟨a, by rw [List.getElem?_take, if_pos hab]; exact ha⟩
    have h3 : x ∈ l.drop b := by
      rw [List.mem_iff_getElem?]
      exact ⟨0, by rw [List.getElem?_drop]; exact hb⟩
    have h4 := List.count_pos_iff.mpr h2
    have h5 := List.count_pos_iff.mpr h3
    have h6 : l.count x = (l.take b).count x + (l.drop b).count x := by rw [← List.count_append, List.take_append_drop]
    omega
  rcases Nat.lt_trichotomy c j with h1 | h1 | h1
  · exact (part c j h1 hc hj).elim
  · exact h1
  · exact (part j c h1 hj hc).elim
theorem getD_idx {l : List Int} {c : Nat} {x d : Int} (hc : c < l.length) (h : l.getD c d = x) : l[c]? = some x := by
  rw [List.getD_eq_getElem?_getD, List.getElem?_eq_getElem hc] at h
  rw [List.getElem?_eq_getElem hc]
  exact congrArg some h
theorem getD_any {l : List Int} {c : Nat} (hc : c < l.length) (d d' : Int) : l.getD c d = l.getD c d' := by
  rw [List.getD_eq_getElem?_getD, List.getD_eq_getElem?_getD, List.getElem?_eq_getElem hc]; rfl
/-- Nothing is left that isn't at work: somebody runs. -/
theorem CrewOk.someone (h : CrewOk n E O L) (hF : Fits n E) (hA : Acyc E) {m : Nat} (hm : m < n) (hl : 0 < leftC L (m : Int)) : ∃ x ∈ fillC n E L O, x ≠ -1 := by
  apply Classical.byContradiction
  intro hno
  have hall : ∀ x ∈ fillC n E L O, x = -1 := fun x hx => Classical.byContradiction fun q => hno ⟨x, hx, q⟩
  have hlen := fillC_len n E L O
  have hlo := h.lo
  have hin : (-1 : Int) ∈ fillC n E L O := by
    have h0 : 0 < (fillC n E L O).length := by omega
    have h1 := List.getElem_mem h0
    rwa [hall _ h1] at h1
  have hr : readyU n E (fillC n E L O) L = [] := by
    rcases fillC_full (n := n) (E := E) (L := L) (O := O) with h1 | h1
    · exact h1
    · exact absurd hin h1
  obtain ⟨v, ⟨hv, hvl⟩, hva⟩ := source hF hA (fun x => x < n ∧ 0 < leftC L (x : Int)) m ⟨hm, hl⟩
  have : v ∈ readyU n E (fillC n E L O) L := by
    refine mem_readyU.mpr ⟨hv, hvl, fun hx => by have := hall _ hx; omega, fun e he e2 hp => ?_⟩
    obtain ⟨h1, h2, _, _⟩ := hF e he
    obtain ⟨a, ha⟩ : ∃ a : Nat, e.1 = a := ⟨e.1.toNat, by omega⟩
    have h3 : ed E a v := by
      show ((a : Int), (v : Int)) ∈ E
      rw [← ha, ← e2]; exact he
    rw [ha] at hp
    exact hva a h3 ⟨by omega, hp⟩
  rw [hr] at this
  exact absurd this (by simp)
theorem sum_range_le {f g : Nat → Int} : ∀ k, (∀ x, x < k → g x ≤ f x) → ((List.range k).map g).sum ≤ ((List.range k).map f).sum
  | 0, _ => Int.le_refl _
  | k + 1, h => by
    have ih := sum_range_le k fun x hx => h x (by omega)
    have h1 := h k (by omega)
    rw [List.range_succ, List.map_append, List.map_append, List.sum_append, List.sum_append]
    simp only [List.map_cons, List.map_nil, List.sum_cons, List.sum_nil]
    omega
theorem sum_range_lt {f g : Nat → Int} : ∀ k, (∀ x, x < k → g x ≤ f x) → (∃ x, x < k ∧ g x < f x) → ((List.range k).map g).sum < ((List.range k).map f).sum
  | 0, _, h => by obtain ⟨x, hx, _⟩ := h; omega
  | k + 1, h, hx => by
    have h1 := h k (by omega)
    have ih := sum_range_le k fun x hx => h x (by omega)
    obtain ⟨x, hxk, hlt⟩ := hx
    rw [List.range_succ, List.map_append, List.map_append, List.sum_append, List.sum_append]
    simp only [List.map_cons, List.map_nil, List.sum_cons, List.sum_nil]
    rcases Nat.lt_or_ge x k with h2 | h2
    · have := sum_range_lt k (fun x hx => h x (by omega)) ⟨x, h2, hlt⟩
      omega
    · obtain rfl : x = k := by omega
      omega
theorem list_range (L : List Int) : L = (List.range L.length).map fun (x : Nat) => leftC L (x : Int) := by
  refine List.ext_getElem? fun i => ?_
  rw [List.getElem?_map]
  rcases Nat.lt_or_ge i L.length with h | h
  · rw [List.getElem?_range h, List.getElem?_eq_getElem h]
    show _ = some (leftC L (i : Int))
    rw [leftC_nat, List.getD_eq_getElem?_getD, List.getElem?_eq_getElem h]; rfl
  · rw [List.getElem?_eq_none h, List.getElem?_eq_none (by simpa using h)]; rfl
theorem CrewOk.less (h : CrewOk n E O L) (hF : Fits n E) {x : Int} (hx : x ∈ O) (h1 : x ≠ -1) : (leftT O L).sum < L.sum := by
  have e : L.sum = ((List.range L.length).map fun (x : Nat) => leftC L (x : Int)).sum := by rw [← list_range L]
  rw [e]
  show ((List.range L.length).map fun (x : Nat) => leftC L (x : Int) - if (x : Int) ∈ O then 1 else 0).sum < _
  refine sum_range_lt _ (fun y _ => ?_) ?_
  · show leftC L (y : Int) - (if (y : Int) ∈ O then 1 else 0) ≤ leftC L (y : Int)
    split <;> omega
  · rcases h.on x hx with h2 | ⟨⟨h2, h3⟩, _⟩
    · exact absurd h2 h1
    · obtain ⟨m, rfl⟩ : ∃ m : Nat, x = m := ⟨x.toNat, by omega⟩
      refine ⟨m, by have := h.ln; omega, ?_⟩
      show leftC L (m : Int) - (if (m : Int) ∈ O then 1 else 0) < leftC L (m : Int)
      rw [if_pos hx]; omega
theorem sum_pos_some : ∀ {l : List Int}, 0 < l.sum → ∃ m, m < l.length ∧ 0 < leftC l (m : Int)
  | [], h => by simp at h
  | a :: l, h => by
    rw [List.sum_cons] at h
    by_cases ha : 0 < a
    · exact ⟨0, by simp, by rw [leftC_nat]; exact ha⟩
    · obtain ⟨m, h1, h2⟩ := sum_pos_some (l := l) (by omega)
      refine ⟨m + 1, by simpa using h1, ?_⟩
      rw [leftC_nat] at h2 ⊢
      simpa using h2
theorem sum_nonneg' : ∀ {l : List Int}, (∀ z ∈ l, 0 ≤ z) → 0 ≤ l.sum
  | [], _ => by simp
  | a :: l, h => by
    have := sum_nonneg' (l := l) fun z hz => h z (List.mem_cons_of_mem _ hz)
    have := h a List.mem_cons_self
    rw [List.sum_cons]; omega
theorem sum_zero_all : ∀ {l : List Int}, (∀ z ∈ l, 0 ≤ z) → l.sum ≤ 0 → ∀ z ∈ l, z = 0
  | [], _, _, z, hz => by simp at hz
  | a :: l, h, hs, z, hz => by
    have h1 := sum_nonneg' (l := l) fun z hz => h z (List.mem_cons_of_mem _ hz)
    have h2 := h a List.mem_cons_self
    rw [List.sum_cons] at hs
    rcases List.mem_cons.mp hz with rfl | hz
    · omega
    · exact sum_zero_all (fun z hz => h z (List.mem_cons_of_mem _ hz)) (by omega) z hz

/-! The run from an idle crew -/
/-- What holds behind k ticks. -/
structure RunInv (n : Nat) (E : List (Int × Int)) (need : List Int) (cores k : Nat) : Prop where
  ok : CrewOk n E (crewK n E (List.replicate cores (-1)) need k).1 (crewK n E (List.replicate cores (-1)) need k).2
  len : (crewK n E (List.replicate cores (-1)) need k).1.length = cores
  left : ∀ x : Nat, x < n → leftC (crewK n E (List.replicate cores (-1)) need k).2 (x : Int) = needT need (x : Int) - ranT (runR n E (List.replicate cores (-1)) need k) (x : Int) k
  last : ∀ c, c < cores → ∀ y, (crewK n E (List.replicate cores (-1)) need k).1.getD c 0 = y → y ≠ -1 → 0 < k ∧ numT (runR n E (List.replicate cores (-1)) need k) (k - 1) c = y
  began : ∀ x : Nat, x < n → 0 < ranT (runR n E (List.replicate cores (-1)) need k) (x : Int) k → 0 < leftC (crewK n E (List.replicate cores (-1)) need k).2 (x : Int) → (x : Int) ∈ (crewK n E (List.replicate cores (-1)) need k).1
  good : Good E need cores (runR n E (List.replicate cores (-1)) need k)
  greedy : GreedyT E need (runR n E (List.replicate cores (-1)) need k)
theorem new_ok {need : List Int} {cores : Nat} (hn : ∀ z ∈ need, 1 ≤ z ∧ z ≤ 1000) (h1 : 1 ≤ cores) (h8 : cores ≤ 8) (hl : need.length = n) : CrewOk n E (List.replicate cores (-1)) need := by
  refine ⟨by simpa using h1, by simpa using h8, hl, fun z hz => by have := hn z hz; omega, fun x hx h0 => ?_, fun x hx => .inl (List.eq_of_mem_replicate hx), fun x hx => ?_⟩
  · have := hn _ (leftC_mem (L := need) (x := x) (by omega))
    omega
  · rw [List.count_eq_zero.mpr fun h => hx (List.eq_of_mem_replicate h)]
    omega
theorem RunInv.start {need : List Int} {cores : Nat} (hn : ∀ z ∈ need, 1 ≤ z ∧ z ≤ 1000) (h1 : 1 ≤ cores) (h8 : cores ≤ 8) (hl : need.length = n) : RunInv n E need cores 0 := by
  refine ⟨new_ok hn h1 h8 hl, by simp [crewK], fun x hx => ?_, fun c hc y hy h => ?_, fun x hx h => ?_, ⟨fun r hr => by simp [runR] at hr, fun i hi => by simp [runR] at hi⟩, fun i hi => by simp [runR] at hi⟩
  · rw [ranT_zero]
    show leftC need (x : Int) = needT need (x : Int) - ((0 : Nat) : Int)
    unfold leftC needT
    omega
  · exfalso
    apply h
    rw [← hy]
    show (List.replicate cores (-1 : Int)).getD c 0 = -1
    rw [List.getD_eq_getElem?_getD, List.getElem?_replicate, if_pos hc]; rfl
  · rw [ranT_zero] at h; omega
theorem RunInv.next {need : List Int} {cores k : Nat} (hF : Fits n E) (hn : ∀ z ∈ need, 1 ≤ z ∧ z ≤ 1000) (hl : need.length = n) (h : RunInv n E need cores k) : RunInv n E need cores (k + 1) := by
  obtain ⟨ok, len, left, last, began, good, greedy⟩ := h
  obtain ⟨Ok, hO⟩ : ∃ z, z = (crewK n E (List.replicate cores (-1)) need k).1 := ⟨_, rfl⟩
  obtain ⟨Lk, hL⟩ : ∃ z, z = (crewK n E (List.replicate cores (-1)) need k).2 := ⟨_, rfl⟩
  obtain ⟨t, ht⟩ : ∃ z, z = runR n E (List.replicate cores (-1)) need k := ⟨_, rfl⟩
  obtain ⟨t', ht'⟩ : ∃ z, z = runR n E (List.replicate cores (-1)) need (k + 1) := ⟨_, rfl⟩
  obtain ⟨R, hR⟩ : ∃ z, z = rowK n E (List.replicate cores (-1)) need k := ⟨_, rfl⟩
  have hR2 : R = fillC n E Lk Ok := by rw [hR, hL, hO]; rfl
  have hs1 : (crewK n E (List.replicate cores (-1)) need (k + 1)).1 = onT R Lk := by rw [hR2, hL, hO]; rfl
  have hs2 : (crewK n E (List.replicate cores (-1)) need (k + 1)).2 = leftT R Lk := by rw [hR2, hL, hO]; rfl
  have hk : t.length = k := by rw [ht]; exact runR_len k
  have hk' : t'.length = k + 1 := by rw [ht']; exact runR_len (k + 1)
  have htk : t'.take k = t := by rw [ht', ht]; exact runR_take k
  have hrow : rowT t' k = R := by rw [ht', hR]; exact runR_row k
  have hran : ∀ (x : Int) (i : Nat), i ≤ k → ranT t' x i = ranT t x i := fun x i hi => by rw [← htk, ranT_take t' x k i hi]
  have hrows : ∀ i, i < k → rowT t' i = rowT t i := fun i hi => by rw [← htk, rowT_take t' k i hi]
  have hnum : ∀ i c, i < k → numT t' i c = numT t i c := fun i c hi => by unfold numT; rw [hrows i hi]
  rw [← hO, ← hL] at ok
  rw [← hO] at len last
  rw [← ht] at last began left good greedy
  rw [← hL] at left
  simp only [← hL, ← hO] at began
  have okR : CrewOk n E R Lk := by rw [hR2]; exact ok.fill
  have hlen : R.length = cores := by rw [hR2, fillC_len]; exact len
  have hstep : ∀ x : Int, ranT t' x (k + 1) = ranT t x k + R.count x := fun x => by rw [ranT_step, hrow, hran x k (Nat.le_refl _)]
  have hcount : ∀ x : Nat, (R.count (x : Int) : Int) = if (x : Int) ∈ R then 1 else 0 := fun x => by
    split
    · next hm =>
      have h1 := okR.once (x : Int) (by omega)
      have h2 := List.count_pos_iff.mpr hm
      omega
    · next hm => rw [List.count_eq_zero.mpr hm]; rfl
  have hover : ∀ x : Int, OverC E Lk x → FreeT E need t' x k := fun x ho e he e2 => by
    obtain ⟨h1, h2, _, _⟩ := hF e he
    obtain ⟨m, hm⟩ : ∃ m : Nat, e.1 = m := ⟨e.1.toNat, by omega⟩
    have h3 := ho e he e2
    rw [hm] at h3 ⊢
    rw [left m (by omega)] at h3
    rw [hran _ k (Nat.le_refl _)]
    omega
  have hfree : ∀ x : Int, FreeT E need t' x k → OverC E Lk x := fun x ho e he e2 hp => by
    obtain ⟨h1, h2, _, _⟩ := hF e he
    obtain ⟨m, hm⟩ : ∃ m : Nat, e.1 = m := ⟨e.1.toNat, by omega⟩
    have h3 := ho e he e2
    rw [hm] at h3 hp
    rw [left m (by omega)] at hp
    rw [hran _ k (Nat.le_refl _)] at h3
    omega
  have hgood : Good E need cores t' := by
    refine ⟨fun r hr => ?_, fun i hi c hc => ?_⟩
    · rw [ht', runR_succ, List.mem_append] at hr
      rcases hr with hr | hr
      · exact good.rows r (by rw [ht]; exact hr)
      · rw [List.mem_singleton] at hr
        rw [hr, ← hR]; exact hlen
    · rcases Nat.lt_or_ge i k with hik | hik
      · have h1 := good.one i (by omega) c hc
        rw [← htk, oneV_take k i c hik] at h1
        exact h1
      · obtain rfl : i = k := by omega
        have hc' : c < R.length := by omega
        obtain ⟨x, hx⟩ : ∃ x, x = numT t' i c := ⟨_, rfl⟩
        have hxR : R.getD c (-1) = x := by rw [hx]; unfold numT; rw [hrow]
        unfold oneV
        rw [← hx]
        by_cases h1 : x = -1
        · rw [if_pos h1]
        have hidx := getD_idx hc' hxR
        have hmem : x ∈ R := List.mem_of_getElem? hidx
        obtain ⟨⟨h2, h3⟩, h4, h5⟩ := (okR.on x hmem).resolve_left h1
        obtain ⟨m, rfl⟩ : ∃ m : Nat, x = m := ⟨x.toNat, by omega⟩
        have hpos := okR.pos h2 h3
        have hlf := left m (by omega)
        have hr := hran (m : Int) i (Nat.le_refl _)
        rw [if_neg h1, if_neg (by omega), if_neg, if_neg (by omega), if_neg, if_neg]
        · rintro ⟨_, h7⟩
          exact h7 (hover _ h5)
        · rintro ⟨h6, h7⟩
          rw [hr] at h6
          have h8 := began m (by omega) h6 (by omega)
          obtain ⟨j, hj, he⟩ := List.getElem_of_mem h8
          have h9 : Ok.getD j 0 = (m : Int) := by rw [List.getD_eq_getElem?_getD, List.getElem?_eq_getElem hj]; exact he
          have h10 := fillK_keep (n := n) (E := E) (L := Lk) (O := Ok) (j := j) (by omega) Ok.length
          have h11 : R.getD j 0 = (m : Int) := by rw [hR2]; unfold fillC; rw [h10, h9]
          have h12 := idx_once (okR.once (m : Int) h1) hidx (getD_idx (by omega) h11)
          subst h12
          obtain ⟨h13, h14⟩ := last c (by omega) _ h9 h1
          exact h7 (by rw [hnum _ _ (by omega)]; exact h14)
        · intro h6
          rw [hrow] at h6
          obtain ⟨j, hj, he⟩ := List.getElem_of_mem h6
          rw [List.length_take] at hj
          have h7 : R[j]? = some (m : Int) := by
            rw [List.getElem?_eq_getElem (by omega)]
            rw [List.getElem_take] at he
            exact congrArg some he
          have := idx_once (okR.once (m : Int) h1) hidx h7
          omega
  refine ⟨?_, ?_, fun x hx => ?_, fun c hc y hy h1 => ?_, fun x hx h1 h2 => ?_, by rw [← ht']; exact hgood, ?_⟩
  · rw [hs1, hs2]; exact okR.tick hF
  · rw [hs1, onT_len]; exact hlen
  · rw [hs2, ← ht', leftT_at (by rw [ok.ln]; exact hx), hstep, left x hx]
    have := hcount x
    omega
  · rw [hs1, onT_at (by omega)] at hy
    split at hy
    · exact absurd hy.symm h1
    · refine ⟨by omega, ?_⟩
      rw [← ht', show k + 1 - 1 = k by omega]
      unfold numT
      rw [hrow, getD_any (by omega : c < R.length) (-1) 0]
      exact hy
  · rw [← ht', hstep] at h1
    rw [hs2, leftT_at (by rw [ok.ln]; exact hx)] at h2
    rw [hs1]
    by_cases hxR : (x : Int) ∈ R
    · rw [if_pos hxR] at h2
      exact (mem_onT (by omega)).mpr ⟨hxR, by omega⟩
    · rw [if_neg hxR] at h2
      rw [List.count_eq_zero.mpr hxR] at h1
      have h3 := began x hx (by omega) (by omega)
      exfalso
      apply hxR
      rw [hR2]
      exact mem_keep (by omega) h3
  · rw [← ht']
    intro i hi hidle x hx h0 hnx hfr
    rcases Nat.lt_or_ge i k with hik | hik
    · refine greedy i (by omega) ?_ x hx ?_ ?_ ?_
      · rw [← hrows i hik]; exact hidle
      · rw [← hran _ i (by omega)]; exact h0
      · rw [← hrows i hik]; exact hnx
      · intro e he e2
        have := hfr e he e2
        rw [hran _ i (by omega)] at this
        exact this
    · obtain rfl : i = k := by omega
      rw [hrow] at hidle hnx
      rw [hran _ i (Nat.le_refl _)] at h0
      have hr : readyU n E R Lk = [] := by
        rw [hR2]
        rcases fillC_full (n := n) (E := E) (L := Lk) (O := Ok) with h1 | h1
        · exact h1
        · exact absurd hidle (by rw [hR2]; exact h1)
      have hlx := left x (by omega)
      have hnd : 1 ≤ needT need (x : Int) := needT_pos (fun z hz => (hn z hz).1) (by omega) (by omega)
      have : x ∈ readyU n E R Lk := mem_readyU.mpr ⟨by omega, by omega, hnx, hfree _ hfr⟩
      rw [hr] at this
      exact absurd this (by simp)
theorem RunInv.all {need : List Int} {cores : Nat} (hF : Fits n E) (hn : ∀ z ∈ need, 1 ≤ z ∧ z ≤ 1000) (h1 : 1 ≤ cores) (h8 : cores ≤ 8) (hl : need.length = n) : ∀ k, RunInv n E need cores k
  | 0 => RunInv.start hn h1 h8 hl
  | k + 1 => (RunInv.all hF hn h1 h8 hl k).next hF hn hl
theorem RunInv.less {need : List Int} {cores k : Nat} (hF : Fits n E) (hA : Acyc E) (h : RunInv n E need cores k) (hp : 0 < (crewK n E (List.replicate cores (-1)) need k).2.sum) :
    (∃ x ∈ rowK n E (List.replicate cores (-1)) need k, x ≠ -1) ∧ (crewK n E (List.replicate cores (-1)) need (k + 1)).2.sum < (crewK n E (List.replicate cores (-1)) need k).2.sum := by
  obtain ⟨m, hm, hl⟩ := sum_pos_some hp
  obtain ⟨x, hx, h1⟩ := h.ok.someone hF hA (by rw [h.ok.ln] at hm; exact hm) hl
  exact ⟨⟨x, hx, h1⟩, h.ok.fill.less hF hx h1⟩
theorem least_nat {p : Nat → Prop} [DecidablePred p] : ∀ k, p k → ∃ j, j ≤ k ∧ p j ∧ ∀ i, i < j → ¬ p i
  | 0, h => ⟨0, Nat.le_refl _, h, fun i hi => by omega⟩
  | k + 1, h => by
    by_cases h1 : ∃ j, j ≤ k ∧ p j
    · obtain ⟨j, h2, h3⟩ := h1
      obtain ⟨i, h4, h5, h6⟩ := least_nat j h3
      exact ⟨i, by omega, h5, h6⟩
    · exact ⟨k + 1, Nat.le_refl _, h, fun i hi q => h1 ⟨i, by omega, q⟩⟩
/-- When it ends. -/
theorem lenR_spec {need : List Int} {cores : Nat} (hF : Fits n E) (hA : Acyc E) (hn : ∀ z ∈ need, 1 ≤ z ∧ z ≤ 1000) (h1 : 1 ≤ cores) (h8 : cores ≤ 8) (hl : need.length = n) :
    (crewK n E (List.replicate cores (-1)) need (lenR n E (List.replicate cores (-1)) need)).2.sum ≤ 0 ∧ (∀ j, j < lenR n E (List.replicate cores (-1)) need → 0 < (crewK n E (List.replicate cores (-1)) need j).2.sum) ∧ (lenR n E (List.replicate cores (-1)) need : Int) ≤ need.sum := by
  have inv := RunInv.all hF hn h1 h8 hl
  have h0 : 0 ≤ need.sum := sum_nonneg' fun z hz => by have := hn z hz; omega
  have key : ∀ k : Nat, (∀ j, j < k → 0 < (crewK n E (List.replicate cores (-1)) need j).2.sum) → (crewK n E (List.replicate cores (-1)) need k).2.sum ≤ need.sum - k := by
    intro k
    induction k with
    | zero => intro _; show need.sum ≤ need.sum - ((0 : Nat) : Int); omega
    | succ k ih =>
      intro h
      have h2 := ih fun j hj => h j (by omega)
      have h3 := ((inv k).less hF hA (h k (by omega))).2
      omega
  have hex : ∃ k, k ≤ need.sum.toNat ∧ (crewK n E (List.replicate cores (-1)) need k).2.sum ≤ 0 := by
    by_cases h2 : ∃ k, k ≤ need.sum.toNat ∧ (crewK n E (List.replicate cores (-1)) need k).2.sum ≤ 0
    · exact h2
    · have h3 := key need.sum.toNat fun j hj => Classical.byContradiction fun q => h2 ⟨j, by omega, by omega⟩
      exact absurd ⟨need.sum.toNat, Nat.le_refl _, by omega⟩ h2
  obtain ⟨k, hk, hs⟩ := hex
  obtain ⟨j, hj, hs2, hmin⟩ := least_nat (p := fun k => (crewK n E (List.replicate cores (-1)) need k).2.sum ≤ 0) k hs
  have he : lenR n E (List.replicate cores (-1)) need = j := by
    unfold lenR
    rw [find_least (k := j) (by simpa using hs2) (by omega) (fun i hi => by have := hmin i hi; simpa using this)]
    rfl
  rw [he]
  exact ⟨hs2, fun i hi => by have := hmin i hi; omega, by omega⟩
/-- The whole run: what follows of it. -/
structure RunOk (n : Nat) (E : List (Int × Int)) (need : List Int) (cores : Nat) (t : List (List Int)) : Prop where
  good : Good E need cores t
  greedy : GreedyT E need t
  done : ∀ x : Nat, x < n → 0 ≤ endV need t (x : Int)
  within : ∀ x : Nat, x < n → endV need t (x : Int) ≤ t.length
  last : 0 < t.length → ∃ x : Nat, x < n ∧ endV need t (x : Int) = t.length
  len : (t.length : Int) ≤ need.sum
theorem run_ok {need : List Int} {cores : Nat} (hF : Fits n E) (hA : Acyc E) (hn : ∀ z ∈ need, 1 ≤ z ∧ z ≤ 1000) (h1 : 1 ≤ cores) (h8 : cores ≤ 8) (hl : need.length = n) :
    RunOk n E need cores (runR n E (List.replicate cores (-1)) need (lenR n E (List.replicate cores (-1)) need)) := by
  obtain ⟨hs, hp, hle⟩ := lenR_spec hF hA hn h1 h8 hl
  obtain ⟨K, hK⟩ : ∃ z, z = lenR n E (List.replicate cores (-1)) need := ⟨_, rfl⟩
  rw [← hK] at hs hp hle ⊢
  have inv := RunInv.all hF hn h1 h8 hl K
  have hlen : (runR n E (List.replicate cores (-1)) need K).length = K := runR_len K
  have hall : ∀ x : Nat, x < n → needT need (x : Int) ≤ ranT (runR n E (List.replicate cores (-1)) need K) (x : Int) K := fun x hx => by
    have h2 := sum_zero_all (fun z hz => (inv.ok.left z hz).1) hs _ (leftC_mem (x := x) (by rw [inv.ok.ln]; exact hx))
    have h3 := inv.left x hx
    omega
  have hend : ∀ x : Nat, x < n → 0 ≤ endV need (runR n E (List.replicate cores (-1)) need K) (x : Int) ∧ endV need (runR n E (List.replicate cores (-1)) need K) (x : Int) ≤ K := fun x hx => endV_lt (hall x hx)
  refine ⟨inv.good, inv.greedy, fun x hx => (hend x hx).1, fun x hx => by rw [hlen]; exact (hend x hx).2, fun h0 => ?_, by rw [hlen]; exact hle⟩
  rw [hlen] at h0 ⊢
  obtain ⟨K', rfl⟩ : ∃ k, K = k + 1 := ⟨K - 1, by omega⟩
  obtain ⟨⟨y, hy, hy1⟩, _⟩ := (RunInv.all hF hn h1 h8 hl K').less hF hA (hp K' (by omega))
  have hrow : y ∈ rowT (runR n E (List.replicate cores (-1)) need (K' + 1)) K' := by rw [runR_row]; exact hy
  have hin := (inv.good.mem (by omega) hrow).resolve_left hy1
  obtain ⟨m, rfl⟩ : ∃ m : Nat, y = m := ⟨y.toNat, by omega⟩
  obtain ⟨c, hc, he⟩ := mem_num hrow
  have h2 := (inv.good.at_ (by omega) (by rw [inv.good.len (by omega)] at hc; exact hc) (m : Int) he hy1).2.2.1
  have hm : m < n := by omega
  have h3 := le_endV h2 (hend m hm).1
  have h4 := (hend m hm).2
  exact ⟨m, hm, by omega⟩
theorem RunOk.busy {need : List Int} {cores : Nat} {t : List (List Int)} (h : RunOk n E need cores t) (hn : ∀ z ∈ need, 1 ≤ z ∧ z ≤ 1000) (hl : need.length = n) : (busyT t : Int) = need.sum :=
  (h.good.busy fun z hz => (hn z hz).1).2.1.mpr fun x hx => h.done x (by omega)
theorem RunOk.alone {need : List Int} {t : List (List Int)} (h : RunOk n E need 1 t) (hn : ∀ z ∈ need, 1 ≤ z ∧ z ≤ 1000) (hl : need.length = n) : (t.length : Int) = need.sum := by
  have h1 := h.busy hn hl
  have h2 := (h.good.busy fun z hz => (hn z hz).1).2.2
  have h3 := h.len
  omega
/-- By the bound. -/
theorem RunOk.bound {need : List Int} {cores : Nat} {t : List (List Int)} (h : RunOk n E need cores t) (hF : Fits n E) (hn : ∀ z ∈ need, 1 ≤ z ∧ z ≤ 1000) (h1 : 1 ≤ cores) (hl : need.length = n) (M : Int) (hM : IsLong need E M) (h0 : 0 ≤ need.sum + ((cores : Int) - 1) * M) :
    (t.length : Int) ≤ (need.sum + ((cores : Int) - 1) * M) / cores := by
  rcases Nat.eq_zero_or_pos t.length with h2 | h2
  · rw [h2]
    exact Int.ediv_nonneg h0 (by omega)
  · obtain ⟨x, hx, he⟩ := h.last h2
    have h3 := graham h.good h.greedy (by rw [hl]; exact hF) (fun z hz => (hn z hz).1) (fun m hm => h.done m (by omega)) h1 M hM x (by omega)
    rw [he] at h3
    exact (Int.le_ediv_iff_mul_le (by omega)).mpr (by rw [Int.mul_comm]; exact h3)
end
end Go.Proofs.YtmmogdccjiagnaaDoor
set_option linter.unusedVariables false
namespace Go.Proofs.YtmmogdccjiagnaaDoor
open Go.RowKit

/-- A crew, as it is handed over: two slices that read as what is on, and what is left. -/
structure IsC (w : World) (A : Option Addr) (n c : Nat) (F : Option Addr) (m d : Nat) (O L : List Int) : Prop where
  hn : O.length = n
  hm : L.length = m
  ln : n ≤ 400
  lm : m ≤ 400
  on : Ints w w.heap.size A O
  left : Ints w w.heap.size F L
  hA : A = none → n = 0 ∧ c = 0
  hF : F = none → m = 0 ∧ d = 0
  cA : n ≤ c
theorem IsC.below {w w' : World} {A : Option Addr} {n c : Nat} {F : Option Addr} {m d : Nat} {O L : List Int} (h : IsC w A n c F m d O L) (hb : Below w.heap.size w w') : IsC w' A n c F m d O L :=
  ⟨h.hn, h.hm, h.ln, h.lm, (h.on.below hb).more hb.size, (h.left.below hb).more hb.size, h.hA, h.hF, h.cA⟩
theorem noC (w : World) : IsC w none 0 0 none 0 0 [] [] := ⟨rfl, rfl, by decide, by decide, Ints.nil_ _ _ _, Ints.nil_ _ _ _, fun _ => ⟨rfl, rfl⟩, fun _ => ⟨rfl, rfl⟩, Nat.le_refl _⟩
/-- A crew that is handed out. -/
def GCq (O L : List Int) (v : Value) (w : World) : Prop := ∃ A n c F m d, v = .agg #[.slice A n c, .slice F m d] ∧ IsC w A n c F m d O L
theorem GCq.below {O L : List Int} {v : Value} {w w' : World} (h : GCq O L v w) (hb : Below w.heap.size w w') : GCq O L v w' := by
  obtain ⟨A, n, c, F, m, d, h1, h2⟩ := h
  exact ⟨A, n, c, F, m, d, h1, h2.below hb⟩
theorem IsC.gc {w : World} {A : Option Addr} {n c : Nat} {F : Option Addr} {m d : Nat} {O L : List Int} (h : IsC w A n c F m d O L) : GCq O L (.agg #[.slice A n c, .slice F m d]) w := ⟨A, n, c, F, m, d, rfl, h⟩
/-- The boxes of a function over a graph and a crew. -/
structure BxDC (w0 : World) (A : Option Addr) (n c : Nat) (F : Option Addr) (m d : Nat) (W : List Int) (E : List (Int × Int)) (A' : Option Addr) (n' c' : Nat) (F' : Option Addr) (m' d' : Nat) (O L : List Int) (w : World) : Prop where
  bel : Below w0.heap.size w0 w
  lt : w0.heap.size + 1 < w.heap.size
  d0 : w.cell? ⟨w0.heap.size, 0, none⟩ = some (.slice A n c)
  d1 : w.cell? ⟨w0.heap.size, 1, none⟩ = some (.slice F m d)
  c0 : w.cell? ⟨w0.heap.size + 1, 0, none⟩ = some (.slice A' n' c')
  c1 : w.cell? ⟨w0.heap.size + 1, 1, none⟩ = some (.slice F' m' d')
  g0 : IsG w0 A n c F m d W E
  k0 : IsC w0 A' n' c' F' m' d' O L
section
variable {A : Option Addr} {n c : Nat} {F : Option Addr} {m d : Nat} {W : List Int} {E : List (Int × Int)} {A' : Option Addr} {n' c' : Nat} {F' : Option Addr} {m' d' : Nat} {O L : List Int}
theorem BxDC.g {w0 w : World} (h : BxDC w0 A n c F m d W E A' n' c' F' m' d' O L w) : IsG w A n c F m d W E := h.g0.below h.bel
theorem BxDC.k {w0 w : World} (h : BxDC w0 A n c F m d W E A' n' c' F' m' d' O L w) : IsC w A' n' c' F' m' d' O L := h.k0.below h.bel
theorem BxDC.later {w0 w w' : World} (h : BxDC w0 A n c F m d W E A' n' c' F' m' d' O L w) (hb : Below (w0.heap.size + 1 + 1) w w') : BxDC w0 A n c F m d W E A' n' c' F' m' d' O L w' :=
  ⟨h.bel.trans (hb.mono (by omega)), Nat.lt_of_lt_of_le h.lt hb.size, (hb.cell (by show w0.heap.size < w0.heap.size + 1 + 1; omega)).trans h.d0, (hb.cell (by show w0.heap.size < w0.heap.size + 1 + 1; omega)).trans h.d1, (hb.cell (by show w0.heap.size + 1 < w0.heap.size + 1 + 1; omega)).trans h.c0, (hb.cell (by show w0.heap.size + 1 < w0.heap.size + 1 + 1; omega)).trans h.c1, h.g0, h.k0⟩
theorem BxDC.next {w0 w w' : World} (h : BxDC w0 A n c F m d W E A' n' c' F' m' d' O L w) (hb : Below w.heap.size w w') : BxDC w0 A n c F m d W E A' n' c' F' m' d' O L w' := h.later (hb.mono h.lt)
theorem BxDC.start {w : World} (hg : IsG w A n c F m d W E) (hk : IsC w A' n' c' F' m' d' O L) : BxDC w A n c F m d W E A' n' c' F' m' d' O L ((w.alloc (.cells #[.slice A n c, .slice F m d] 25)).alloc (.cells #[.slice A' n' c', .slice F' m' d'] 27)) := by
  obtain ⟨w0, hw0⟩ : ∃ w0, w0 = w.alloc (.cells #[.slice A n c, .slice F m d] 25) := ⟨_, rfl⟩
  have hs : w0.heap.size = w.heap.size + 1 := by rw [hw0]; simp
  have hb0 : Below w.heap.size w w0 := by rw [hw0]; exact below_alloc _
  rw [← hw0]
  have hb : Below w.heap.size w (w0.alloc (.cells #[.slice A' n' c', .slice F' m' d'] 27)) := hb0.trans ((below_alloc (w := w0) _).mono (by omega))
  have e0 : ∀ j, (w0.alloc (.cells #[.slice A' n' c', .slice F' m' d'] 27)).cell? ⟨w.heap.size, j, none⟩ = w0.cell? ⟨w.heap.size, j, none⟩ := fun j => World.cell?_alloc_lt _ _ _ (by show w.heap.size < w0.heap.size; omega)
  refine ⟨hb, by simp [hs], ?_, ?_, ?_, ?_, hg, hk⟩
  · rw [e0, hw0, World.cell?_alloc_at _ _ _ _ rfl]; rfl
  · rw [e0, hw0, World.cell?_alloc_at _ _ _ _ rfl]; rfl
  · rw [World.cell?_alloc_at _ _ _ _ hs.symm]; rfl
  · rw [World.cell?_alloc_at _ _ _ _ hs.symm]; rfl
end
theorem over_iff {n : Nat} {E : List (Int × Int)} {L : List Int} (hF : Fits n E) (x : Int) : (∀ a ∈ predsL n E x, ¬ 0 < leftC L a) ↔ OverC E L x := by
  constructor
  · rintro h ⟨a, b⟩ he rfl hp
    obtain ⟨h1, h2, _, _⟩ := hF _ he
    refine h a ?_ hp
    unfold predsL
    rw [List.mem_filter, decide_eq_true_iff]
    exact ⟨List.mem_map.mpr ⟨a.toNat, by rw [List.mem_range]; simp at h2 h1; omega, by simp at h1; simp [Int.ofNat_eq_natCast]; omega⟩, he⟩
  · intro h a ha hp
    unfold predsL at ha
    rw [List.mem_filter, decide_eq_true_iff] at ha
    exact h _ ha.2 rfl hp
theorem predsL_in {n : Nat} {E : List (Int × Int)} {x a : Int} (h : a ∈ predsL n E x) : ∃ q : Nat, a = q ∧ q < n := by
  unfold predsL at h
  rw [List.mem_filter] at h
  obtain ⟨q, hq, rfl⟩ := List.mem_map.mp h.1
  rw [List.mem_range] at hq
  exact ⟨q, rfl, hq⟩
open Classical in
noncomputable def crewE (W : List Int) (E : List (Int × Int)) (O L : List Int) : Int := if chkE W E = 0 then (if CrewOk W.length E O L then 0 else 110) else chkE W E
theorem crewE_zero {W : List Int} {E : List (Int × Int)} {O L : List Int} : crewE W E O L = 0 ↔ May W E ∧ CrewOk W.length E O L := by
  unfold crewE
  by_cases h : chkE W E = 0
  · rw [if_pos h]
    by_cases h2 : CrewOk W.length E O L
    · rw [if_pos h2]; exact ⟨fun _ => ⟨chkE_zero.mp h, h2⟩, fun _ => rfl⟩
    · rw [if_neg h2]; exact ⟨fun e => absurd e (by decide), fun e => absurd e.2 h2⟩
  · rw [if_neg h]; exact ⟨fun e => absurd e h, fun e => absurd (chkE_zero.mpr e.1) h⟩
theorem crewE_bad {W : List Int} {E : List (Int × Int)} {O L : List Int} (h : chkE W E ≠ 0) : crewE W E O L = chkE W E := if_neg h
theorem crewE_form {W : List Int} {E : List (Int × Int)} {O L : List Int} (h : chkE W E = 0) (h2 : ¬ CrewOk W.length E O L) : crewE W E O L = 110 := by unfold crewE; rw [if_pos h, if_neg h2]
/-- The form of a crew, as it is looked through. -/
theorem crewOk_iff {n : Nat} {E : List (Int × Int)} {O L : List Int} : CrewOk n E O L ↔ (1 ≤ O.length ∧ O.length ≤ 8 ∧ L.length = n) ∧ (∀ j : Nat, j < L.length → 0 ≤ leftC L (j : Int) ∧ leftC L (j : Int) ≤ 1000) ∧ (∀ j : Nat, j < L.length → leftC L (j : Int) = 0 → OverC E L (j : Int)) ∧
    (∀ (j : Nat) (x : Int), O[j]? = some x → x = -1 ∨ ((0 ≤ x ∧ x < n) ∧ leftC L x ≠ 0 ∧ OverC E L x ∧ x ∉ O.take j)) := by
  constructor
  · intro h
    refine ⟨⟨h.lo, h.hi, h.ln⟩, fun j hj => h.left _ (leftC_mem hj), fun j hj h0 => h.done j (by rw [← h.ln]; exact hj) h0, fun j x hx => ?_⟩
    rcases h.on x (List.mem_of_getElem? hx) with h1 | ⟨h1, h2, h3⟩
    · exact .inl h1
    · refine .inr ⟨h1, h2, h3, fun hm => ?_⟩
      obtain ⟨i, hi, he⟩ := List.getElem_of_mem hm
      rw [List.length_take] at hi
      rw [List.getElem_take] at he
      have h4 : O[i]? = some x := by rw [List.getElem?_eq_getElem (by omega)]; exact congrArg some he
      have := idx_once (h.once x (by omega)) hx h4
      omega
  · rintro ⟨⟨h1, h2, h3⟩, h4, h5, h6⟩
    refine ⟨h1, h2, h3, fun z hz => ?_, fun x hx h0 => h5 x (by omega) h0, fun x hx => ?_, fun x hx => ?_⟩
    · obtain ⟨j, hj, he⟩ := List.getElem_of_mem hz
      have := h4 j hj
      rw [leftC_nat, List.getD_eq_getElem?_getD, List.getElem?_eq_getElem hj] at this
      simp only [Option.getD_some] at this
      omega
    · obtain ⟨j, hj, he⟩ := List.getElem_of_mem hx
      rcases h6 j x (by rw [List.getElem?_eq_getElem hj]; exact congrArg some he) with h7 | ⟨h7, h8, h9, _⟩
      · exact .inl h7
      · exact .inr ⟨h7, h8, h9⟩
    · have key : ∀ k, k ≤ O.length → (O.take k).count x ≤ 1 := by
        intro k
        induction k with
        | zero => intro _; simp
        | succ k ih =>
          intro hk
          rw [count_take_succ (by omega)]
          by_cases hy : O.getD k (-1) = x
          · rw [if_pos hy]
            rcases h6 k x (getD_idx (by omega) hy) with h7 | ⟨_, _, _, h7⟩
            · exact absurd h7 hx
            · rw [List.count_eq_zero.mpr h7]; omega
          · rw [if_neg hy]; exact ih (by omega)
      have := key O.length (Nat.le_refl _)
      rwa [List.take_length] at this
end Go.Proofs.YtmmogdccjiagnaaDoor
