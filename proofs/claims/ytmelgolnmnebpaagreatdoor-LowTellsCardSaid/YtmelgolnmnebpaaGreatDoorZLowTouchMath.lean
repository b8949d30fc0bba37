/- What lies ahead of a part's step, and what waits for a future, in plain words, in the seat YtmelgolnmnebpaaGreatDoor. No statement is proved here. -/
import Derived.Test.YtmelgolnmnebpaaGreatDoorZLowWays
import Derived.Test.YtmelgolnmnebpaaGreatDoorZM24
set_option linter.unusedSimpArgs false
set_option linter.unusedVariables false
namespace Go.Proofs.YtmelgolnmnebpaaGreatDoor

/-- So much of a part's work lies ahead of the i-th node. -/
def aheadK (W : List Int) (P : List (Int × Int)) (u : Int) : Nat → Int
  | 0 => 0
  | i + 1 => aheadK W P u i + if (P.getD i (0, 0)).1 = u then W.getD i 0 else 0
theorem stepW_pre : ∀ (b : Int) (l : List Int) (j : Nat) (e : Int), l[j]? = some e → ((stepW b l).take (j + 1)).sum = e - b
  | b, [], j, e, h => by simp at h
  | b, x :: l, 0, e, h => by
    obtain rfl : x = e := by simpa using h
    simp [stepW]
  | b, x :: l, j + 1, e, h => by
    have ih := stepW_pre x l j e (by simpa using h)
    rw [stepW, List.take_succ_cons, List.sum_cons, ih]
    omega
theorem wPs_split (fs ps : List (Int × Int × Int)) (x : Nat) : ∀ d, ∃ t, wPs fs ps (x + d) = wPs fs ps x ++ t
  | 0 => ⟨[], by simp⟩
  | d + 1 => by
    obtain ⟨t, h⟩ := wPs_split fs ps x d
    exact ⟨t ++ stepW 0 (endsL fs ps (x + d)), by rw [← Nat.add_assoc, wPs, h, List.append_assoc]⟩
theorem lowW_split {T : Task} {x : Nat} (hx : x < T.parts.length) : ∃ t, lowW T = wPs T.futures T.parts x ++ (stepW 0 (endsL T.futures T.parts x) ++ t) := by
  obtain ⟨t, h1⟩ := wPs_split T.futures T.parts (x + 1) (T.parts.length - (x + 1))
  rw [show x + 1 + (T.parts.length - (x + 1)) = T.parts.length by omega, wPs] at h1
  refine ⟨t ++ List.replicate T.bars.length 1, ?_⟩
  unfold lowW
  rw [h1]
  simp only [List.append_assoc]
theorem piece_low {T : Task} {x i : Nat} (hx : x < T.parts.length) (hi : i < firN T.futures x) : ((lowP T).getD i (0, 0)).1 ≠ (x : Int) := by
  obtain ⟨t, h, _⟩ := lowP_split hx
  have hl := pPs_len T.futures x
  rw [h, List.getD_eq_getElem?_getD, List.getElem?_append_left (by omega)]
  have hq : (pPs T.futures x)[i]? = some (pPs T.futures x)[i] := List.getElem?_eq_getElem (by omega)
  rw [hq]
  have := pPs_below T.futures x _ (List.getElem_mem (by omega : i < (pPs T.futures x).length))
  show (pPs T.futures x)[i].1 ≠ (x : Int)
  omega
theorem piece_mid {T : Task} {x j : Nat} (hx : x < T.parts.length) (hj : j < nst T.futures x) : (lowP T).getD (firN T.futures x + j) (0, 0) = ((x : Int), (j : Int)) := by
  obtain ⟨t, h, _⟩ := lowP_split hx
  have hl := pPs_len T.futures x
  rw [h, List.getD_eq_getElem?_getD, List.getElem?_append_right (by omega), hl, Nat.add_sub_cancel_left, List.getElem?_append_left (by rw [stepP_len]; omega)]
  unfold stepP
  rw [List.getElem?_map, List.getElem?_range hj]
  rfl
theorem piece_high {T : Task} {x i : Nat} (hx : x < T.parts.length) (hi : firN T.futures x + nst T.futures x ≤ i) (hn : i < (lowP T).length) : ((lowP T).getD i (0, 0)).1 ≠ (x : Int) := by
  obtain ⟨t, h, ht⟩ := lowP_split hx
  have hl := pPs_len T.futures x
  have hs := stepP_len x (nst T.futures x)
  obtain ⟨p, hq⟩ : ∃ p, (lowP T)[i]? = some p := ⟨_, List.getElem?_eq_getElem hn⟩
  rw [List.getD_eq_getElem?_getD, hq]
  have hq2 := hq
  rw [h, List.getElem?_append_right (by omega), hl, List.getElem?_append_right (by omega), hs] at hq2
  exact ht _ (List.mem_of_getElem? hq2)
theorem work_mid {T : Task} {x j : Nat} (hx : x < T.parts.length) (hj : j < nst T.futures x) : (lowW T)[firN T.futures x + j]? = (stepW 0 (endsL T.futures T.parts x))[j]? := by
  obtain ⟨t, h⟩ := lowW_split hx
  have hl := wPs_len T.futures T.parts x
  rw [h, List.getElem?_append_right (by omega), hl, Nat.add_sub_cancel_left, List.getElem?_append_left (by rw [stepW_len, endsL_len]; omega)]
theorem ahead_low {T : Task} {x : Nat} (hx : x < T.parts.length) : ∀ i, i ≤ firN T.futures x → aheadK (lowW T) (lowP T) (x : Int) i = 0
  | 0, _ => rfl
  | i + 1, h => by
    rw [aheadK, ahead_low hx i (by omega), if_neg (piece_low hx (by omega))]
    rfl
theorem ahead_mid {T : Task} {x : Nat} (hx : x < T.parts.length) : ∀ j, j ≤ nst T.futures x → aheadK (lowW T) (lowP T) (x : Int) (firN T.futures x + j) = ((stepW 0 (endsL T.futures T.parts x)).take j).sum
  | 0, _ => by simpa using ahead_low hx _ (Nat.le_refl _)
  | j + 1, h => by
    rw [← Nat.add_assoc, aheadK, ahead_mid hx j (by omega), piece_mid hx (by omega), if_pos rfl, List.getD_eq_getElem?_getD, work_mid hx (by omega)]
    have hq : (stepW 0 (endsL T.futures T.parts x))[j]? = some (stepW 0 (endsL T.futures T.parts x))[j]! := by
      rw [List.getElem!_eq_getElem?_getD, List.getElem?_eq_getElem (by rw [stepW_len, endsL_len]; omega)]
      rfl
    rw [List.take_add_one, hq, List.sum_append]
    simp
theorem ahead_high {T : Task} {x : Nat} (hx : x < T.parts.length) : ∀ d, firN T.futures x + nst T.futures x + d ≤ (lowP T).length → aheadK (lowW T) (lowP T) (x : Int) (firN T.futures x + nst T.futures x + d) = (T.parts.getD x (0, 0, 0)).2.2
  | 0, _ => by
    rw [Nat.add_zero, ahead_mid hx _ (Nat.le_refl _), List.take_of_length_le (by rw [stepW_len, endsL_len]; exact Nat.le_refl _)]
    unfold endsL
    rw [stepW_sum]
    omega
  | d + 1, h => by
    rw [← Nat.add_assoc, aheadK, ahead_high hx d (by omega), if_neg (piece_high hx (by omega) (by omega))]
    omega
theorem ahead_all {T : Task} {x : Nat} (hx : x < T.parts.length) : aheadK (lowW T) (lowP T) (x : Int) (lowP T).length = (T.parts.getD x (0, 0, 0)).2.2 := by
  obtain ⟨t, h, _⟩ := lowP_split hx
  have hlen : (lowP T).length = firN T.futures x + nst T.futures x + t.length := by rw [h, List.length_append, List.length_append, pPs_len, stepP_len]; omega
  rw [hlen]
  exact ahead_high hx _ (by omega)
theorem ahead_bound {W : List Int} (hW : WorkOk W) (P : List (Int × Int)) (u : Int) : ∀ i, 0 ≤ aheadK W P u i ∧ aheadK W P u i ≤ 1000 * i
  | 0 => by simp [aheadK]
  | i + 1 => by
    have ih := ahead_bound hW P u i
    rw [aheadK]
    have hz : 0 ≤ W.getD i 0 ∧ W.getD i 0 ≤ 1000 := by
      by_cases h : i < W.length
      · rw [List.getD_eq_getElem?_getD, List.getElem?_eq_getElem h]
        exact hW _ (List.getElem_mem h)
      · rw [List.getD_eq_getElem?_getD, List.getElem?_eq_none (by omega)]
        decide
    split <;> omega
/-! Ways along a part -/
theorem ePs_mem {fs : List (Int × Int × Int)} {x : Nat} {e : Int × Int} (he : e ∈ chainE (firN fs x) (nst fs x)) : ∀ n, x < n → e ∈ ePs fs n
  | 0, h => by omega
  | n + 1, h => by
    rw [ePs]
    by_cases hk : x = n
    · subst hk
      exact List.mem_append.mpr (.inr he)
    · exact List.mem_append.mpr (.inl (ePs_mem he n (by omega)))
theorem chain_ed {T : Task} {x i : Nat} (hx : x < T.parts.length) (hi : i + 1 < nst T.futures x) : ed (lowE T) (firN T.futures x + i) (firN T.futures x + i + 1) := by
  unfold ed lowE
  refine List.mem_append.mpr (.inl (List.mem_append.mpr (.inl (List.mem_append.mpr (.inl (ePs_mem (x := x) ?_ _ hx))))))
  unfold chainE
  exact List.mem_map.mpr ⟨i, List.mem_range.mpr (by omega), rfl⟩
theorem chain_way {T : Task} {x i : Nat} (hx : x < T.parts.length) : ∀ d, i + d + 1 < nst T.futures x → Way (lowE T) (firN T.futures x + i) (firN T.futures x + (i + d + 1))
  | 0, h => .one (chain_ed hx h)
  | d + 1, h => .more (chain_way hx d (by omega)) (by
      have := chain_ed (T := T) (i := i + d + 1) hx (by omega)
      exact this)
/-- From a step on to the step itself or a later one. -/
theorem on_way {T : Task} {x i j a : Nat} (hx : x < T.parts.length) (hij : i ≤ j) (hj : j < nst T.futures x) (h : Way (lowE T) a (firN T.futures x + i)) : Way (lowE T) a (firN T.futures x + j) := by
  rcases Nat.lt_or_ge i j with hlt | hge
  · have := chain_way (T := T) (i := i) hx (j - i - 1) (by omega)
    rw [show i + (j - i - 1) + 1 = j by omega] at this
    exact h.trans this
  · rw [show j = i by omega]
    exact h
theorem fut_ed {T : Task} {a : Nat} (ha : a < T.futures.length) : ed (lowE T) (lasN T.futures (futAt T.futures a).1.toNat) (begN T.futures a) := by
  unfold ed lowE
  exact List.mem_append.mpr (.inl (List.mem_append.mpr (.inr (List.mem_map.mpr ⟨a, List.mem_range.mpr ha, rfl⟩))))
theorem touL_rises7 {fs : List (Int × Int × Int)} {x : Int} (hn : (fs.map fun f => f.2).Nodup) : (touL fs x).Pairwise fun i j => (futAt fs i).2.2 < (futAt fs j).2.2 := by
  unfold touL
  exact touK_rises7 hn 99
theorem nst_eq (fs : List (Int × Int × Int)) (x : Nat) : nst fs x = (touL fs (x : Int)).length + 1 := by unfold nst; rfl
theorem beg_eq {fs : List (Int × Int × Int)} {a mN uN : Nat} {A : Int} (hf : futAt fs a = ((mN : Int), (uN : Int), A)) : begN fs a = firN fs uN + ((touL fs (uN : Int)).idxOf a + 1) := by
  unfold begN
  rw [hf]
  show firN fs ((uN : Int)).toNat + (touL fs (uN : Int)).idxOf a + 1 = _
  rw [Int.toNat_natCast, Nat.add_assoc]
theorem fut_at {T : Task} (hM : MayT T) {a mN uN : Nat} {A : Int} (ha : a < T.futures.length) (hf : futAt T.futures a = ((mN : Int), (uN : Int), A)) :
    ∃ q, ∃ hq : q < (touL T.futures (uN : Int)).length, (touL T.futures (uN : Int))[q] = a ∧ ed (lowE T) (lasN T.futures mN) (firN T.futures uN + (q + 1)) := by
  have hmem : a ∈ touL T.futures (uN : Int) := by
    have := fut_mem hM.parts hM.futures ha
    rwa [hf] at this
  have hed := fut_ed ha
  rw [beg_eq hf, hf] at hed
  exact ⟨_, List.idxOf_lt_length_iff.mpr hmem, List.getElem_idxOf _, by simpa only [Int.toNat_natCast] using hed⟩
theorem ends_at7 {T : Task} {uN j : Nat} (hj : j < (touL T.futures (uN : Int)).length) : (endsL T.futures T.parts uN)[j]? = some (futAt T.futures ((touL T.futures (uN : Int))[j])).2.2 := by
  unfold endsL
  rw [List.getElem?_append_left (by rw [List.length_map]; omega), List.getElem?_map, List.getElem?_eq_getElem hj]
  rfl
theorem fut_parts {T : Task} (hM : MayT T) {a mN uN : Nat} {A : Int} (ha : a < T.futures.length) (hf : futAt T.futures a = ((mN : Int), (uN : Int), A)) : mN < T.parts.length ∧ uN < T.parts.length ∧ 1 ≤ A := by
  have hfm := hM.futures.each (futAt T.futures a) (futAt_mem ha)
  rw [hf] at hfm
  have h1 := hfm.user.2
  have h2 := hfm.maker.2
  have h3 := hfm.first
  simp only at h1 h2 h3
  omega
/-- What is asked of a future: its user's steps behind the touch wait for the maker's last one. -/
theorem touch_way {T : Task} (hM : MayT T) {a i mN uN : Nat} {A : Int} (ha : a < T.futures.length) (hf : futAt T.futures a = ((mN : Int), (uN : Int), A)) (hi : i < (lowP T).length) (hp : ((lowP T).getD i (0, 0)).1 = (uN : Int)) (hA : A ≤ aheadK (lowW T) (lowP T) (uN : Int) i) : Way (lowE T) (lasN T.futures mN) i := by
  obtain ⟨hm, hu, hA1⟩ := fut_parts hM ha hf
  have h1 : firN T.futures uN ≤ i := Nat.le_of_not_lt fun h => piece_low hu h hp
  have h2 : i < firN T.futures uN + nst T.futures uN := Nat.lt_of_not_le fun h => piece_high hu h hi hp
  obtain ⟨j, rfl⟩ : ∃ j, i = firN T.futures uN + j := ⟨i - firN T.futures uN, by omega⟩
  rw [ahead_mid hu j (by omega)] at hA
  obtain ⟨q, hq, hqe, hed⟩ := fut_at hM ha hf
  have hn := nst_eq T.futures uN
  cases j with
  | zero =>
    simp at hA
    omega
  | succ j =>
    have hj : j < (touL T.futures (uN : Int)).length := by omega
    rw [stepW_pre 0 _ j _ (ends_at7 hj)] at hA
    have hqj : q ≤ j := by
      rcases Nat.lt_or_ge j q with hlt | hge
      · have hr := List.pairwise_iff_getElem.mp (touL_rises7 (x := (uN : Int)) hM.futures.once) j q hj hq hlt
        rw [hqe, hf] at hr
        simp only at hr
        omega
      · exact hge
    exact on_way hu (by omega) (by omega) (.one hed)
theorem touch_whole {T : Task} (hM : MayT T) {a mN uN : Nat} {A : Int} (ha : a < T.futures.length) (hf : futAt T.futures a = ((mN : Int), (uN : Int), A)) : Way (lowE T) (firN T.futures mN) (lasN T.futures uN) := by
  obtain ⟨hm, hu, hA1⟩ := fut_parts hM ha hf
  obtain ⟨q, hq, hqe, hed⟩ := fut_at hM ha hf
  have hn := nst_eq T.futures uN
  have hnm := nst_pos T.futures mN
  have hlu : lasN T.futures uN = firN T.futures uN + (nst T.futures uN - 1) := by unfold lasN; omega
  have hlm : lasN T.futures mN = firN T.futures mN + (nst T.futures mN - 1) := by unfold lasN; omega
  rw [hlu]
  refine on_way hu (i := q + 1) (by omega) (by omega) ?_
  rw [hlm] at hed
  rcases Nat.lt_or_ge 1 (nst T.futures mN) with h | h
  · have hw := chain_way (T := T) (i := 0) hm (nst T.futures mN - 2) (by omega)
    rw [show 0 + (nst T.futures mN - 2) + 1 = nst T.futures mN - 1 by omega, Nat.add_zero] at hw
    exact .more hw hed
  · rw [show nst T.futures mN - 1 = 0 by omega, Nat.add_zero] at hed
    exact .one hed
end Go.Proofs.YtmelgolnmnebpaaGreatDoor
