/- Of a task that may be lowered: its shape may be (plain mathematics), in the seat YtfahabphncmbfaaGreatDoor.
   Where a part's steps stand, and what waits for what, in plain words, in the seat YtfahabphncmbfaaGreatDoor.
   What lies ahead of a part's step, and what waits for a future, in plain words, in the seat YtfahabphncmbfaaGreatDoor.
   An edge more of a task, lowered, in plain words, in the seat YtfahabphncmbfaaGreatDoor.
   No statement is proved here. -/
import Derived.Test.YtfahabphncmbfaaGreatDoorZM22
import Derived.Test.YtfahabphncmbfaaGreatDoorZM20
set_option linter.unusedSimpArgs false
set_option linter.unusedVariables false
namespace Go.Proofs.YtfahabphncmbfaaGreatDoor
open Go Go.RowKit

theorem maxL_mem : ∀ {l : List Int}, l ≠ [] → maxL l ∈ l ∧ ∀ x ∈ l, x ≤ maxL l := by
  intro l hl
  match l, hl with
  | a :: l, _ =>
    show l.foldl max a ∈ a :: l ∧ ∀ x ∈ a :: l, x ≤ l.foldl max a
    obtain ⟨h1, h2, h3⟩ := foldl_max l a
    refine ⟨?_, fun x hx => ?_⟩
    · rcases h3 with h | h
      · rw [h]; simp
      · exact List.mem_cons_of_mem _ h
    · rcases List.mem_cons.mp hx with rfl | hx
      · exact h1
      · exact h2 x hx
theorem shape_ok {T : Task} (h : LowOk T) : (shapeT T).Ok := by
  have hs : shapeT T = ⟨totalV (lowWv T) (lowEv T), longV (lowWv T) (lowEv T), maxL (lowWv T), T.deadline, T.period⟩ := if_pos h
  rw [hs]
  obtain ⟨e1, e2, -⟩ := low_yes h
  rw [e1, e2]
  have hM := h.1
  have hG := h.2
  have hpos := lowW_pos hM
  have hsum := lowW_sum T
  have hfew := hM.few
  unfold ManyT at hfew
  have hwk := workK_bound hM.parts T.parts.length (Nat.le_refl _)
  have hlen := lowW_len hM
  have hne : lowW T ≠ [] := fun e => by rw [e] at hlen; simp at hlen; omega
  have ht : totalV (lowW T) (lowE T) = (lowW T).sum := if_pos hG
  have hl : IsLong (lowW T) (lowE T) (longV (lowW T) (lowE T)) := by
    have e : longV (lowW T) (lowE T) = most (farK (lowW T) (lowE T) (lowW T).length) := if_pos hG
    rw [e]
    exact long_is hG.fits hG.acyc fun z hz => by have := hpos z hz; omega
  obtain ⟨hm1, hm2⟩ := maxL_mem hne
  obtain ⟨W, hW⟩ : ∃ W, W = lowW T := ⟨_, rfl⟩
  obtain ⟨E, hE⟩ : ∃ E, E = lowE T := ⟨_, rfl⟩
  rw [← hW] at hpos hsum hne ht hl hm1 hm2 ⊢
  rw [← hE] at ht hl ⊢
  have hA : Acyc E := by rw [hE]; exact hG.acyc
  have mx1 := hpos _ hm1
  have hlt : longV W E ≤ W.sum := by
    rcases hl.2 with ⟨hw, -⟩ | ⟨p, hp, hi, hq⟩
    · exact absurd hw hne
    · rw [← hq]
      exact wsum_le (fun z hz => by have := hpos z hz; omega) (hp.nodup hA) hi
  have hml : maxL W ≤ longV W E := by
    obtain ⟨x, hx, hxe⟩ := List.mem_iff_getElem.mp hm1
    have q := hl.1 [x] trivial (fun y hy => by simp at hy; omega)
    have e : wsum W [x] = maxL W := by
      unfold wsum
      simp [List.getD_eq_getElem?_getD, List.getElem?_eq_getElem hx, hxe]
    rw [e] at q
    exact q
  have htime := hM.time
  unfold timeE at htime
  simp only [Bool.and_eq_true, decide_eq_true_eq] at htime
  obtain ⟨⟨⟨h1, h2⟩, h3⟩, h4⟩ := htime
  have hper : isP T.period = true := by
    obtain ⟨k, hk, e⟩ := isTwo_iff.mp h1
    rw [e, isP_pow]
    rw [e] at h2
    exact decide_eq_true h2
  rw [ht]
  have hl1 : 1 ≤ longV W E := Int.le_trans mx1 hml
  have hs1 : 1 ≤ W.sum := Int.le_trans hl1 hlt
  have hs2 : W.sum ≤ 4096 := by rw [hsum]; omega
  exact ⟨⟨hs1, hs2⟩, ⟨hl1, hlt⟩, ⟨mx1, hml⟩, hper, h3, h4⟩
end Go.Proofs.YtfahabphncmbfaaGreatDoor
set_option linter.unusedVariables false
namespace Go.Proofs.YtfahabphncmbfaaGreatDoor

theorem pPs_split (fs : List (Int × Int × Int)) (x : Nat) : ∀ d, ∃ t, pPs fs (x + d) = pPs fs x ++ t ∧ ∀ p ∈ t, (x : Int) ≤ p.1
  | 0 => ⟨[], by simp, by simp⟩
  | d + 1 => by
    obtain ⟨t, h1, h2⟩ := pPs_split fs x d
    refine ⟨t ++ stepP (x + d) (nst fs (x + d)), by rw [← Nat.add_assoc, pPs, h1, List.append_assoc], fun p hp => ?_⟩
    rcases List.mem_append.mp hp with hp | hp
    · exact h2 p hp
    · unfold stepP at hp
      obtain ⟨i, _, rfl⟩ := List.mem_map.mp hp
      show (x : Int) ≤ ((x + d : Nat) : Int)
      omega
theorem pPs_below (fs : List (Int × Int × Int)) : ∀ x, ∀ p ∈ pPs fs x, 0 ≤ p.1 ∧ p.1 < (x : Int)
  | 0, p, hp => by simp [pPs] at hp
  | x + 1, p, hp => by
    rw [pPs] at hp
    rcases List.mem_append.mp hp with hp | hp
    · have := pPs_below fs x p hp
      omega
    · unfold stepP at hp
      obtain ⟨i, _, rfl⟩ := List.mem_map.mp hp
      show 0 ≤ (x : Int) ∧ (x : Int) < ((x + 1 : Nat) : Int)
      omega
/-- A part's steps stand behind each other, and nowhere else. -/
theorem lowP_split {T : Task} {x : Nat} (hx : x < T.parts.length) : ∃ t, lowP T = pPs T.futures x ++ (stepP x (nst T.futures x) ++ t) ∧ ∀ p ∈ t, p.1 ≠ (x : Int) := by
  obtain ⟨t, h1, h2⟩ := pPs_split T.futures (x + 1) (T.parts.length - (x + 1))
  rw [show x + 1 + (T.parts.length - (x + 1)) = T.parts.length by omega, pPs] at h1
  refine ⟨t ++ (List.range T.bars.length).map fun j => (((-1 : Int)), ((j : Nat) : Int)), ?_, fun p hp => ?_⟩
  · unfold lowP
    rw [h1]
    simp only [List.append_assoc]
  · rcases List.mem_append.mp hp with hp | hp
    · have := h2 p hp
      omega
    · obtain ⟨j, _, rfl⟩ := List.mem_map.mp hp
      show (-1 : Int) ≠ (x : Int)
      omega
theorem idx_first {T : Task} {x : Nat} (hx : x < T.parts.length) : idxV (lowP T) ((x : Int), 0) = (firN T.futures x : Int) := by
  obtain ⟨t, h, _⟩ := lowP_split hx
  have hl := pPs_len T.futures x
  have hn := nst_pos T.futures x
  refine idxV_at ?_ ?_
  · rw [h, List.getElem?_append_right (by omega), hl, Nat.sub_self, List.getElem?_append_left (by rw [stepP_len]; omega)]
    unfold stepP
    rw [List.getElem?_map, List.getElem?_range (by omega)]
    rfl
  · rw [h, List.take_append_of_le_length (by omega), ← hl, List.take_length]
    intro hp
    have := pPs_below T.futures x _ hp
    simp at this
theorem lastK_eq {P : List (Int × Int)} {x : Int} {j : Nat} {p : Int × Int} (hj : P[j]? = some p) (hp : p.1 = x) (h : ∀ i q, j < i → P[i]? = some q → q.1 ≠ x) : ∀ n, j < n → n ≤ P.length → lastK P x n = j
  | 0, h0, _ => by omega
  | n + 1, h0, hn => by
    rw [lastK]
    by_cases e : j = n
    · subst e
      rw [List.getD_eq_getElem?_getD, hj, if_pos]
      exact hp
    · have hq : P[n]? = some P[n] := List.getElem?_eq_getElem (by omega)
      have := h n P[n] (by omega) hq
      rw [List.getD_eq_getElem?_getD, hq, if_neg]
      · exact lastK_eq hj hp h n (by omega) (by omega)
      · exact this
theorem last_last {T : Task} {x : Nat} (hx : x < T.parts.length) : lastV (lowP T) (x : Int) = (lasN T.futures x : Int) := by
  obtain ⟨t, h, ht⟩ := lowP_split hx
  have hl := pPs_len T.futures x
  have hn := nst_pos T.futures x
  have hs := stepP_len x (nst T.futures x)
  unfold lastV
  rw [if_neg (by omega)]
  have hlen : (lowP T).length = firN T.futures x + (nst T.futures x + t.length) := by rw [h, List.length_append, List.length_append, hl, hs]
  have hN : lasN T.futures x = firN T.futures x + (nst T.futures x - 1) := by unfold lasN; omega
  refine lastK_eq (p := ((x : Int), ((nst T.futures x - 1 : Nat) : Int))) ?_ rfl (fun i q hi hq => ?_) _ (by omega) (Nat.le_refl _)
  · rw [h, hN, List.getElem?_append_right (by omega), hl, Nat.add_sub_cancel_left, List.getElem?_append_left (by omega)]
    unfold stepP
    rw [List.getElem?_map, List.getElem?_range (by omega)]
    rfl
  · rw [h, List.getElem?_append_right (by omega), hl, List.getElem?_append_right (by omega), hs] at hq
    exact ht q (List.mem_of_getElem? hq)
theorem bEs_mem {fs : List (Int × Int × Int)} {bs : List (List Int × List Int)} {n j : Nat} {e : Int × Int} (he : e ∈ barN fs (n + j) (bs.getD j ([], []))) : ∀ k, j < k → e ∈ bEs fs bs n k
  | 0, h => by omega
  | k + 1, h => by
    rw [bEs]
    by_cases hk : j = k
    · subst hk
      exact List.mem_append.mpr (.inr he)
    · exact List.mem_append.mpr (.inl (bEs_mem he k (by omega)))
theorem bar_way {T : Task} {j : Nat} {b : List Int × List Int} {x y : Int} (hM : MayT T) (hb : T.bars[j]? = some b) (hx : x ∈ b.1) (hy : y ∈ b.2) : Way (lowE T) (lasN T.futures x.toNat) (firN T.futures y.toNat) := by
  have hj := (List.getElem?_eq_some_iff.mp hb).1
  have hg : T.bars.getD j ([], []) = b := by rw [List.getD_eq_getElem?_getD, hb]; rfl
  have hmem : ∀ e ∈ barN T.futures (firN T.futures T.parts.length + j) b, e ∈ lowE T := fun e he => by
    unfold lowE
    exact List.mem_append.mpr (.inr (bEs_mem (by rw [hg]; exact he) _ hj))
  refine .more (b := firN T.futures T.parts.length + j) (.one ?_) ?_
  · unfold ed
    refine hmem _ ?_
    unfold barN
    exact List.mem_append.mpr (.inl (List.mem_map.mpr ⟨x, hx, rfl⟩))
  · unfold ed
    refine hmem _ ?_
    unfold barN
    exact List.mem_append.mpr (.inr (List.mem_map.mpr ⟨y, hy, rfl⟩))
theorem edge_way {T : Task} {e : Int × Int} (he : e ∈ T.edges) : Way (lowE T) (lasN T.futures e.1.toNat) (firN T.futures e.2.toNat) := by
  refine .one ?_
  unfold ed lowE
  exact List.mem_append.mpr (.inl (List.mem_append.mpr (.inl (List.mem_append.mpr (.inr (List.mem_map.mpr ⟨e, he, rfl⟩))))))
/-- A way leads from the one part's last step to the other's first. -/
def Follows (T : Task) (x y : Int) : Prop := beforeV (lowWv T) (lowEv T) (lastV (lowPv T) x) (idxV (lowPv T) (y, 0)) = true
theorem follows_of {T : Task} (h : LowOk T) {x y : Int} (hx : 0 ≤ x ∧ x < T.parts.length) (hy : 0 ≤ y ∧ y < T.parts.length) (hw : Way (lowE T) (lasN T.futures x.toNat) (firN T.futures y.toNat)) : Follows T x y := by
  unfold Follows
  obtain ⟨e1, e2, e3⟩ := low_yes h
  rw [e1, e2, e3]
  obtain ⟨a, rfl⟩ : ∃ a : Nat, x = a := ⟨x.toNat, by omega⟩
  obtain ⟨b, rfl⟩ : ∃ b : Nat, y = b := ⟨y.toNat, by omega⟩
  rw [last_last (by omega), idx_first (by omega)]
  unfold beforeV
  rw [if_pos]
  exact ⟨h.2, by omega, by omega, by simpa using hw⟩
theorem bar_follows {T : Task} (h : LowOk T) {j : Nat} {b : List Int × List Int} {x y : Int} (hb : T.bars[j]? = some b) (hx : x ∈ b.1) (hy : y ∈ b.2) : Follows T x y := by
  have hB := h.1.bars b (List.mem_of_getElem? hb)
  exact follows_of h (hB.ins.parts x hx) (hB.outs.parts y hy) (bar_way h.1 hb hx hy)
theorem edge_follows {T : Task} (h : LowOk T) {e : Int × Int} (he : e ∈ T.edges) : Follows T e.1 e.2 := by
  have := h.1.edges.1 e he
  exact follows_of h ⟨this.1, this.2.1⟩ ⟨this.2.2.1, this.2.2.2⟩ (edge_way he)
end Go.Proofs.YtfahabphncmbfaaGreatDoor
set_option linter.unusedVariables false
namespace Go.Proofs.YtfahabphncmbfaaGreatDoor

/-- So much of a part's work lies ahead of the i-th node. -/
def aheadK (W : List Int) (P : List (Int × Int)) (u : Int) : Nat → Int
  | 0 => 0
  | i + 1 => aheadK W P u i + if (P.getD i (0, 0)).1 = u then W.getD i 0 else 0
theorem stepW_pre : ∀ (b : Int) (l : List Int) (j : Nat) (e : Int), l[j]? = some e → ((stepW b l).take (j + 1)).sum = e - b
  | b, [], j, e, h => by simp at h
  | b, x :: l, 0, e, h => by
    obtain rfl : x = e := by simpa using h
    simp [stepW]
  | b, x :: l, j + 1, e, h => by
    have ih := stepW_pre x l j e (by simpa using h)
    rw [stepW, List.take_succ_cons, List.sum_cons, ih]
    omega
theorem wPs_split (fs ps : List (Int × Int × Int)) (x : Nat) : ∀ d, ∃ t, wPs fs ps (x + d) = wPs fs ps x ++ t
  | 0 => ⟨[], by simp⟩
  | d + 1 => by
    obtain ⟨t, h⟩ := wPs_split fs ps x d
    exact ⟨t ++ stepW 0 (endsL fs ps (x + d)), by rw [← Nat.add_assoc, wPs, h, List.append_assoc]⟩
theorem lowW_split {T : Task} {x : Nat} (hx : x < T.parts.length) : ∃ t, lowW T = wPs T.futures T.parts x ++ (stepW 0 (endsL T.futures T.parts x) ++ t) := by
  obtain ⟨t, h1⟩ := wPs_split T.futures T.parts (x + 1) (T.parts.length - (x + 1))
  rw [show x + 1 + (T.parts.length - (x + 1)) = T.parts.length by omega, wPs] at h1
  refine ⟨t ++ List.replicate T.bars.length 1, ?_⟩
  unfold lowW
  rw [h1]
  simp only [List.append_assoc]
theorem piece_low {T : Task} {x i : Nat} (hx : x < T.parts.length) (hi : i < firN T.futures x) : ((lowP T).getD i (0, 0)).1 ≠ (x : Int) := by
  obtain ⟨t, h, _⟩ := lowP_split hx
  have hl := pPs_len T.futures x
  rw [h, List.getD_eq_getElem?_getD, List.getElem?_append_left (by omega)]
  have hq : (pPs T.futures x)[i]? = some (pPs T.futures x)[i] := List.getElem?_eq_getElem (by omega)
  rw [hq]
  have := pPs_below T.futures x _ (List.getElem_mem (by omega : i < (pPs T.futures x).length))
  show (pPs T.futures x)[i].1 ≠ (x : Int)
  omega
theorem piece_mid {T : Task} {x j : Nat} (hx : x < T.parts.length) (hj : j < nst T.futures x) : (lowP T).getD (firN T.futures x + j) (0, 0) = ((x : Int), (j : Int)) := by
  obtain ⟨t, h, _⟩ := lowP_split hx
  have hl := pPs_len T.futures x
  rw [h, List.getD_eq_getElem?_getD, List.getElem?_append_right (by omega), hl, Nat.add_sub_cancel_left, List.getElem?_append_left (by rw [stepP_len]; omega)]
  unfold stepP
  rw [List.getElem?_map, List.getElem?_range hj]
  rfl
theorem piece_high {T : Task} {x i : Nat} (hx : x < T.parts.length) (hi : firN T.futures x + nst T.futures x ≤ i) (hn : i < (lowP T).length) : ((lowP T).getD i (0, 0)).1 ≠ (x : Int) := by
  obtain ⟨t, h, ht⟩ := lowP_split hx
  have hl := pPs_len T.futures x
  have hs := stepP_len x (nst T.futures x)
  obtain ⟨p, hq⟩ : ∃ p, (lowP T)[i]? = some p := ⟨_, List.getElem?_eq_getElem hn⟩
  rw [List.getD_eq_getElem?_getD, hq]
  have hq2 := hq
  rw [h, List.getElem?_append_right (by omega), hl, List.getElem?_append_right (by omega), hs] at hq2
  exact ht _ (List.mem_of_getElem? hq2)
theorem work_mid {T : Task} {x j : Nat} (hx : x < T.parts.length) (hj : j < nst T.futures x) : (lowW T)[firN T.futures x + j]? = (stepW 0 (endsL T.futures T.parts x))[j]? := by
  obtain ⟨t, h⟩ := lowW_split hx
  have hl := wPs_len T.futures T.parts x
  rw [h, List.getElem?_append_right (by omega), hl, Nat.add_sub_cancel_left, List.getElem?_append_left (by rw [stepW_len, endsL_len]; omega)]
theorem ahead_low {T : Task} {x : Nat} (hx : x < T.parts.length) : ∀ i, i ≤ firN T.futures x → aheadK (lowW T) (lowP T) (x : Int) i = 0
  | 0, _ => rfl
  | i + 1, h => by
    rw [aheadK, ahead_low hx i (by omega), if_neg (piece_low hx (by omega))]
    rfl
theorem ahead_mid {T : Task} {x : Nat} (hx : x < T.parts.length) : ∀ j, j ≤ nst T.futures x → aheadK (lowW T) (lowP T) (x : Int) (firN T.futures x + j) = ((stepW 0 (endsL T.futures T.parts x)).take j).sum
  | 0, _ => by simpa using ahead_low hx _ (Nat.le_refl _)
  | j + 1, h => by
    rw [← Nat.add_assoc, aheadK, ahead_mid hx j (by omega), piece_mid hx (by omega), if_pos rfl, List.getD_eq_getElem?_getD, work_mid hx (by omega)]
    have hq : (stepW 0 (endsL T.futures T.parts x))[j]? = some (stepW 0 (endsL T.futures T.parts x))[j]! := by
      rw [List.getElem!_eq_getElem?_getD, List.getElem?_eq_getElem (by rw [stepW_len, endsL_len]; omega)]
      rfl
    rw [List.take_add_one, hq, List.sum_append]
    simp
theorem ahead_high {T : Task} {x : Nat} (hx : x < T.parts.length) : ∀ d, firN T.futures x + nst T.futures x + d ≤ (lowP T).length → aheadK (lowW T) (lowP T) (x : Int) (firN T.futures x + nst T.futures x + d) = (T.parts.getD x (0, 0, 0)).2.2
  | 0, _ => by
    rw [Nat.add_zero, ahead_mid hx _ (Nat.le_refl _), List.take_of_length_le (by rw [stepW_len, endsL_len]; exact Nat.le_refl _)]
    unfold endsL
    rw [stepW_sum]
    omega
  | d + 1, h => by
    rw [← Nat.add_assoc, aheadK, ahead_high hx d (by omega), if_neg (piece_high hx (by omega) (by omega))]
    omega
theorem ahead_all {T : Task} {x : Nat} (hx : x < T.parts.length) : aheadK (lowW T) (lowP T) (x : Int) (lowP T).length = (T.parts.getD x (0, 0, 0)).2.2 := by
  obtain ⟨t, h, _⟩ := lowP_split hx
  have hlen : (lowP T).length = firN T.futures x + nst T.futures x + t.length := by rw [h, List.length_append, List.length_append, pPs_len, stepP_len]; omega
  rw [hlen]
  exact ahead_high hx _ (by omega)
theorem ahead_bound {W : List Int} (hW : WorkOk W) (P : List (Int × Int)) (u : Int) : ∀ i, 0 ≤ aheadK W P u i ∧ aheadK W P u i ≤ 1000 * i
  | 0 => by simp [aheadK]
  | i + 1 => by
    have ih := ahead_bound hW P u i
    rw [aheadK]
    have hz : 0 ≤ W.getD i 0 ∧ W.getD i 0 ≤ 1000 := by
      by_cases h : i < W.length
      · rw [List.getD_eq_getElem?_getD, List.getElem?_eq_getElem h]
        exact hW _ (List.getElem_mem h)
      · rw [List.getD_eq_getElem?_getD, List.getElem?_eq_none (by omega)]
        decide
    split <;> omega
/-! Ways along a part -/
theorem ePs_mem {fs : List (Int × Int × Int)} {x : Nat} {e : Int × Int} (he : e ∈ chainE (firN fs x) (nst fs x)) : ∀ n, x < n → e ∈ ePs fs n
  | 0, h => by omega
  | n + 1, h => by
    rw [ePs]
    by_cases hk : x = n
    · subst hk
      exact List.mem_append.mpr (.inr he)
    · exact List.mem_append.mpr (.inl (ePs_mem he n (by omega)))
theorem chain_ed {T : Task} {x i : Nat} (hx : x < T.parts.length) (hi : i + 1 < nst T.futures x) : ed (lowE T) (firN T.futures x + i) (firN T.futures x + i + 1) := by
  unfold ed lowE
  refine List.mem_append.mpr (.inl (List.mem_append.mpr (.inl (List.mem_append.mpr (.inl (ePs_mem (x := x) ?_ _ hx))))))
  unfold chainE
  exact List.mem_map.mpr ⟨i, List.mem_range.mpr (by omega), rfl⟩
theorem chain_way {T : Task} {x i : Nat} (hx : x < T.parts.length) : ∀ d, i + d + 1 < nst T.futures x → Way (lowE T) (firN T.futures x + i) (firN T.futures x + (i + d + 1))
  | 0, h => .one (chain_ed hx h)
  | d + 1, h => .more (chain_way hx d (by omega)) (by
      have := chain_ed (T := T) (i := i + d + 1) hx (by omega)
      exact this)
/-- From a step on to the step itself or a later one. -/
theorem on_way {T : Task} {x i j a : Nat} (hx : x < T.parts.length) (hij : i ≤ j) (hj : j < nst T.futures x) (h : Way (lowE T) a (firN T.futures x + i)) : Way (lowE T) a (firN T.futures x + j) := by
  rcases Nat.lt_or_ge i j with hlt | hge
  · have := chain_way (T := T) (i := i) hx (j - i - 1) (by omega)
    rw [show i + (j - i - 1) + 1 = j by omega] at this
    exact h.trans this
  · rw [show j = i by omega]
    exact h
theorem fut_ed {T : Task} {a : Nat} (ha : a < T.futures.length) : ed (lowE T) (lasN T.futures (futAt T.futures a).1.toNat) (begN T.futures a) := by
  unfold ed lowE
  exact List.mem_append.mpr (.inl (List.mem_append.mpr (.inr (List.mem_map.mpr ⟨a, List.mem_range.mpr ha, rfl⟩))))
theorem touL_rises7 {fs : List (Int × Int × Int)} {x : Int} (hn : (fs.map fun f => f.2).Nodup) : (touL fs x).Pairwise fun i j => (futAt fs i).2.2 < (futAt fs j).2.2 := by
  unfold touL
  exact touK_rises7 hn 99
theorem nst_eq (fs : List (Int × Int × Int)) (x : Nat) : nst fs x = (touL fs (x : Int)).length + 1 := by unfold nst; rfl
theorem beg_eq {fs : List (Int × Int × Int)} {a mN uN : Nat} {A : Int} (hf : futAt fs a = ((mN : Int), (uN : Int), A)) : begN fs a = firN fs uN + ((touL fs (uN : Int)).idxOf a + 1) := by
  unfold begN
  rw [hf]
  show firN fs ((uN : Int)).toNat + (touL fs (uN : Int)).idxOf a + 1 = _
  rw [Int.toNat_natCast, Nat.add_assoc]
theorem fut_at {T : Task} (hM : MayT T) {a mN uN : Nat} {A : Int} (ha : a < T.futures.length) (hf : futAt T.futures a = ((mN : Int), (uN : Int), A)) :
    ∃ q, ∃ hq : q < (touL T.futures (uN : Int)).length, (touL T.futures (uN : Int))[q] = a ∧ ed (lowE T) (lasN T.futures mN) (firN T.futures uN + (q + 1)) := by
  have hmem : a ∈ touL T.futures (uN : Int) := by
    have := fut_mem hM.parts hM.futures ha
    rwa [hf] at this
  have hed := fut_ed ha
  rw [beg_eq hf, hf] at hed
  exact ⟨_, List.idxOf_lt_length_iff.mpr hmem, List.getElem_idxOf _, by simpa only [Int.toNat_natCast] using hed⟩
theorem ends_at7 {T : Task} {uN j : Nat} (hj : j < (touL T.futures (uN : Int)).length) : (endsL T.futures T.parts uN)[j]? = some (futAt T.futures ((touL T.futures (uN : Int))[j])).2.2 := by
  unfold endsL
  rw [List.getElem?_append_left (by rw [List.length_map]; omega), List.getElem?_map, List.getElem?_eq_getElem hj]
  rfl
theorem fut_parts {T : Task} (hM : MayT T) {a mN uN : Nat} {A : Int} (ha : a < T.futures.length) (hf : futAt T.futures a = ((mN : Int), (uN : Int), A)) : mN < T.parts.length ∧ uN < T.parts.length ∧ 1 ≤ A := by
  have hfm := hM.futures.each (futAt T.futures a) (futAt_mem ha)
  rw [hf] at hfm
  have h1 := hfm.user.2
  have h2 := hfm.maker.2
  have h3 := hfm.first
  simp only at h1 h2 h3
  omega
/-- What is asked of a future: its user's steps behind the touch wait for the maker's last one. -/
theorem touch_way {T : Task} (hM : MayT T) {a i mN uN : Nat} {A : Int} (ha : a < T.futures.length) (hf : futAt T.futures a = ((mN : Int), (uN : Int), A)) (hi : i < (lowP T).length) (hp : ((lowP T).getD i (0, 0)).1 = (uN : Int)) (hA : A ≤ aheadK (lowW T) (lowP T) (uN : Int) i) : Way (lowE T) (lasN T.futures mN) i := by
  obtain ⟨hm, hu, hA1⟩ := fut_parts hM ha hf
  have h1 : firN T.futures uN ≤ i := Nat.le_of_not_lt fun h => piece_low hu h hp
  have h2 : i < firN T.futures uN + nst T.futures uN := Nat.lt_of_not_le fun h => piece_high hu h hi hp
  obtain ⟨j, rfl⟩ : ∃ j, i = firN T.futures uN + j := ⟨i - firN T.futures uN, by omega⟩
  rw [ahead_mid hu j (by omega)] at hA
  obtain ⟨q, hq, hqe, hed⟩ := fut_at hM ha hf
  have hn := nst_eq T.futures uN
  cases j with
  | zero =>
    simp at hA
    omega
  | succ j =>
    have hj : j < (touL T.futures (uN : Int)).length := by omega
    rw [stepW_pre 0 _ j _ (ends_at7 hj)] at hA
    have hqj : q ≤ j := by
      rcases Nat.lt_or_ge j q with hlt | hge
      · have hr := List.pairwise_iff_getElem.mp (touL_rises7 (x := (uN : Int)) hM.futures.once) j q hj hq hlt
        rw [hqe, hf] at hr
        simp only at hr
        omega
      · exact hge
    exact on_way hu (by omega) (by omega) (.one hed)
theorem touch_whole {T : Task} (hM : MayT T) {a mN uN : Nat} {A : Int} (ha : a < T.futures.length) (hf : futAt T.futures a = ((mN : Int), (uN : Int), A)) : Way (lowE T) (firN T.futures mN) (lasN T.futures uN) := by
  obtain ⟨hm, hu, hA1⟩ := fut_parts hM ha hf
  obtain ⟨q, hq, hqe, hed⟩ := fut_at hM ha hf
  have hn := nst_eq T.futures uN
  have hnm := nst_pos T.futures mN
  have hlu : lasN T.futures uN = firN T.futures uN + (nst T.futures uN - 1) := by unfold lasN; omega
  have hlm : lasN T.futures mN = firN T.futures mN + (nst T.futures mN - 1) := by unfold lasN; omega
  rw [hlu]
  refine on_way hu (i := q + 1) (by omega) (by omega) ?_
  rw [hlm] at hed
  rcases Nat.lt_or_ge 1 (nst T.futures mN) with h | h
  · have hw := chain_way (T := T) (i := 0) hm (nst T.futures mN - 2) (by omega)
    rw [show 0 + (nst T.futures mN - 2) + 1 = nst T.futures mN - 1 by omega, Nat.add_zero] at hw
    exact .more hw hed
  · rw [show nst T.futures mN - 1 = 0 by omega, Nat.add_zero] at hed
    exact .one hed
end Go.Proofs.YtfahabphncmbfaaGreatDoor
set_option linter.unusedVariables false
namespace Go.Proofs.YtfahabphncmbfaaGreatDoor

/-- A node is of one part. -/
theorem part_one {fs : List (Int × Int × Int)} {x y i : Nat} (h1 : firN fs x ≤ i) (h2 : i < firN fs (x + 1)) (h3 : firN fs y ≤ i) (h4 : i < firN fs (y + 1)) : x = y := by
  rcases Nat.lt_trichotomy x y with h | h | h
  · have := firN_mono fs (show x + 1 ≤ y by omega)
    omega
  · exact h
  · have := firN_mono fs (show y + 1 ≤ x by omega)
    omega
theorem fir_lt (fs : List (Int × Int × Int)) (x : Nat) : firN fs x < firN fs (x + 1) := by
  rw [firN]
  have := nst_pos fs x
  omega
theorem firN_inj {fs : List (Int × Int × Int)} {x y : Nat} (h : firN fs x = firN fs y) : x = y :=
  part_one (fs := fs) (i := firN fs x) (Nat.le_refl _) (fir_lt fs x) (by omega) (by have := fir_lt fs y; omega)
theorem lasN_inj {fs : List (Int × Int × Int)} {x y : Nat} (h : lasN fs x = lasN fs y) : x = y := by
  have h1 := lasN_eq fs x
  have h2 := lasN_eq fs y
  have h3 := fir_lt fs x
  have h4 := fir_lt fs y
  exact part_one (fs := fs) (i := lasN fs x) (by omega) (by omega) (by omega) (by omega)
theorem mem_ePs {fs : List (Int × Int × Int)} {e : Int × Int} : ∀ n, e ∈ ePs fs n → ∃ x i, x < n ∧ i + 1 < nst fs x ∧ e = (((firN fs x + i : Nat) : Int), ((firN fs x + i + 1 : Nat) : Int))
  | 0, h => by simp [ePs] at h
  | n + 1, h => by
    rw [ePs] at h
    rcases List.mem_append.mp h with h | h
    · obtain ⟨x, i, h1, h2, h3⟩ := mem_ePs n h
      exact ⟨x, i, by omega, h2, h3⟩
    · unfold chainE at h
      obtain ⟨i, hi, rfl⟩ := List.mem_map.mp h
      have := List.mem_range.mp hi
      exact ⟨n, i, by omega, by omega, rfl⟩
theorem mem_bEs {fs : List (Int × Int × Int)} {bs : List (List Int × List Int)} {n : Nat} {e : Int × Int} : ∀ k, e ∈ bEs fs bs n k → ∃ j, j < k ∧ e ∈ barN fs (n + j) (bs.getD j ([], []))
  | 0, h => by simp [bEs] at h
  | k + 1, h => by
    rw [bEs] at h
    rcases List.mem_append.mp h with h | h
    · obtain ⟨j, h1, h2⟩ := mem_bEs k h
      exact ⟨j, by omega, h2⟩
    · exact ⟨k, by omega, h⟩
/-- An edge that the task lacks, its graph lacks. -/
theorem edge_new {T : Task} (hM : MayT T) {a b : Nat} (ha : a < T.parts.length) (hb : b < T.parts.length) (hn : ((a : Int), (b : Int)) ∉ T.edges) : (((lasN T.futures a : Nat) : Int), ((firN T.futures b : Nat) : Int)) ∉ lowE T := by
  intro h
  have hla := lasN_eq T.futures a
  have hlb := firN_mono T.futures (show a + 1 ≤ T.parts.length by omega)
  have hfb := firN_mono T.futures (show b + 1 ≤ T.parts.length by omega)
  have hb1 := fir_lt T.futures b
  unfold lowE at h
  rcases List.mem_append.mp h with h | h
  · rcases List.mem_append.mp h with h | h
    · rcases List.mem_append.mp h with h | h
      · obtain ⟨x, i, _, h2, h3⟩ := mem_ePs _ h
        injection h3 with _ h4
        have h5 : firN T.futures b = firN T.futures x + i + 1 := by omega
        have h6 : firN T.futures (x + 1) = firN T.futures x + nst T.futures x := rfl
        have := part_one (fs := T.futures) (x := b) (y := x) (i := firN T.futures b) (Nat.le_refl _) hb1 (by omega) (by omega)
        subst this
        omega
      · obtain ⟨e, he, h3⟩ := List.mem_map.mp h
        unfold edgN at h3
        injection h3 with h4 h5
        have hF := hM.edges.1 e he
        have e1 := lasN_inj (fs := T.futures) (x := e.1.toNat) (y := a) (by omega)
        have e2 := firN_inj (fs := T.futures) (x := e.2.toNat) (y := b) (by omega)
        refine hn ?_
        have : e = ((a : Int), (b : Int)) := Prod.ext (by omega) (by omega)
        rw [← this]
        exact he
    · obtain ⟨k, hk, h3⟩ := List.mem_map.mp h
      have hkl := List.mem_range.mp hk
      unfold futN at h3
      injection h3 with _ h4
      have hf := hM.futures.each _ (futAt_mem hkl)
      obtain ⟨mN, hmN⟩ : ∃ q : Nat, (futAt T.futures k).1 = q := ⟨(futAt T.futures k).1.toNat, by have := hf.maker.1; omega⟩
      obtain ⟨uN, huN⟩ : ∃ q : Nat, (futAt T.futures k).2.1 = q := ⟨(futAt T.futures k).2.1.toNat, by have := hf.user.1; omega⟩
      have hfe : futAt T.futures k = ((mN : Int), (uN : Int), (futAt T.futures k).2.2) := by rw [← hmN, ← huN]
      have hmem := fut_mem hM.parts hM.futures hkl
      rw [huN] at hmem
      have hq := List.idxOf_lt_length_iff.mpr hmem
      have hbe := beg_eq hfe
      have hn2 := nst_eq T.futures uN
      have h6 : firN T.futures (uN + 1) = firN T.futures uN + nst T.futures uN := rfl
      have := part_one (fs := T.futures) (x := b) (y := uN) (i := firN T.futures b) (Nat.le_refl _) hb1 (by omega) (by omega)
      subst this
      omega
  · obtain ⟨j, _, h3⟩ := mem_bEs _ h
    unfold barN at h3
    rcases List.mem_append.mp h3 with h3 | h3
    · obtain ⟨i, _, h4⟩ := List.mem_map.mp h3
      injection h4 with _ h5
      omega
    · obtain ⟨i, _, h4⟩ := List.mem_map.mp h3
      injection h4 with h5 _
      omega
/-- A task with an edge more. -/
def moreT (T : Task) (a b : Int) : Task := { T with edges := T.edges ++ [(a, b)] }
theorem moreT_ed {T : Task} {a b x y : Nat} : ed (lowE (moreT T a b)) x y ↔ ed (lowE T) x y ∨ (x = lasN T.futures a ∧ y = firN T.futures b) := by
  unfold ed lowE moreT
  simp only [List.map_append, List.map_cons, List.map_nil, List.mem_append, List.mem_singleton, edgN, Int.toNat_natCast, Prod.mk.injEq]
  constructor
  · rintro (((h | h | h) | h) | h)
    · exact .inl (.inl (.inl (.inl h)))
    · exact .inl (.inl (.inl (.inr h)))
    · exact .inr (by omega)
    · exact .inl (.inl (.inr h))
    · exact .inl (.inr h)
  · rintro ((((h | h) | h) | h) | h)
    · exact .inl (.inl (.inl h))
    · exact .inl (.inl (.inr (.inl h)))
    · exact .inl (.inr h)
    · exact .inr h
    · exact .inl (.inl (.inr (.inr (by omega))))
theorem lowE_len {T : Task} (hM : MayT T) : (lowE T).length ≤ 160 + T.edges.length := by
  have hfew := hM.few
  unfold ManyT at hfew
  have h1 := ePs_len T.futures T.parts.length
  have h2 := firN_all hM.parts hM.futures
  have h3 := bEs_len T.futures T.bars (firN T.futures T.parts.length) 16 (fun b hb => by
    have h := hM.bars b hb
    have k1 := row_len' h.ins
    have k2 := row_len' h.outs
    omega) T.bars.length
  have h4 : T.bars.length * (2 * 16) ≤ 4 * 32 := Nat.mul_le_mul (by omega) (by omega)
  unfold lowE
  rw [List.length_append, List.length_append, List.length_append, List.length_map, List.length_map, List.length_range]
  omega
theorem moreT_perm (T : Task) (a b : Nat) : (lowE (moreT T a b)).Perm (lowE T ++ [(((lasN T.futures a : Nat) : Int), ((firN T.futures b : Nat) : Int))]) := by
  unfold lowE moreT
  simp only [List.map_append, List.map_cons, List.map_nil, edgN, Int.toNat_natCast]
  generalize ePs T.futures T.parts.length = A
  generalize T.edges.map _ = B
  generalize (List.range T.futures.length).map (futN T.futures) = C
  generalize bEs T.futures T.bars (firN T.futures T.parts.length) T.bars.length = D
  simp only [List.append_assoc]
  exact List.Perm.append_left A (List.Perm.append_left B (by
    have := List.perm_append_comm (l₁ := [(((lasN T.futures a : Nat) : Int), ((firN T.futures b : Nat) : Int))]) (l₂ := C ++ D)
    simpa using this))
theorem moreT_may {T : Task} (h : MayT T) {a b : Nat} (ha : a < T.parts.length) (hb : b < T.parts.length) (hab : a ≠ b) (hn : ((a : Int), (b : Int)) ∉ T.edges) (hl : T.edges.length < 48) : MayT (moreT T a b) := by
  have hfew := h.few
  have hE := h.edges
  refine ⟨?_, h.time, h.parts, ⟨?_, ?_, ?_⟩, h.futures, h.bars⟩
  · unfold ManyT moreT at *
    simp only [List.length_append, List.length_singleton] at *
    omega
  · intro e he
    rcases List.mem_append.mp he with he | he
    · exact hE.1 e he
    · obtain rfl := List.mem_singleton.mp he
      show 0 ≤ (a : Int) ∧ (a : Int) < (T.parts.length : Int) ∧ 0 ≤ (b : Int) ∧ (b : Int) < (T.parts.length : Int)
      omega
  · intro e he
    rcases List.mem_append.mp he with he | he
    · exact hE.2.1 e he
    · obtain rfl := List.mem_singleton.mp he
      show (a : Int) ≠ (b : Int)
      omega
  · show (T.edges ++ [((a : Int), (b : Int))]).Nodup
    rw [List.nodup_append]
    refine ⟨hE.2.2, by simp, fun x hx y hy => ?_⟩
    obtain rfl := List.mem_singleton.mp hy
    exact fun e => hn (e ▸ hx)
/-- An edge more leads round just if what is to wait is waited for already. -/
theorem round_iff {T : Task} (h : LowOk T) {a b : Nat} (ha : a < T.parts.length) (hb : b < T.parts.length) (hab : a ≠ b) (hn : ((a : Int), (b : Int)) ∉ T.edges) (hl : T.edges.length < 48) :
    May (lowW (moreT T a b)) (lowE (moreT T a b)) ↔ ¬ Way (lowE T) (firN T.futures b) (lasN T.futures a) := by
  have hW : lowW (moreT T a b) = lowW T := rfl
  have hp := moreT_perm T a b
  have hne : lasN T.futures a ≠ firN T.futures b := fun e => by
    have h1 := lasN_eq T.futures a
    have h2 := fir_lt T.futures a
    exact hab (part_one (fs := T.futures) (i := firN T.futures b) (by omega) (by omega) (Nat.le_refl _) (fir_lt T.futures b))
  have hac := acyc_snoc (E := lowE T) (a := lasN T.futures a) (b := firN T.futures b) h.2.acyc hne
  have hA : Acyc (lowE (moreT T a b)) ↔ Acyc (lowE T ++ [(((lasN T.futures a : Nat) : Int), ((firN T.futures b : Nat) : Int))]) :=
    ⟨fun k => k.mono fun x y hxy => hp.mem_iff.mpr hxy, fun k => k.mono fun x y hxy => hp.mem_iff.mp hxy⟩
  constructor
  · intro k
    exact hac.mp (hA.mp k.acyc)
  · intro k
    have hlen := lowW_len h.1
    have hall := firN_all h.1.parts h.1.futures
    have hM := moreT_may h.1 ha hb hab hn hl
    have hlE := lowE_len hM
    have hlm : (moreT T a b).edges.length = T.edges.length + 1 := by unfold moreT; simp
    have h1 := lasN_eq T.futures a
    have h2 := firN_mono T.futures (show a + 1 ≤ T.parts.length by omega)
    have h3 := fir_lt T.futures b
    have h4 := firN_mono T.futures (show b + 1 ≤ T.parts.length by omega)
    rw [hW]
    refine ⟨h.2.nodes, by omega, h.2.work, fun e he => ?_, fun e he => ?_, ?_, hA.mpr (hac.mpr k)⟩
    · rcases List.mem_append.mp (hp.mem_iff.mp he) with he | he
      · exact h.2.fits e he
      · obtain rfl := List.mem_singleton.mp he
        show 0 ≤ ((lasN T.futures a : Nat) : Int) ∧ ((lasN T.futures a : Nat) : Int) < ((lowW T).length : Int) ∧ 0 ≤ ((firN T.futures b : Nat) : Int) ∧ ((firN T.futures b : Nat) : Int) < ((lowW T).length : Int)
        omega
    · rcases List.mem_append.mp (hp.mem_iff.mp he) with he | he
      · exact h.2.apart e he
      · obtain rfl := List.mem_singleton.mp he
        show ((lasN T.futures a : Nat) : Int) ≠ ((firN T.futures b : Nat) : Int)
        omega
    · rw [hp.nodup_iff, List.nodup_append]
      refine ⟨h.2.once, by simp, fun x hx y hy => ?_⟩
      obtain rfl := List.mem_singleton.mp hy
      exact fun e => edge_new h.1 ha hb hn (e ▸ hx)
end Go.Proofs.YtfahabphncmbfaaGreatDoor
