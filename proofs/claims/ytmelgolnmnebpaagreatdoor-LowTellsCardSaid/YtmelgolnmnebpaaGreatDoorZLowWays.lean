/- Where a part's steps stand, and what waits for what, in plain words, in the seat YtmelgolnmnebpaaGreatDoor. No statement is proved here. -/
import Derived.Test.YtmelgolnmnebpaaGreatDoorZM24
import Derived.Test.YtmelgolnmnebpaaGreatDoorZM20
set_option linter.unusedSimpArgs false
set_option linter.unusedVariables false
namespace Go.Proofs.YtmelgolnmnebpaaGreatDoor

theorem pPs_split (fs : List (Int × Int × Int)) (x : Nat) : ∀ d, ∃ t, pPs fs (x + d) = pPs fs x ++ t ∧ ∀ p ∈ t, (x : Int) ≤ p.1
  | 0 => ⟨[], by simp, by simp⟩
  | d + 1 => by
    obtain ⟨t, h1, h2⟩ := pPs_split fs x d
    refine ⟨t ++ stepP (x + d) (nst fs (x + d)), by rw [← Nat.add_assoc, pPs, h1, List.append_assoc], fun p hp => ?_⟩
    rcases List.mem_append.mp hp with hp | hp
    · exact h2 p hp
    · unfold stepP at hp
      obtain ⟨i, _, rfl⟩ := List.mem_map.mp hp
      show (x : Int) ≤ ((x + d : Nat) : Int)
      omega
theorem pPs_below (fs : List (Int × Int × Int)) : ∀ x, ∀ p ∈ pPs fs x, 0 ≤ p.1 ∧ p.1 < (x : Int)
  | 0, p, hp => by simp [pPs] at hp
  | x + 1, p, hp => by
    rw [pPs] at hp
    rcases List.mem_append.mp hp with hp | hp
    · have := pPs_below fs x p hp
      omega
    · unfold stepP at hp
      obtain ⟨i, _, rfl⟩ := List.mem_map.mp hp
      show 0 ≤ (x : Int) ∧ (x : Int) < ((x + 1 : Nat) : Int)
      omega
/-- A part's steps stand behind each other, and nowhere else. -/
theorem lowP_split {T : Task} {x : Nat} (hx : x < T.parts.length) : ∃ t, lowP T = pPs T.futures x ++ (stepP x (nst T.futures x) ++ t) ∧ ∀ p ∈ t, p.1 ≠ (x : Int) := by
  obtain ⟨t, h1, h2⟩ := pPs_split T.futures (x + 1) (T.parts.length - (x + 1))
  rw [show x + 1 + (T.parts.length - (x + 1)) = T.parts.length by omega, pPs] at h1
  refine ⟨t ++ (List.range T.bars.length).map fun j => (((-1 : Int)), ((j : Nat) : Int)), ?_, fun p hp => ?_⟩
  · unfold lowP
    rw [h1]
    simp only [List.append_assoc]
  · rcases List.mem_append.mp hp with hp | hp
    · have := h2 p hp
      omega
    · obtain ⟨j, _, rfl⟩ := List.mem_map.mp hp
      show (-1 : Int) ≠ (x : Int)
      omega
theorem idx_first {T : Task} {x : Nat} (hx : x < T.parts.length) : idxV (lowP T) ((x : Int), 0) = (firN T.futures x : Int) := by
  obtain ⟨t, h, _⟩ := lowP_split hx
  have hl := pPs_len T.futures x
  have hn := nst_pos T.futures x
  refine idxV_at ?_ ?_
  · rw [h, List.getElem?_append_right (by omega), hl, Nat.sub_self, List.getElem?_append_left (by rw [stepP_len]; omega)]
    unfold stepP
    rw [List.getElem?_map, List.getElem?_range (by omega)]
    rfl
  · rw [h, List.take_append_of_le_length (by omega), ← hl, List.take_length]
    intro hp
    have := pPs_below T.futures x _ hp
    simp at this
theorem lastK_eq {P : List (Int × Int)} {x : Int} {j : Nat} {p : Int × Int} (hj : P[j]? = some p) (hp : p.1 = x) (h : ∀ i q, j < i → P[i]? = some q → q.1 ≠ x) : ∀ n, j < n → n ≤ P.length → lastK P x n = j
  | 0, h0, _ => by omega
  | n + 1, h0, hn => by
    rw [lastK]
    by_cases e : j = n
    · subst e
      rw [List.getD_eq_getElem?_getD, hj, if_pos]
      exact hp
    · have hq : P[n]? = some P[n] := List.getElem?_eq_getElem (by omega)
      have := h n P[n] (by omega) hq
      rw [List.getD_eq_getElem?_getD, hq, if_neg]
      · exact lastK_eq hj hp h n (by omega) (by omega)
      · exact this
theorem last_last {T : Task} {x : Nat} (hx : x < T.parts.length) : lastV (lowP T) (x : Int) = (lasN T.futures x : Int) := by
  obtain ⟨t, h, ht⟩ := lowP_split hx
  have hl := pPs_len T.futures x
  have hn := nst_pos T.futures x
  have hs := stepP_len x (nst T.futures x)
  unfold lastV
  rw [if_neg (by omega)]
  have hlen : (lowP T).length = firN T.futures x + (nst T.futures x + t.length) := by rw [h, List.length_append, List.length_append, hl, hs]
  have hN : lasN T.futures x = firN T.futures x + (nst T.futures x - 1) := by unfold lasN; omega
  refine lastK_eq (p := ((x : Int), ((nst T.futures x - 1 : Nat) : Int))) ?_ rfl (fun i q hi hq => ?_) _ (by omega) (Nat.le_refl _)
  · rw [h, hN, List.getElem?_append_right (by omega), hl, Nat.add_sub_cancel_left, List.getElem?_append_left (by omega)]
    unfold stepP
    rw [List.getElem?_map, List.getElem?_range (by omega)]
    rfl
  · rw [h, List.getElem?_append_right (by omega), hl, List.getElem?_append_right (by omega), hs] at hq
    exact ht q (List.mem_of_getElem? hq)
theorem bEs_mem {fs : List (Int × Int × Int)} {bs : List (List Int × List Int)} {n j : Nat} {e : Int × Int} (he : e ∈ barN fs (n + j) (bs.getD j ([], []))) : ∀ k, j < k → e ∈ bEs fs bs n k
  | 0, h => by omega
  | k + 1, h => by
    rw [bEs]
    by_cases hk : j = k
    · subst hk
      exact List.mem_append.mpr (.inr he)
    · exact List.mem_append.mpr (.inl (bEs_mem he k (by omega)))
theorem bar_way {T : Task} {j : Nat} {b : List Int × List Int} {x y : Int} (hM : MayT T) (hb : T.bars[j]? = some b) (hx : x ∈ b.1) (hy : y ∈ b.2) : Way (lowE T) (lasN T.futures x.toNat) (firN T.futures y.toNat) := by
  have hj := (List.getElem?_eq_some_iff.mp hb).1
  have hg : T.bars.getD j ([], []) = b := by rw [List.getD_eq_getElem?_getD, hb]; rfl
  have hmem : ∀ e ∈ barN T.futures (firN T.futures T.parts.length + j) b, e ∈ lowE T := fun e he => by
    unfold lowE
    exact List.mem_append.mpr (.inr (bEs_mem (by rw [hg]; exact he) _ hj))
  refine .more (b := firN T.futures T.parts.length + j) (.one ?_) ?_
  · unfold ed
    refine hmem _ ?_
    unfold barN
    exact List.mem_append.mpr (.inl (List.mem_map.mpr ⟨x, hx, rfl⟩))
  · unfold ed
    refine hmem _ ?_
    unfold barN
    exact List.mem_append.mpr (.inr (List.mem_map.mpr ⟨y, hy, rfl⟩))
theorem edge_way {T : Task} {e : Int × Int} (he : e ∈ T.edges) : Way (lowE T) (lasN T.futures e.1.toNat) (firN T.futures e.2.toNat) := by
  refine .one ?_
  unfold ed lowE
  exact List.mem_append.mpr (.inl (List.mem_append.mpr (.inl (List.mem_append.mpr (.inr (List.mem_map.mpr ⟨e, he, rfl⟩))))))
/-- A way leads from the one part's last step to the other's first. -/
def Follows (T : Task) (x y : Int) : Prop := beforeV (lowWv T) (lowEv T) (lastV (lowPv T) x) (idxV (lowPv T) (y, 0)) = true
theorem follows_of {T : Task} (h : LowOk T) {x y : Int} (hx : 0 ≤ x ∧ x < T.parts.length) (hy : 0 ≤ y ∧ y < T.parts.length) (hw : Way (lowE T) (lasN T.futures x.toNat) (firN T.futures y.toNat)) : Follows T x y := by
  unfold Follows
  obtain ⟨e1, e2, e3⟩ := low_yes h
  rw [e1, e2, e3]
  obtain ⟨a, rfl⟩ : ∃ a : Nat, x = a := ⟨x.toNat, by omega⟩
  obtain ⟨b, rfl⟩ : ∃ b : Nat, y = b := ⟨y.toNat, by omega⟩
  rw [last_last (by omega), idx_first (by omega)]
  unfold beforeV
  rw [if_pos]
  exact ⟨h.2, by omega, by omega, by simpa using hw⟩
theorem bar_follows {T : Task} (h : LowOk T) {j : Nat} {b : List Int × List Int} {x y : Int} (hb : T.bars[j]? = some b) (hx : x ∈ b.1) (hy : y ∈ b.2) : Follows T x y := by
  have hB := h.1.bars b (List.mem_of_getElem? hb)
  exact follows_of h (hB.ins.parts x hx) (hB.outs.parts y hy) (bar_way h.1 hb hx hy)
theorem edge_follows {T : Task} (h : LowOk T) {e : Int × Int} (he : e ∈ T.edges) : Follows T e.1 e.2 := by
  have := h.1.edges.1 e he
  exact follows_of h ⟨this.1, this.2.1⟩ ⟨this.2.2.1, this.2.2.2⟩ (edge_way he)
end Go.Proofs.YtmelgolnmnebpaaGreatDoor
