/- What lies ahead of a part's step, and what waits for a future, in plain words, in the seat YtkmajhbfmdoamaaGreatDoor. No statement is proved here. -/
import Derived.Test.YtkmajhbfmdoamaaGreatDoorZLowWays
import Derived.Test.YtkmajhbfmdoamaaGreatDoorZM24
set_option linter.unusedSimpArgs false
set_option linter.unusedVariables false
namespace Go.Proofs.YtkmajhbfmdoamaaGreatDoor

/-! Ways along a part -/
theorem ePs_mem {fs : List (Int × Int × Int)} {x : Nat} {e : Int × Int} (he : e ∈ chainE (firN fs x) (nst fs x)) : ∀ n, x < n → e ∈ ePs fs n
  | 0, h => by omega
  | n + 1, h => by
    rw [ePs]
    by_cases hk : x = n
    · subst hk
      exact List.mem_append.mpr (.inr he)
    · exact List.mem_append.mpr (.inl (ePs_mem he n (by omega)))
theorem chain_ed {T : Task} {x i : Nat} (hx : x < T.parts.length) (hi : i + 1 < nst T.futures x) : ed (lowE T) (firN T.futures x + i) (firN T.futures x + i + 1) := by
  unfold ed lowE
  refine List.mem_append.mpr (.inl (List.mem_append.mpr (.inl (List.mem_append.mpr (.inl (ePs_mem (x := x) ?_ _ hx))))))
  unfold chainE
  exact List.mem_map.mpr ⟨i, List.mem_range.mpr (by omega), rfl⟩
theorem chain_way {T : Task} {x i : Nat} (hx : x < T.parts.length) : ∀ d, i + d + 1 < nst T.futures x → Way (lowE T) (firN T.futures x + i) (firN T.futures x + (i + d + 1))
  | 0, h => .one (chain_ed hx h)
  | d + 1, h => .more (chain_way hx d (by omega)) (by
      have := chain_ed (T := T) (i := i + d + 1) hx (by omega)
      exact this)
/-- From a step on to the step itself or a later one. -/
theorem on_way {T : Task} {x i j a : Nat} (hx : x < T.parts.length) (hij : i ≤ j) (hj : j < nst T.futures x) (h : Way (lowE T) a (firN T.futures x + i)) : Way (lowE T) a (firN T.futures x + j) := by
  rcases Nat.lt_or_ge i j with hlt | hge
  · have := chain_way (T := T) (i := i) hx (j - i - 1) (by omega)
    rw [show i + (j - i - 1) + 1 = j by omega] at this
    exact h.trans this
  · rw [show j = i by omega]
    exact h
theorem fut_ed {T : Task} {a : Nat} (ha : a < T.futures.length) : ed (lowE T) (lasN T.futures (futAt T.futures a).1.toNat) (begN T.futures a) := by
  unfold ed lowE
  exact List.mem_append.mpr (.inl (List.mem_append.mpr (.inr (List.mem_map.mpr ⟨a, List.mem_range.mpr ha, rfl⟩))))
theorem touL_rises7 {fs : List (Int × Int × Int)} {x : Int} (hn : (fs.map fun f => f.2).Nodup) : (touL fs x).Pairwise fun i j => (futAt fs i).2.2 < (futAt fs j).2.2 := by
  unfold touL
  exact touK_rises7 hn 99
theorem nst_eq (fs : List (Int × Int × Int)) (x : Nat) : nst fs x = (touL fs (x : Int)).length + 1 := by unfold nst; rfl
theorem beg_eq {fs : List (Int × Int × Int)} {a mN uN : Nat} {A : Int} (hf : futAt fs a = ((mN : Int), (uN : Int), A)) : begN fs a = firN fs uN + ((touL fs (uN : Int)).idxOf a + 1) := by
  unfold begN
  rw [hf]
  show firN fs ((uN : Int)).toNat + (touL fs (uN : Int)).idxOf a + 1 = _
  rw [Int.toNat_natCast, Nat.add_assoc]
theorem fut_at {T : Task} (hM : MayT T) {a mN uN : Nat} {A : Int} (ha : a < T.futures.length) (hf : futAt T.futures a = ((mN : Int), (uN : Int), A)) :
    ∃ q, ∃ hq : q < (touL T.futures (uN : Int)).length, (touL T.futures (uN : Int))[q] = a ∧ ed (lowE T) (lasN T.futures mN) (firN T.futures uN + (q + 1)) := by
  have hmem : a ∈ touL T.futures (uN : Int) := by
    have := fut_mem hM.parts hM.futures ha
    rwa [hf] at this
  have hed := fut_ed ha
  rw [beg_eq hf, hf] at hed
  exact ⟨_, List.idxOf_lt_length_iff.mpr hmem, List.getElem_idxOf _, by simpa only [Int.toNat_natCast] using hed⟩
theorem ends_at7 {T : Task} {uN j : Nat} (hj : j < (touL T.futures (uN : Int)).length) : (endsL T.futures T.parts uN)[j]? = some (futAt T.futures ((touL T.futures (uN : Int))[j])).2.2 := by
  unfold endsL
  rw [List.getElem?_append_left (by rw [List.length_map]; omega), List.getElem?_map, List.getElem?_eq_getElem hj]
  rfl
theorem fut_parts {T : Task} (hM : MayT T) {a mN uN : Nat} {A : Int} (ha : a < T.futures.length) (hf : futAt T.futures a = ((mN : Int), (uN : Int), A)) : mN < T.parts.length ∧ uN < T.parts.length ∧ 1 ≤ A := by
  have hfm := hM.futures.each (futAt T.futures a) (futAt_mem ha)
  rw [hf] at hfm
  have h1 := hfm.user.2
  have h2 := hfm.maker.2
  have h3 := hfm.first
  simp only at h1 h2 h3
  omega
end Go.Proofs.YtkmajhbfmdoamaaGreatDoor
