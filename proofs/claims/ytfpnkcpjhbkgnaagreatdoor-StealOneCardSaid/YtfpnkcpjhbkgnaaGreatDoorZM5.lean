import Derived.Test.YtfpnkcpjhbkgnaaGreatDoorZM2
import Derived.Test.YtfpnkcpjhbkgnaaGreatDoorZM1
import Derived.Test.YtfpnkcpjhbkgnaaGreatDoorZM3
import Derived.Test.YtfpnkcpjhbkgnaaGreatDoorZM4
set_option linter.unusedSimpArgs false
set_option linter.unusedVariables false
namespace Go.Proofs.YtfpnkcpjhbkgnaaGreatDoor
def ranT (t: List (List Int)) (x: Int) (k: Nat): Nat:=(t.take k).flatten.count x
def rowT (t: List (List Int)) (i: Nat): List Int:=t.getD i []
def numT (t: List (List Int)) (i c: Nat): Int:=(rowT t i).getD c (-1)
def needT (need: List Int) (x: Int): Int:=need.getD x.toNat 0
theorem rowT_at {t: List (List Int)} {i: Nat} {r: List Int} (h: t[i]? = some r): rowT t i = r:=by unfold rowT; rw [List.getD_eq_getElem?_getD,h]; rfl
theorem rowT_out {t: List (List Int)} {i: Nat} (h: t.length <= i): rowT t i = []:=by unfold rowT; rw [List.getD_eq_getElem?_getD,List.getElem?_eq_none h]; rfl
theorem numT_at {t: List (List Int)} {i c: Nat} {r: List Int} {x: Int} (h: t[i]? = some r) (hx: r[c]? = some x): numT t i c = x:=by unfold numT; rw [rowT_at h,List.getD_eq_getElem?_getD,hx]; rfl
theorem rowT_mem {t: List (List Int)} {i: Nat} (h: i < t.length): rowT t i ∈ t:=by
 rw [rowT_at (List.getElem?_eq_getElem h)]
 exact List.getElem_mem h
theorem take_row {t: List (List Int)} {k: Nat} (h: k < t.length): t.take (k + 1) = t.take k ++ [rowT t k]:=by
 rw [List.take_add_one,List.getElem?_eq_getElem h,rowT_at (List.getElem?_eq_getElem h)]; rfl
theorem ranT_zero (t: List (List Int)) (x: Int): ranT t x 0 = 0:=by simp [ranT]
theorem ranT_succ {t: List (List Int)} {k: Nat} (x: Int) (h: k < t.length): ranT t x (k + 1) = ranT t x k + (rowT t k).count x:=by
 unfold ranT
 rw [take_row h,List.flatten_append,List.count_append]
 simp
theorem ranT_over {t: List (List Int)} {k: Nat} (x: Int) (h: t.length <= k): ranT t x k = ranT t x t.length:=by
 unfold ranT; rw [List.take_of_length_le h,List.take_length]
theorem ranT_step (t: List (List Int)) (x: Int) (k: Nat): ranT t x (k + 1) = ranT t x k + (rowT t k).count x:=by
 rcases Nat.lt_or_ge k t.length with h | h
 ·exact ranT_succ x h
 ·rw [ranT_over x (by omega),ranT_over x h,rowT_out h]; simp
theorem ranT_mono (t : List (List Int)) (x : Int) {j k : Nat} (h : j <= k) : ranT t x j <= ranT t x k := by
  induction k with
  | zero => obtain rfl : j = 0 := by omega
            exact Nat.le_refl _
  | succ k ih =>
    rcases Nat.lt_or_ge j (k + 1) with hj | hj
    · have := ih (by omega)
      rw [ranT_step]; omega
    · obtain rfl : j = k + 1 := by omega
      exact Nat.le_refl _
theorem ranT_take (t: List (List Int)) (x: Int) (a k: Nat) (h: k <= a): ranT (t.take a) x k = ranT t x k:=by
 unfold ranT; rw [List.take_take,Nat.min_eq_left h]
theorem rowT_take (t: List (List Int)) (a i: Nat) (h: i < a): rowT (t.take a) i = rowT t i:=by
 unfold rowT; rw [List.getD_eq_getElem?_getD,List.getD_eq_getElem?_getD,List.getElem?_take,if_pos h]
def FreeT (E: List (Int × Int)) (need: List Int) (t: List (List Int)) (x: Int) (k: Nat): Prop:=∀ e ∈ E,e.2 = x -> needT need e.1 <= ranT t e.1 k
instance (E: List (Int × Int)) (need: List Int) (t: List (List Int)) (x: Int) (k: Nat): Decidable (FreeT E need t x k):=by unfold FreeT; infer_instance
def oneV (E: List (Int × Int)) (need: List Int) (t: List (List Int)) (i c: Nat): Int :=
 if numT t i c = -1 then 0
 else if numT t i c < 0 \/ (need.length: Int) <= numT t i c then 101
 else if numT t i c ∈ (rowT t i).take c then 102
 else if needT need (numT t i c) <= ranT t (numT t i c) i then 105
 else if 0 < ranT t (numT t i c) i /\ numT t (i - 1) c ≠ numT t i c then 104
 else if ranT t (numT t i c) i = 0 /\ ¬ FreeT E need t (numT t i c) i then 103
 else 0
def firstV (f: Nat -> Int): Nat -> Int
 | 0 => 0
 | k + 1 => if firstV f k = 0 then f k else firstV f k
theorem firstV_stay {f : Nat -> Int} {k : Nat} (h : firstV f k ≠ 0) : ∀ d, firstV f (k + d) = firstV f k
  | 0 => rfl
  | d + 1 => by
    show (if firstV f (k + d) = 0 then f (k + d) else firstV f (k + d)) = _
    rw [firstV_stay h d, if_neg h]
theorem firstV_hit {f: Nat -> Int} {k n: Nat} (h0: firstV f k = 0) (h: f k ≠ 0) (hn: k < n): firstV f n = f k:=by
 have h1: firstV f (k + 1) = f k:=by show (if firstV f k = 0 then f k else firstV f k) = _; rw [if_pos h0]
 have h2:=firstV_stay (f:=f) (k:=k + 1) (by rw [h1]; exact h) (n - (k + 1))
 rw [show k + 1 + (n - (k + 1)) = n by omega] at h2
 rw [h2,h1]
theorem firstV_next {f: Nat -> Int} {k: Nat} (h0: firstV f k = 0) (h: f k = 0): firstV f (k + 1) = 0:=by
 show (if firstV f k = 0 then f k else firstV f k) = 0; rw [if_pos h0,h]
theorem firstV_zero {f : Nat -> Int} {n : Nat} : firstV f n = 0 ↔ ∀ k, k < n -> f k = 0 := by
  induction n with
  | zero => exact ⟨fun _ k hk => absurd hk (by omega), fun _ => rfl⟩
  | succ n ih =>
    constructor
    · intro h k hk
      have h' : (if firstV f n = 0 then f n else firstV f n) = 0 := h
      by_cases h0 : firstV f n = 0
      · rw [if_pos h0] at h'
        rcases Nat.lt_or_ge k n with h1 | h1
        · exact ih.mp h0 k h1
        · rw [show k = n by omega]; exact h'
      · rw [if_neg h0] at h'; exact absurd h' h0
    · intro h
      exact firstV_next (ih.mpr fun k hk => h k (by omega)) (h n (by omega))
def tickV (E: List (Int × Int)) (need: List Int) (cores: Nat) (t: List (List Int)) (i: Nat): Int:=firstV (oneV E need t i) cores
def faultV (E: List (Int × Int)) (need: List Int) (cores: Nat) (t: List (List Int)): Int:=firstV (tickV E need cores t) t.length
structure Good (E: List (Int × Int)) (need: List Int) (cores: Nat) (t: List (List Int)): Prop where
 rows: ∀ r ∈ t,r.length = cores
 one: ∀ i,i < t.length -> ∀ c,c < cores -> oneV E need t i c = 0
theorem good_iff {E: List (Int × Int)} {need: List Int} {cores: Nat} {t: List (List Int)} (h: ∀ r ∈ t,r.length = cores): Good E need cores t ↔ faultV E need cores t = 0:=by
 unfold faultV
 rw [firstV_zero]
 constructor
 ·intro g i hi
  exact firstV_zero.mpr (g.one i hi)
 ·intro k
  exact ⟨h,fun i hi => firstV_zero.mp (k i hi)⟩
section
variable {E: List (Int × Int)} {need: List Int} {cores: Nat} {t: List (List Int)}
theorem oneV_zero {i c: Nat} (h: oneV E need t i c = 0): numT t i c = -1 \/ ((0 <= numT t i c /\ numT t i c < need.length) /\ numT t i c ∉ (rowT t i).take c /\ (ranT t (numT t i c) i: Int) < needT need (numT t i c) /\
  (0 < ranT t (numT t i c) i -> numT t (i - 1) c = numT t i c) /\ (ranT t (numT t i c) i = 0 -> FreeT E need t (numT t i c) i)):=by
 unfold oneV at h
 by_cases h1: numT t i c = -1
 ·exact .inl h1
 rw [if_neg h1] at h
 by_cases h2: numT t i c < 0 \/ (need.length: Int) <= numT t i c
 ·rw [if_pos h2] at h; exact absurd h (by decide)
 rw [if_neg h2] at h
 by_cases h3: numT t i c ∈ (rowT t i).take c
 ·rw [if_pos h3] at h; exact absurd h (by decide)
 rw [if_neg h3] at h
 by_cases h4: needT need (numT t i c) <= ranT t (numT t i c) i
 ·rw [if_pos h4] at h; exact absurd h (by decide)
 rw [if_neg h4] at h
 by_cases h5: 0 < ranT t (numT t i c) i /\ numT t (i - 1) c ≠ numT t i c
 ·rw [if_pos h5] at h; exact absurd h (by decide)
 rw [if_neg h5] at h
 by_cases h6: ranT t (numT t i c) i = 0 /\ ¬ FreeT E need t (numT t i c) i
 ·rw [if_pos h6] at h; exact absurd h (by decide)
 refine .inr ⟨⟨by omega,by omega⟩,h3,by omega,fun k => ?_,fun k => ?_⟩
 ·exact Classical.byContradiction fun q => h5 ⟨k,q⟩
 ·exact Classical.byContradiction fun q => h6 ⟨k,q⟩
theorem oneV_take (a i c: Nat) (h: i < a): oneV E need (t.take a) i c = oneV E need t i c:=by
 have h1: rowT (t.take a) i = rowT t i:=rowT_take t a i h
 have h2: rowT (t.take a) (i - 1) = rowT t (i - 1):=rowT_take t a (i - 1) (by omega)
 have h3: ∀ x,ranT (t.take a) x i = ranT t x i:=fun x => ranT_take t x a i (by omega)
 unfold oneV numT FreeT
 simp only [h1,h2,h3]
theorem Good.take (G: Good E need cores t) (a: Nat): Good E need cores (t.take a) :=
 ⟨fun r hr => G.rows r (List.mem_of_mem_take hr),fun i hi c hc => by
  rw [List.length_take] at hi
  rw [oneV_take a i c (by omega)]
  exact G.one i (by omega) c hc⟩
theorem Good.len (G: Good E need cores t) {i: Nat} (h: i < t.length): (rowT t i).length = cores:=G.rows _ (rowT_mem h)
theorem Good.at_ (G: Good E need cores t) {i c: Nat} (hi: i < t.length) (hc: c < cores) (x: Int) (hx: numT t i c = x) (h1: x ≠ -1) :
  (0 <= x /\ x < need.length) /\ x ∉ (rowT t i).take c /\ (ranT t x i: Int) < needT need x /\ (0 < ranT t x i -> numT t (i - 1) c = x) /\ (ranT t x i = 0 -> FreeT E need t x i):=by
 subst hx
 rcases oneV_zero (G.one i hi c hc) with h | h
 ·exact absurd h h1
 ·exact h
theorem mem_num {i: Nat} {x: Int} (h: x ∈ rowT t i): ∃ c,c < (rowT t i).length /\ numT t i c = x:=by
 obtain ⟨c,hc,he⟩:=List.getElem_of_mem h
 refine ⟨c,hc,?_⟩
 unfold numT
 rw [List.getD_eq_getElem?_getD,List.getElem?_eq_getElem hc]
 exact he
theorem num_mem {i c: Nat} (h: c < (rowT t i).length): numT t i c ∈ rowT t i:=by
 unfold numT
 rw [List.getD_eq_getElem?_getD,List.getElem?_eq_getElem h]
 exact List.getElem_mem h
theorem count_take_succ {l: List Int} {k: Nat} (h: k < l.length) (x: Int): (l.take (k + 1)).count x = (l.take k).count x + if l.getD k (-1) = x then 1 else 0:=by
 rw [List.take_add_one,List.getElem?_eq_getElem h,List.getD_eq_getElem?_getD,List.getElem?_eq_getElem h]
 simp only [Option.toList_some,Option.getD_some,List.count_append,List.count_singleton,beq_iff_eq]
theorem Good.count (G : Good E need cores t) {i : Nat} (hi : i < t.length) (x : Int) (h1 : x ≠ -1) : (rowT t i).count x <= 1 := by
  have hl := G.len hi
  have key : ∀ k, k <= cores -> ((rowT t i).take k).count x <= 1 := by
    intro k
    induction k with
    | zero => intro _; simp
    | succ k ih =>
      intro hk
      rw [count_take_succ (by omega)]
      by_cases hx : (rowT t i).getD k (-1) = x
      · rw [if_pos hx]
        have h2 := (G.at_ hi (by omega : k < cores) x hx h1).2.1
        rw [List.count_eq_zero.mpr h2]
        omega
      · rw [if_neg hx]
        exact ih (by omega)
  have := key cores (Nat.le_refl _)
  rwa [List.take_of_length_le (by omega)] at this
theorem Good.mem (G: Good E need cores t) {i: Nat} (hi: i < t.length) {x: Int} (hx: x ∈ rowT t i): x = -1 \/ (0 <= x /\ x < need.length):=by
 obtain ⟨c,hc,he⟩:=mem_num hx
 by_cases h1: x = -1
 ·exact .inl h1
 ·exact .inr (G.at_ hi (by rw [G.len hi] at hc; exact hc) x he h1).1
theorem Good.ran_le (G : Good E need cores t) (hn : ∀ z ∈ need, 1 <= z) {x : Int} (h0 : 0 <= x) (hx : x < need.length) : ∀ k, (ranT t x k : Int) <= needT need x := by
  intro k
  induction k with
  | zero =>
    rw [ranT_zero]
    have h2 : x.toNat < need.length := by omega
    have := hn need[x.toNat] (List.getElem_mem h2)
    unfold needT
    rw [List.getD_eq_getElem?_getD, List.getElem?_eq_getElem h2]
    simp; omega
  | succ k ih =>
    rcases Nat.lt_or_ge k t.length with hk | hk
    · rw [ranT_step]
      by_cases hm : x ∈ rowT t k
      · obtain ⟨c, hc, he⟩ := mem_num hm
        have h1 := (G.at_ hk (by rw [G.len hk] at hc; exact hc) x he (by omega)).2.2.1
        have h2 := G.count hk x (by omega)
        omega
      · rw [List.count_eq_zero.mpr hm]
        omega
    · rw [ranT_over x (by omega), <- ranT_over x hk]
      exact ih
def RunT (t: List (List Int)) (cores: Nat) (x: Int) (k s m c: Nat): Prop:=0 < m /\ s + m <= k /\ c < cores /\ ranT t x k = m /\ ∀ i,i < k -> ∀ d,d < cores -> (numT t i d = x ↔ (s <= i /\ i < s + m) /\ d = c)
theorem Good.run (G : Good E need cores t) (x : Int) (h1 : x ≠ -1) : ∀ k, k <= t.length -> ranT t x k = 0 \/ ∃ s m c, RunT t cores x k s m c := by
  intro k
  induction k with
  | zero => exact fun _ => .inl (ranT_zero t x)
  | succ k ih =>
    intro hk
    have hkt : k < t.length := by omega
    have hl := G.len hkt
    by_cases hm : x ∈ rowT t k
    · obtain ⟨c, hc, he⟩ := mem_num hm
      rw [hl] at hc
      have ha := G.at_ hkt hc x he h1
      have hcount : (rowT t k).count x = 1 := by
        have := G.count hkt x h1
        have := List.count_pos_iff.mpr hm
        omega
      have huniq : ∀ d, d < cores -> numT t k d = x -> d = c := by
        intro d hd hdx
        have hb := G.at_ hkt hd x hdx h1
        have part : ∀ a b, a < b -> b < cores -> numT t k a = x -> x ∉ (rowT t k).take b -> False := by
          intro a b hab hb hax hn
          refine hn ?_
          rw [<- hax]
          unfold numT
          rw [List.getD_eq_getElem?_getD, List.getElem?_eq_getElem (by omega : a < (rowT t k).length)]
          rw [List.mem_iff_getElem?]
          refine ⟨a, ?_⟩
          rw [List.getElem?_take, if_pos hab, List.getElem?_eq_getElem (by omega : a < (rowT t k).length)]
          rfl
        rcases Nat.lt_trichotomy d c with h | h | h
        · exact (part d c h hc hdx ha.2.1).elim
        · exact h
        · exact (part c d h hd he hb.2.1).elim
      have hs := ranT_step t x k
      right
      rcases ih (by omega) with h0 | ⟨s, m, c', hm0, hsm, hc', hr, hiff⟩
      · refine ⟨k, 1, c, by omega, by omega, hc, by omega, fun i hi d hd => ?_⟩
        rcases Nat.lt_or_ge i k with hik | hik
        · constructor
          · intro hx
            exfalso
            have h2 : x ∈ rowT t i := by rw [<- hx]; exact num_mem (by rw [G.len (by omega)]; exact hd)
            have h3 := ranT_step t x i
            have h4 := List.count_pos_iff.mpr h2
            have h5 := ranT_mono t x (show i + 1 <= k by omega)
            omega
          · intro h; omega
        · obtain rfl : i = k := by omega
          constructor
          · intro hx
            exact ⟨by omega, huniq d hd hx⟩
          · rintro ⟨_, rfl⟩
            exact he
      · have h2 := ha.2.2.2.1 (by omega)
        have hk1 : k - 1 < k := by omega
        have h3 := (hiff (k - 1) hk1 c hc).mp h2
        obtain rfl : c = c' := h3.2
        refine ⟨s, m + 1, c, by omega, by omega, hc, by omega, fun i hi d hd => ?_⟩
        rcases Nat.lt_or_ge i k with hik | hik
        · rw [hiff i hik d hd]
          constructor
          · intro h; exact ⟨by omega, h.2⟩
          · intro h; exact ⟨by omega, h.2⟩
        · obtain rfl : i = k := by omega
          constructor
          · intro hx
            exact ⟨by omega, huniq d hd hx⟩
          · rintro ⟨_, rfl⟩
            exact he
    · have hs := ranT_step t x k
      rw [List.count_eq_zero.mpr hm] at hs
      have hno : ∀ d, d < cores -> numT t k d ≠ x := fun d hd h => hm (by rw [<- h]; exact num_mem (by omega))
      rcases ih (by omega) with h0 | ⟨s, m, c', hm0, hsm, hc', hr, hiff⟩
      · exact .inl (by omega)
      · refine .inr ⟨s, m, c', hm0, by omega, hc', by omega, fun i hi d hd => ?_⟩
        rcases Nat.lt_or_ge i k with hik | hik
        · exact hiff i hik d hd
        · obtain rfl : i = k := by omega
          constructor
          · intro hx; exact absurd hx (hno d hd)
          · intro h; omega
theorem RunT.ran (G : Good E need cores t) {x : Int} (h1 : x ≠ -1) {k s m c : Nat} (hk : k <= t.length) (h : RunT t cores x k s m c) : ∀ j, j <= k -> ranT t x j = min (j - s) m := by
  obtain ⟨hm, hsm, hc, hr, hiff⟩ := h
  intro j
  induction j with
  | zero => intro _; rw [ranT_zero]; omega
  | succ j ih =>
    intro hj
    have ih := ih (by omega)
    rw [ranT_step, ih]
    have hl := G.len (show j < t.length by omega)
    by_cases hx : x ∈ rowT t j
    · obtain ⟨d, hd, he⟩ := mem_num hx
      have h2 := (hiff j (by omega) d (by omega)).mp he
      have := G.count (show j < t.length by omega) x h1
      have := List.count_pos_iff.mpr hx
      omega
    · rw [List.count_eq_zero.mpr hx]
      have h2 : ¬ (s <= j /\ j < s + m) := fun h => hx (by rw [<- (hiff j (by omega) c hc).mpr ⟨h, rfl⟩]; exact num_mem (by omega))
      omega
end
def endV (need: List Int) (t: List (List Int)) (x: Int): Int :=
 match (List.range (t.length + 1)).find? (fun k => decide (needT need x <= ranT t x k)) with
 | some k => k
 | none => -1
def GreedyT (E: List (Int × Int)) (need: List Int) (t: List (List Int)): Prop :=
 ∀ i,i < t.length -> (-1) ∈ rowT t i -> ∀ n,n < need.length -> ranT t (n: Int) i = 0 -> (n: Int) ∉ rowT t i -> ¬ FreeT E need t (n: Int) i
section
variable {E: List (Int × Int)} {need: List Int} {cores: Nat} {t: List (List Int)}
theorem find_least {p: Nat -> Bool} {k n: Nat} (hk: p k = true) (hn: k < n) (h: ∀ j,j < k -> p j = false): (List.range n).find? p = some k:=by
 rw [List.find?_eq_some_iff_getElem]
 refine ⟨hk,k,by simpa using hn,by simp,fun j hj => ?_⟩
 simp [h j hj]
theorem endV_some {x: Int} {k: Nat} (hk: k <= t.length) (h: needT need x <= ranT t x k) (hl: ∀ j,j < k -> (ranT t x j: Int) < needT need x): endV need t x = k:=by
 unfold endV
 rw [find_least (k:=k) (by simpa using h) (by omega) (fun j hj => by simpa using hl j hj)]
theorem endV_none {x: Int} (h: (ranT t x t.length: Int) < needT need x): endV need t x = -1:=by
 unfold endV
 have: (List.range (t.length + 1)).find? (fun k => decide (needT need x <= ranT t x k)) = none:=by
  rw [List.find?_eq_none]
  intro k hk
  have hk': k <= t.length:=by simp at hk; omega
  have:=ranT_mono t x hk'
  simp; omega
 rw [this]
theorem endV_cases (x : Int) : (endV need t x = -1 /\ (ranT t x t.length : Int) < needT need x) \/ ∃ k : Nat, endV need t x = k /\ k <= t.length /\ needT need x <= ranT t x k /\ ∀ j, j < k -> (ranT t x j : Int) < needT need x := by
  rcases Int.lt_or_le (ranT t x t.length) (needT need x) with h | h
  · exact .inl ⟨endV_none h, h⟩
  · right
    have hex : ∃ k, needT need x <= ranT t x k := ⟨t.length, h⟩
    have key : ∀ n : Nat, needT need x <= ranT t x n -> ∃ k, k <= n /\ needT need x <= ranT t x k /\ ∀ j, j < k -> (ranT t x j : Int) < needT need x := by
      intro n
      induction n with
      | zero => exact fun h0 => ⟨0, Nat.le_refl _, h0, fun j hj => by omega⟩
      | succ n ih =>
        intro h0
        by_cases h1 : needT need x <= ranT t x n
        · obtain ⟨k, hk, h2, h3⟩ := ih h1
          exact ⟨k, by omega, h2, h3⟩
        · refine ⟨n + 1, Nat.le_refl _, h0, fun j hj => ?_⟩
          have := ranT_mono t x (show j <= n by omega)
          omega
    obtain ⟨k, hk, h2, h3⟩ := key t.length h
    exact ⟨k, endV_some hk h2 h3, hk, h2, h3⟩
theorem needT_pos (hn: ∀ z ∈ need,1 <= z) {x: Int} (h0: 0 <= x) (hx: x < need.length): 1 <= needT need x:=by
 have h2: x.toNat < need.length:=by omega
 have:=hn need[x.toNat] (List.getElem_mem h2)
 unfold needT
 rw [List.getD_eq_getElem?_getD,List.getElem?_eq_getElem h2]
 simpa using this
theorem needT_nat {n: Nat}: needT need (n: Int) = need.getD n 0:=by unfold needT; rw [Int.toNat_natCast]
theorem Good.done (G: Good E need cores t) (hn: ∀ z ∈ need,1 <= z) {x: Int} (h0: 0 <= x) (hx: x < need.length) (hd: 0 <= endV need t x) :
  ∃ s m c,RunT t cores x t.length s m c /\ (m: Int) = needT need x /\ endV need t x = ((s + m: Nat): Int):=by
 rcases endV_cases (need:=need) (t:=t) x with ⟨h,_⟩ | ⟨k,hk,hkl,h1,h2⟩
 ·omega
 have hp:=needT_pos hn h0 hx
 have hle:=G.ran_le hn h0 hx
 rcases G.run x (by omega) t.length (Nat.le_refl _) with h3 | ⟨s,m,c,hr⟩
 ·have:=ranT_mono t x hkl
  omega
 ·have hran:=hr.ran G (by omega) (Nat.le_refl _)
  have hm: (m: Int) = needT need x:=by
   have e1:=hr.2.2.2.1
   have:=ranT_mono t x hkl
   have:=hle t.length
   omega
  refine ⟨s,m,c,hr,hm,?_⟩
  have:=hr.2.1
  refine endV_some this ?_ (fun j hj => ?_)
  ·rw [hran _ this]; omega
  ·rw [hran _ (by omega)]; have:=hr.1; omega
theorem endV_lt {x: Int} {k: Nat} (h: needT need x <= ranT t x k): 0 <= endV need t x /\ endV need t x <= k:=by
 rcases endV_cases (need:=need) (t:=t) x with ⟨_,h2⟩ | ⟨j,hk,h1,h2,h3⟩
 ·exfalso
  rcases Nat.lt_or_ge k t.length with hk | hk
  ·have:=ranT_mono t x (Nat.le_of_lt hk); omega
  ·rw [ranT_over x hk] at h; omega
 ·rw [hk]
  refine ⟨by omega,?_⟩
  rcases Nat.lt_or_ge k j with h4 | h4
  ·have:=h3 k h4; omega
  ·omega
theorem le_endV {x: Int} {k: Nat} (h: (ranT t x k: Int) < needT need x) (hd: 0 <= endV need t x): (k: Int) < endV need t x:=by
 rcases endV_cases (need:=need) (t:=t) x with ⟨h1,_⟩ | ⟨j,hk,h1,h2,h3⟩
 ·omega
 ·rw [hk]
  rcases Nat.lt_or_ge k j with h4 | h4
  ·omega
  ·have:=ranT_mono t x h4; omega
theorem Good.began (G: Good E need cores t) {x: Int} (h1: x ≠ -1) {k s m c: Nat} (hk: k <= t.length) (h: RunT t cores x k s m c): FreeT E need t x s:=by
 have hran:=h.ran G h1 hk
 obtain ⟨hm,hsm,hc,hr,hiff⟩:=h
 have hx:=(hiff s (by omega) c hc).mpr ⟨⟨by omega,by omega⟩,rfl⟩
 exact (G.at_ (by omega) hc x hx h1).2.2.2.2 (by rw [hran s (by omega)]; omega)
def sumN (f: Nat -> Nat): Nat -> Nat
 | 0 => 0
 | n + 1 => sumN f n + f n
theorem sumN_add (f g : Nat -> Nat) : ∀ n, sumN (fun x => f x + g x) n = sumN f n + sumN g n
  | 0 => rfl
  | n + 1 => by
    show sumN (fun x => f x + g x) n + (f n + g n) = (sumN f n + f n) + (sumN g n + g n)
    rw [sumN_add f g n]; omega
theorem sumN_congr {f g : Nat -> Nat} : ∀ {n}, (∀ k, k < n -> f k = g k) -> sumN f n = sumN g n
  | 0, _ => rfl
  | n + 1, h => by
    show sumN f n + f n = sumN g n + g n
    rw [sumN_congr fun k hk => h k (by omega), h n (by omega)]
theorem sumN_zero: ∀ n,sumN (fun _ => 0) n = 0
 | 0 => rfl
 | n + 1 => by show sumN _ n + 0 = 0; rw [sumN_zero n]
theorem sumN_le {f g : Nat -> Nat} : ∀ {n}, (∀ k, k < n -> f k <= g k) -> sumN f n <= sumN g n
  | 0, _ => Nat.le_refl _
  | n + 1, h => by
    show sumN f n + f n <= sumN g n + g n
    have := sumN_le (f := f) (g := g) (n := n) fun k hk => h k (by omega)
    have := h n (by omega)
    omega
theorem sumN_eq {f g : Nat -> Nat} : ∀ {n}, (∀ k, k < n -> f k <= g k) -> sumN f n = sumN g n -> ∀ k, k < n -> f k = g k
  | 0, _, _, k, hk => absurd hk (by omega)
  | n + 1, h, e, k, hk => by
    have e' : sumN f n + f n = sumN g n + g n := e
    have h1 := sumN_le (f := f) (g := g) (n := n) fun k hk => h k (by omega)
    have h2 := h n (by omega)
    rcases Nat.lt_or_ge k n with h3 | h3
    · exact sumN_eq (fun k hk => h k (by omega)) (by omega) k h3
    · rw [show k = n by omega]; omega
theorem sumN_one (a : Int) : ∀ n, sumN (fun x => if a = (x : Int) then 1 else 0) n = if 0 <= a /\ a < (n : Int) then 1 else 0
  | 0 => by
    show 0 = _
    rw [if_neg (by omega)]
  | n + 1 => by
    show sumN _ n + (if a = (n : Int) then 1 else 0) = _
    rw [sumN_one a n]
    by_cases h : a = (n : Int)
    · rw [if_pos h, if_neg (by omega), if_pos (by omega)]
    · rw [if_neg h]
      by_cases h2 : 0 <= a /\ a < (n : Int)
      · rw [if_pos h2, if_pos (by omega)]
      · rw [if_neg h2, if_neg (by omega)]
theorem count_all (n : Nat) : ∀ l : List Int, (∀ x ∈ l, x = -1 \/ (0 <= x /\ x < n)) -> l.length = l.count (-1) + sumN (fun x => l.count (x : Int)) n
  | [], _ => by simp [sumN_zero]
  | a :: l, h => by
    have ih := count_all n l fun x hx => h x (List.mem_cons_of_mem _ hx)
    have hs : sumN (fun x => (a :: l).count (x : Int)) n = sumN (fun x => l.count (x : Int)) n + if 0 <= a /\ a < (n : Int) then 1 else 0 := by
      rw [<- sumN_one a n, <- sumN_add]
      refine sumN_congr fun k _ => ?_
      rw [List.count_cons]
      simp only [beq_iff_eq]
    rw [hs, List.length_cons, List.count_cons]
    rcases h a (by simp) with rfl | h1
    · have e : ¬ (0 <= (-1 : Int) /\ (-1 : Int) < (n : Int)) := by omega
      rw [if_neg e]; simp; omega
    · rw [if_pos h1]
      have : ¬ (a == -1) = true := by simp; omega
      rw [if_neg this]; omega
def idleT (t: List (List Int)) (k: Nat): Nat:=ranT t (-1) k
theorem flat_len (h : ∀ r ∈ t, r.length = cores) : ∀ k, k <= t.length -> (t.take k).flatten.length = cores * k
  | 0, _ => by simp
  | k + 1, hk => by
    rw [take_row (by omega), List.flatten_append, List.length_append, flat_len h k (by omega)]
    have := h _ (rowT_mem (show k < t.length by omega))
    simp [this, Nat.mul_succ]
theorem Good.flat (G: Good E need cores t) (k: Nat): ∀ x ∈ (t.take k).flatten,x = -1 \/ (0 <= x /\ x < (need.length: Int)):=by
 intro x hx
 rw [List.mem_flatten] at hx
 obtain ⟨r,hr,hx⟩:=hx
 obtain ⟨i,hi,he⟩:=List.getElem_of_mem (List.mem_of_mem_take hr)
 refine G.mem (i:=i) hi ?_
 rw [rowT_at (List.getElem?_eq_getElem hi),he]
 exact hx
theorem Good.all (G: Good E need cores t) {k: Nat} (hk: k <= t.length): cores * k = idleT t k + sumN (fun x => ranT t (x: Int) k) need.length:=by
 rw [<- flat_len G.rows k hk,count_all need.length _ (G.flat k)]
 rfl
theorem sumN_need : ∀ (l : List Int), (∀ z ∈ l, 0 <= z) -> (sumN (fun x => (l.getD x 0).toNat) l.length : Int) = l.sum := by
  intro l hl
  have key : ∀ k, k <= l.length -> (sumN (fun x => (l.getD x 0).toNat) k : Int) = (l.take k).sum := by
    intro k
    induction k with
    | zero => intro _; simp [sumN]
    | succ k ih =>
      intro hk
      have h2 : k < l.length := by omega
      have h1 := hl l[k] (List.getElem_mem h2)
      show ((sumN _ k + (l.getD k 0).toNat : Nat) : Int) = _
      rw [Int.natCast_add, ih (by omega), List.take_add_one, List.sum_append, List.getD_eq_getElem?_getD, List.getElem?_eq_getElem h2]
      simp; omega
  have := key l.length (Nat.le_refl _)
  rwa [List.take_length] at this
theorem Good.busy_le (G: Good E need cores t) (hn: ∀ z ∈ need,1 <= z) (k: Nat): (sumN (fun x => ranT t (x: Int) k) need.length: Int) <= need.sum:=by
 rw [<- sumN_need need (fun z hz => by have:=hn z hz; omega)]
 have:=sumN_le (f:=fun x => ranT t (x: Int) k) (g:=fun x => (need.getD x 0).toNat) (n:=need.length) fun j hj => by
  have:=G.ran_le hn (x:=(j: Int)) (by omega) (by omega) k
  rw [needT_nat] at this
  omega
 omega
theorem row_idle {i: Nat} {x: Int} (h: x ∈ rowT t i) (h1: x ≠ -1): (rowT t i).count (-1) + 1 <= (rowT t i).length:=by
 have h2:=List.count_le_length (a:=(-1: Int)) (l:=(rowT t i).erase x)
 rw [List.length_erase_of_mem h,List.count_erase_of_ne (by omega)] at h2
 have:=List.length_pos_of_mem h
 omega
theorem idle_run (G : Good E need cores t) {x : Int} (h1 : x ≠ -1) {s m c : Nat} (h : RunT t cores x t.length s m c) : ∀ j, j <= m -> (idleT t (s + j) : Int) <= idleT t s + ((cores : Int) - 1) * j := by
  intro j
  induction j with
  | zero => intro _; simp
  | succ j ih =>
    intro hj
    have ih := ih (by omega)
    have h2 := (h.2.2.2.2 (s + j) (by have := h.2.1; omega) c h.2.2.1).mpr ⟨⟨by omega, by omega⟩, rfl⟩
    have hlt : s + j < t.length := by have := h.2.1; omega
    have hm : x ∈ rowT t (s + j) := by rw [<- h2]; exact num_mem (by rw [G.len hlt]; exact h.2.2.1)
    have h3 := row_idle hm h1
    rw [G.len hlt] at h3
    unfold idleT at *
    rw [show s + (j + 1) = (s + j) + 1 by omega, ranT_step]
    have : ((cores : Int) - 1) * ((j + 1 : Nat) : Int) = ((cores : Int) - 1) * j + ((cores : Int) - 1) := by
      rw [Int.natCast_add, Int.mul_add]; simp
    rw [this]
    omega
theorem wsum_cons (W: List Int) (a: Nat) (r: List Nat): wsum W (a :: r) = W.getD a 0 + wsum W r:=by unfold wsum; simp
theorem chain (G : Good E need cores t) (hg : GreedyT E need t) (hF : Fits need.length E) (hn : ∀ z ∈ need, 1 <= z) (hd : ∀ n, n < need.length -> 0 <= endV need t (n : Int)) (h1 : 1 <= cores) :
    ∀ (e n : Nat), n < need.length -> endV need t (n : Int) = e -> ∃ r, Up E (n :: r) /\ In need.length (n :: r) /\ (idleT t e : Int) <= ((cores : Int) - 1) * wsum need (n :: r) := by
  intro e
  induction e using Nat.strongRecOn with
  | _ e ih =>
    intro n hnl he
    obtain ⟨s, m, c, hr, hm, hsm⟩ := G.done hn (x := (n : Int)) (by omega) (by omega) (hd n hnl)
    have hsm' : e = s + m := by omega
    have hm0 := hr.1
    have hfree := G.began (x := (n : Int)) (by omega) (Nat.le_refl _) hr
    have hran := hr.ran G (by omega) (Nat.le_refl _)
    have hrun := idle_run G (x := (n : Int)) (by omega) hr m (Nat.le_refl _)
    rw [needT_nat] at hm
    have ahead : ∀ k, k <= s -> idleT t k = 0 \/ ∃ p r, ed E p n /\ p < need.length /\ Up E (p :: r) /\ In need.length (p :: r) /\ (idleT t k : Int) <= ((cores : Int) - 1) * wsum need (p :: r) := by
      intro k
      induction k with
      | zero => exact fun _ => .inl (ranT_zero t (-1))
      | succ k ihk =>
        intro hk
        have hkt : k < t.length := by have := hr.2.1; omega
        by_cases hm1 : (-1 : Int) ∈ rowT t k
        · have hnot : (n : Int) ∉ rowT t k := by
            intro hmem
            have h2 := ranT_step t (n : Int) k
            have := List.count_pos_iff.mpr hmem
            rw [hran (k + 1) (by omega)] at h2
            omega
          have h3 := hg k hkt hm1 n hnl (by rw [hran k (by omega)]; omega) hnot
          have h4 : ∃ e ∈ E, e.2 = (n : Int) /\ (ranT t e.1 k : Int) < needT need e.1 := by
            apply Classical.byContradiction
            intro hno
            refine h3 fun e he h5 => ?_
            apply Classical.byContradiction
            intro h6
            exact hno ⟨e, he, h5, by omega⟩
          obtain ⟨⟨a, b⟩, heE, hb, hlt⟩ := h4
          simp only at hb hlt
          subst hb
          have hfe := hF _ heE
          simp only at hfe
          obtain ⟨p, rfl⟩ : ∃ p : Nat, a = (p : Int) := ⟨a.toNat, by omega⟩
          have hpl : p < need.length := by omega
          have hdp := hd p hpl
          have h7 := le_endV hlt hdp
          have h8 := endV_lt (hfree _ heE rfl)
          simp only at h8
          obtain ⟨r, hu, hi, hle⟩ := ih (endV need t (p : Int)).toNat (by omega) p hpl (by omega)
          refine .inr ⟨p, r, heE, hpl, hu, hi, ?_⟩
          have := ranT_mono t (-1) (show k + 1 <= (endV need t (p : Int)).toNat by omega)
          unfold idleT at *
          omega
        · have h2 : idleT t (k + 1) = idleT t k := by
            unfold idleT
            rw [ranT_step, List.count_eq_zero.mpr hm1]; omega
          rw [h2]
          exact ihk (by omega)
    rcases ahead s (Nat.le_refl _) with h0 | ⟨p, r, hed, hpl, hu, hi, hle⟩
    · refine ⟨[], trivial, fun x hx => ?_, ?_⟩
      · obtain rfl : x = n := by simpa using hx
        exact hnl
      · rw [hsm', wsum_cons]
        have : wsum need [] = 0 := rfl
        rw [this, Int.add_zero, <- hm]
        omega
    · refine ⟨p :: r, ⟨hed, hu⟩, fun x hx => ?_, ?_⟩
      · rcases List.mem_cons.mp hx with rfl | hx
        · exact hnl
        · exact hi x hx
      · rw [hsm', wsum_cons, <- hm, Int.mul_add]
        omega
theorem graham (G: Good E need cores t) (hg: GreedyT E need t) (hF: Fits need.length E) (hn: ∀ z ∈ need,1 <= z) (hd: ∀ n,n < need.length -> 0 <= endV need t (n: Int)) (h1: 1 <= cores) (L: Int) (hL: IsLong need E L) :
  ∀ (n: Nat),n < need.length -> (cores: Int) * endV need t (n: Int) <= need.sum + ((cores: Int) - 1) * L:=by
 intro n hnl
 obtain ⟨s,m,c,hr,hm,hsm⟩:=G.done hn (x:=(n: Int)) (by omega) (by omega) (hd n hnl)
 obtain ⟨r,hu,hi,hle⟩:=chain G hg hF hn hd h1 (s + m) n hnl hsm
 have hall:=G.all (k:=s + m) hr.2.1
 have hb:=G.busy_le hn (s + m)
 have hw:=hL.1 _ hu hi
 have h2: ((cores: Int) - 1) * wsum need (n :: r) <= ((cores: Int) - 1) * L:=Int.mul_le_mul_of_nonneg_left hw (by omega)
 rw [hsm]
 have h3: (cores: Int) * ((s + m: Nat): Int) = ((cores * (s + m): Nat): Int):=by simp
 rw [h3,hall,Int.natCast_add]
 omega
theorem GreedyT.take (h: GreedyT E need t) (a: Nat): GreedyT E need (t.take a):=by
 intro i hi h1 n hn h2 h3 h4
 have hia: i < a:=by rw [List.length_take] at hi; omega
 rw [rowT_take t a i hia] at h1 h3
 rw [ranT_take t _ a i (by omega)] at h2
 refine h i (by rw [List.length_take] at hi; omega) h1 n hn h2 h3 (fun e he h5 => ?_)
 have:=h4 e he h5
 rwa [ranT_take t _ a i (by omega)] at this
def busyT (t: List (List Int)): Nat:=t.flatten.countP (fun x => x != -1)
theorem busyT_eq (t: List (List Int)): busyT t + t.flatten.count (-1) = t.flatten.length:=by
 unfold busyT
 rw [List.length_eq_countP_add_countP (fun x => x != (-1: Int)) (l:=t.flatten),List.count]
 congr 1
 refine List.countP_congr fun x _ => ?_
 simp
theorem Good.busy (G: Good E need cores t) (hn: ∀ z ∈ need,1 <= z): (busyT t: Int) <= need.sum /\ ((busyT t: Int) = need.sum ↔ ∀ n,n < need.length -> 0 <= endV need t (n: Int)) /\ busyT t <= cores * t.length:=by
 have h1:=busyT_eq t
 have h2:=G.all (k:=t.length) (Nat.le_refl _)
 have h3:=flat_len G.rows t.length (Nat.le_refl _)
 rw [List.take_length] at h3
 have h4:=G.busy_le hn t.length
 have h5: idleT t t.length = t.flatten.count (-1):=by unfold idleT ranT; rw [List.take_length]
 have h6: busyT t = sumN (fun x => ranT t (x: Int) t.length) need.length:=by omega
 refine ⟨by rw [h6]; exact h4,?_,by omega⟩
 have hs:=sumN_need need (fun z hz => by have:=hn z hz; omega)
 have hle: ∀ j,j < need.length -> ranT t (j: Int) t.length <= (need.getD j 0).toNat:=fun j hj => by
  have:=G.ran_le hn (x:=(j: Int)) (by omega) (by omega) t.length
  rw [needT_nat] at this
  omega
 rw [h6,<- hs]
 constructor
 ·intro he n hnl
  have:=sumN_eq hle (by omega) n hnl
  have hp:=needT_pos hn (x:=(n: Int)) (by omega) (by omega)
  rw [needT_nat] at hp
  exact (endV_lt (k:=t.length) (by rw [needT_nat]; omega)).1
 ·intro hd
  have: sumN (fun x => ranT t (x: Int) t.length) need.length = sumN (fun x => (need.getD x 0).toNat) need.length:=sumN_congr fun k hk => by
   have h7:=hd k hk
   have h8:=hle k hk
   rcases endV_cases (need:=need) (t:=t) (k: Int) with ⟨h9,_⟩ | ⟨j,_,hj,h10,_⟩
   ·omega
   ·have:=ranT_mono t (k: Int) hj
    rw [needT_nat] at h10
    omega
  rw [this]
end
end Go.Proofs.YtfpnkcpjhbkgnaaGreatDoor
namespace Go.Proofs.YtfpnkcpjhbkgnaaGreatDoor
open Go.RowKit
def Trc (w: World) (B: Nat) (A: Option Addr) (t: List (List Int)): Prop :=
 0 < t.length -> ∃ b off,A = some ⟨b,off,none⟩ /\ b < B /\ ∀ k r,t[k]? = some r -> ∃ A1 c1,w.cell? ⟨b,off + k,none⟩ = some (.slice A1 r.length c1) /\ Ints w B A1 r /\ ((A1 = none -> r.length = 0 /\ c1 = 0) /\ r.length <= c1)
theorem Trc.at_ {w: World} {B: Nat} {A: Option Addr} {t: List (List Int)} {k: Nat} (h: Trc w B A t) (hk: k < t.length) :
  ∃ b off r A1 n1 c1,A = some ⟨b,off,none⟩ /\ b < B /\ t[k]? = some r /\ r.length = n1 /\ w.cell? ⟨b,off + k,none⟩ = some (.slice A1 n1 c1) /\ Ints w B A1 r /\ ((A1 = none -> n1 = 0 /\ c1 = 0) /\ n1 <= c1):=by
 obtain ⟨b,off,e,hb,hc⟩:=h (by omega)
 have he: t[k]? = some t[k]:=List.getElem?_eq_getElem hk
 obtain ⟨A1,c1,h1,h2,h3⟩:=hc k _ he
 exact ⟨b,off,t[k],A1,_,c1,e,hb,he,rfl,h1,h2,h3⟩
theorem Trc.keep {w w': World} {B: Nat} {A: Option Addr} {t: List (List Int)} (h: Trc w B A t) (hk: ∀ p: Addr,p.block < B -> w'.cell? p = w.cell? p): Trc w' B A t:=fun hn => by
 obtain ⟨b,off,e,hb,hc⟩:=h hn
 refine ⟨b,off,e,hb,fun k x hx => ?_⟩
 obtain ⟨A1,c1,h1,h2,h3⟩:=hc k x hx
 exact ⟨A1,c1,(hk _ hb).trans h1,h2.keep hk,h3⟩
theorem Trc.more {w: World} {B B': Nat} {A: Option Addr} {t: List (List Int)} (h: Trc w B A t) (hB: B <= B'): Trc w B' A t:=fun hn => by
 obtain ⟨b,off,e,hb,hc⟩:=h hn
 refine ⟨b,off,e,by omega,fun k x hx => ?_⟩
 obtain ⟨A1,c1,h1,h2,h3⟩:=hc k x hx
 exact ⟨A1,c1,h1,h2.more hB,h3⟩
theorem Trc.below {w w': World} {B: Nat} {A: Option Addr} {t: List (List Int)} (h: Trc w B A t) (hb: Below B w w'): Trc w' B A t:=h.keep fun _ hp => hb.cell hp
theorem Trc.nil_ (w: World) (B: Nat) (A: Option Addr): Trc w B A []:=fun h => absurd h (by simp)
theorem Trc.take {w: World} {B: Nat} {A: Option Addr} {t: List (List Int)} (h: Trc w B A t) (i: Nat): Trc w B A (t.take i):=fun hn => by
 have hl: (t.take i).length <= t.length:=by simp; omega
 obtain ⟨b,off,e,hb,hc⟩:=h (by omega)
 refine ⟨b,off,e,hb,fun k r hk => ?_⟩
 rw [List.getElem?_take] at hk
 split at hk
 ·exact hc k r hk
 ·cases hk
structure IsS (w: World) (N: Option Addr) (nn nc: Nat) (T: Option Addr) (tn tc: Nat) (need: List Int) (t: List (List Int)): Prop where
 hn: need.length = nn
 ht: t.length = tn
 ln: nn <= 400
 lt: tn <= 400
 lr: ∀ r ∈ t,r.length <= 400
 ints: Ints w w.heap.size N need
 rows: Trc w w.heap.size T t
 hN: N = none -> nn = 0 /\ nc = 0
 hT: T = none -> tn = 0 /\ tc = 0
theorem IsS.below {w w': World} {N: Option Addr} {nn nc: Nat} {T: Option Addr} {tn tc: Nat} {need: List Int} {t: List (List Int)} (h: IsS w N nn nc T tn tc need t) (hb: Below w.heap.size w w'): IsS w' N nn nc T tn tc need t :=
 ⟨h.hn,h.ht,h.ln,h.lt,h.lr,(h.ints.below hb).more hb.size,(h.rows.below hb).more hb.size,h.hN,h.hT⟩
def upd (f: Nat -> Int) (n: Nat) (z: Int): Nat -> Int:=fun k => if k = n then z else f k
theorem upd_at (f: Nat -> Int) (n: Nat) (z: Int): upd f n z n = z:=if_pos rfl
theorem upd_not (f: Nat -> Int) {n k: Nat} (z: Int) (h: k ≠ n): upd f n z k = f k:=if_neg h
def pastV (ran lt lc: Nat -> Int): List Value:=(List.range 64).map (fun n => Value.int .i64 (ran n)) ++ (List.range 128).map (fun j => Value.int .i64 (if j % 2 = 0 then lt (j / 2) else lc (j / 2)))
theorem pastV_length (ran lt lc: Nat -> Int): (pastV ran lt lc).length = 192:=by simp [pastV]
theorem pastV_lo {ran lt lc: Nat -> Int} {n: Nat} (h: n < 64): (pastV ran lt lc)[n]? = some (.int .i64 (ran n)):=by
 unfold pastV
 rw [List.getElem?_append_left (by simpa using h),List.getElem?_map,List.getElem?_range h]; rfl
theorem pastV_hi {ran lt lc: Nat -> Int} {j: Nat} (h: j < 128): (pastV ran lt lc)[64 + j]? = some (.int .i64 (if j % 2 = 0 then lt (j / 2) else lc (j / 2))):=by
 unfold pastV
 rw [List.getElem?_append_right (by simp),List.length_map,List.length_range,Nat.add_sub_cancel_left,List.getElem?_map,List.getElem?_range h]; rfl
theorem pastV_t {ran lt lc: Nat -> Int} {n: Nat} (h: n < 64): (pastV ran lt lc)[64 + n * 2]? = some (.int .i64 (lt n)):=by
 rw [pastV_hi (by omega),if_pos (by omega),show n * 2 / 2 = n by omega]
theorem pastV_c {ran lt lc: Nat -> Int} {n: Nat} (h: n < 64): (pastV ran lt lc)[64 + n * 2 + 1]? = some (.int .i64 (lc n)):=by
 rw [show 64 + n * 2 + 1 = 64 + (n * 2 + 1) by omega,pastV_hi (by omega),if_neg (by omega),show (n * 2 + 1) / 2 = n by omega]
theorem pastV_ext {ran lt lc: Nat -> Int} {l: List Value} (hl: l.length = 192) (h1: ∀ n,n < 64 -> l[n]? = some (.int .i64 (ran n))) (h2: ∀ n,n < 64 -> l[64 + n * 2]? = some (.int .i64 (lt n))) (h3: ∀ n,n < 64 -> l[64 + n * 2 + 1]? = some (.int .i64 (lc n))): l = pastV ran lt lc:=by
 apply List.ext_getElem?
 intro i
 rcases Nat.lt_or_ge i 64 with hi | hi
 ·rw [h1 i hi,pastV_lo hi]
 ·rcases Nat.lt_or_ge i 192 with hj | hj
  ·obtain ⟨k,hk | hk⟩: ∃ k,i = 64 + k * 2 \/ i = 64 + k * 2 + 1:=⟨(i - 64) / 2,by omega⟩
   ·rw [hk,h2 k (by omega),pastV_t (by omega)]
   ·rw [hk,h3 k (by omega),pastV_c (by omega)]
  ·rw [List.getElem?_eq_none (by omega),List.getElem?_eq_none (by rw [pastV_length]; omega)]
theorem pastV_set_r (ran lt lc: Nat -> Int) {n: Nat} (h: n < 64) (z: Int): (pastV ran lt lc).set n (.int .i64 z) = pastV (upd ran n z) lt lc:=by
 refine pastV_ext (by rw [List.length_set,pastV_length]) (fun k hk => ?_) (fun k hk => ?_) (fun k hk => ?_)
 ·rw [List.getElem?_set]
  by_cases e: n = k
  ·rw [if_pos e,if_pos (by rw [pastV_length]; omega),<- e,upd_at]
  ·rw [if_neg e,pastV_lo hk,upd_not _ _ (fun q => e q.symm)]
 ·rw [List.getElem?_set,if_neg (by omega),pastV_t hk]
 ·rw [List.getElem?_set,if_neg (by omega),pastV_c hk]
theorem pastV_set_t (ran lt lc: Nat -> Int) {n: Nat} (h: n < 64) (z: Int): (pastV ran lt lc).set (64 + n * 2) (.int .i64 z) = pastV ran (upd lt n z) lc:=by
 refine pastV_ext (by rw [List.length_set,pastV_length]) (fun k hk => ?_) (fun k hk => ?_) (fun k hk => ?_)
 ·rw [List.getElem?_set,if_neg (by omega),pastV_lo hk]
 ·rw [List.getElem?_set]
  by_cases e: n = k
  ·rw [if_pos (by omega),if_pos (by rw [pastV_length]; omega),<- e,upd_at]
  ·rw [if_neg (by omega),pastV_t hk,upd_not _ _ (fun q => e q.symm)]
 ·rw [List.getElem?_set,if_neg (by omega),pastV_c hk]
theorem pastV_set_c (ran lt lc: Nat -> Int) {n: Nat} (h: n < 64) (z: Int): (pastV ran lt lc).set (64 + n * 2 + 1) (.int .i64 z) = pastV ran lt (upd lc n z):=by
 refine pastV_ext (by rw [List.length_set,pastV_length]) (fun k hk => ?_) (fun k hk => ?_) (fun k hk => ?_)
 ·rw [List.getElem?_set,if_neg (by omega),pastV_lo hk]
 ·rw [List.getElem?_set,if_neg (by omega),pastV_t hk]
 ·rw [List.getElem?_set]
  by_cases e: n = k
  ·rw [if_pos (by omega),if_pos (by rw [pastV_length]; omega),<- e,upd_at]
  ·rw [if_neg (by omega),pastV_c hk,upd_not _ _ (fun q => e q.symm)]
def Past (g: Nat) (ran lt lc: Nat -> Int) (w: World): Prop:=RowV g 101 (pastV ran lt lc) w
section
variable {g: Nat} {ran lt lc: Nat -> Int} {w w': World}
theorem Past.lt_ (h: Past g ran lt lc w): g < w.heap.size:=RowV.lt h
theorem Past.cells (h: Past g ran lt lc w) {n: Nat} (hn: n < 64): w.cell? ⟨g,n,none⟩ = some (.int .i64 (ran n)) /\ w.cell? ⟨g,64 + n * 2,none⟩ = some (.int .i64 (lt n)) /\ w.cell? ⟨g,64 + n * 2 + 1,none⟩ = some (.int .i64 (lc n)) :=
 ⟨RowV.cell h (pastV_lo hn),RowV.cell h (pastV_t hn),RowV.cell h (pastV_c hn)⟩
theorem Past.frozen (h: Past g ran lt lc w) (j: Nat): w.frozen? ⟨g,j,none⟩ = false:=RowV.frozen h j
theorem Past.below (h: Past g ran lt lc w) {B: Nat} (hb: Below B w w') (hB: g < B): Past g ran lt lc w':=RowV.below h hb hB
theorem Past.ran_ (h: Past g ran lt lc w) {n: Nat} (hn: n < 64) (z: Int): Past g (upd ran n z) lt lc (w.setCell ⟨g,n,none⟩ (.int .i64 z)):=by
 unfold Past
 rw [<- pastV_set_r _ _ _ hn]
 exact RowV.set h n _
theorem Past.place (h: Past g ran lt lc w) {n: Nat} (hn: n < 64) (a c: Int): Past g ran (upd lt n a) (upd lc n c) ((w.setCell ⟨g,64 + n * 2,none⟩ (.int .i64 a)).setCell ⟨g,64 + n * 2 + 1,none⟩ (.int .i64 c)):=by
 unfold Past
 rw [<- pastV_set_c _ _ _ hn,<- pastV_set_t _ _ _ hn]
 exact RowV.set (RowV.set h _ _) _ _
end
end Go.Proofs.YtfpnkcpjhbkgnaaGreatDoor
