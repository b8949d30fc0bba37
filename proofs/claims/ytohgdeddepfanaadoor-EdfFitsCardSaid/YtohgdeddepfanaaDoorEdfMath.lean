/- What shapes on one core demand, and what blocks: plain mathematics, in the seat YtohgdeddepfanaaDoor. No statement is proved here. -/
import Derived.Test.YtohgdeddepfanaaDoorClassMath
set_option linter.unusedVariables false
namespace Go.Proofs.YtohgdeddepfanaaDoor
open Go Go.RowKit

/-- All together of what is told of each. -/
def sumE (f : Shp → Int) : List Shp → Int
  | [] => 0
  | s :: L => f s + sumE f L
/-- The greatest of what is told of each; 0 of none. -/
def maxE (f : Shp → Int) : List Shp → Int
  | [] => 0
  | s :: L => max (f s) (maxE f L)
theorem sumE_app (f : Shp → Int) : ∀ A B : List Shp, sumE f (A ++ B) = sumE f A + sumE f B
  | [], B => by simp [sumE]
  | s :: A, B => by
    have := sumE_app f A B
    simp only [List.cons_append, sumE]
    omega
theorem maxE_nonneg (f : Shp → Int) : ∀ A : List Shp, 0 ≤ maxE f A
  | [] => Int.le_refl _
  | s :: A => by
    have := maxE_nonneg f A
    simp only [maxE]
    omega
theorem maxE_app (f : Shp → Int) : ∀ A B : List Shp, maxE f (A ++ B) = max (maxE f A) (maxE f B)
  | [], B => by
    have := maxE_nonneg f B
    simp only [List.nil_append, maxE]
    omega
  | s :: A, B => by
    have := maxE_app f A B
    simp only [List.cons_append, maxE]
    omega
theorem sumE_snoc {f : Shp → Int} {L : List Shp} {k : Nat} {s : Shp} (h : L[k]? = some s) : sumE f (L.take (k + 1)) = sumE f (L.take k) + f s := by
  rw [List.take_add_one, h, sumE_app]
  simp [sumE]
theorem maxE_snoc {f : Shp → Int} {L : List Shp} {k : Nat} {s : Shp} (h : L[k]? = some s) : maxE f (L.take (k + 1)) = max (maxE f (L.take k)) (f s) := by
  have h0 := maxE_nonneg f (L.take k)
  rw [List.take_add_one, h, maxE_app]
  simp only [Option.toList_some, maxE]
  omega
theorem maxE_ge {f : Shp → Int} : ∀ {L : List Shp} {s : Shp}, s ∈ L → f s ≤ maxE f L
  | x :: L, s, h => by
    simp only [maxE]
    rcases List.mem_cons.mp h with rfl | h
    · omega
    · have := maxE_ge (f := f) h
      omega
theorem maxE_le {f : Shp → Int} {b : Int} (hb : 0 ≤ b) : ∀ {L : List Shp}, (∀ s ∈ L, f s ≤ b) → maxE f L ≤ b
  | [], _ => hb
  | x :: L, h => by
    have h1 := h x (List.mem_cons_self ..)
    have h2 := maxE_le (f := f) hb (L := L) (fun s hs => h s (List.mem_cons_of_mem _ hs))
    simp only [maxE]
    omega
theorem maxE_in {f : Shp → Int} : ∀ {L : List Shp}, maxE f L = 0 ∨ ∃ s ∈ L, maxE f L = f s
  | [] => .inl rfl
  | x :: L => by
    rcases maxE_in (f := f) (L := L) with h | ⟨s, hs, h⟩
    · by_cases hx : f x ≤ 0
      · left; simp only [maxE]; omega
      · right; exact ⟨x, List.mem_cons_self .., by simp only [maxE]; omega⟩
    · by_cases hx : f x ≤ f s
      · right; exact ⟨s, List.mem_cons_of_mem _ hs, by simp only [maxE]; omega⟩
      · right; exact ⟨x, List.mem_cons_self .., by simp only [maxE]; omega⟩

/-- A shape that may be, and is light. -/
def LightS (s : Shp) : Prop := s.Ok ∧ s.t ≤ s.d
instance (s : Shp) : Decidable (LightS s) := by unfold LightS; infer_instance
def MayE (L : List Shp) : Prop := L.length ≤ 8 ∧ ∀ s ∈ L, LightS s
instance (L : List Shp) : Decidable (MayE L) := by unfold MayE; infer_instance
def chkE (L : List Shp) : Int := if MayE L then 0 else 150
theorem chkE_ok {L : List Shp} (h : MayE L) : chkE L = 0 := if_pos h
theorem chkE_no {L : List Shp} (h : ¬ MayE L) : chkE L = 150 := if_neg h
theorem LightS.nums {s : Shp} (h : LightS s) : 1 ≤ s.t ∧ s.t ≤ s.d ∧ 1 ≤ s.m ∧ s.m ≤ s.t ∧ 1 ≤ s.d ∧ s.d ≤ s.p ∧ s.p ≤ 4096 := by
  obtain ⟨⟨⟨t0, t1⟩, ⟨l0, l1⟩, ⟨m0, m1⟩, hp, d0, d1⟩, hl⟩ := h
  have := isP_le hp
  omega
/-- What one demands in a time, and whether it blocks then. -/
def dem1 (t : Int) (s : Shp) : Int := if t < s.d then 0 else s.t * (1 + (t - s.d) / s.p)
def blk1 (t : Int) (s : Shp) : Int := if s.d ≤ t then 0 else s.m
def demE (L : List Shp) (t : Int) : Int := sumE (dem1 t) L
def blkE (L : List Shp) (t : Int) : Int := maxE (blk1 t) L
def horE (L : List Shp) : Int := if MayE L then maxE Shp.p L else 0
/-- So it is at a time. -/
def AtE (L : List Shp) (t : Int) : Prop := demE L t = 0 ∨ demE L t + blkE L t ≤ t
def FitE (L : List Shp) : Prop := MayE L ∧ ∀ t, 1 ≤ t → t ≤ horE L → AtE L t
theorem dem1_low {t : Int} {s : Shp} (h : t < s.d) : dem1 t s = 0 := if_pos h
theorem dem1_high {t : Int} {s : Shp} (h : ¬ t < s.d) : dem1 t s = s.t * (1 + (t - s.d) / s.p) := if_neg h
/-- What one demands is at most the time. -/
theorem dem1_le {t : Int} {s : Shp} (h : LightS s) (ht : 0 ≤ t) : 0 ≤ dem1 t s ∧ dem1 t s ≤ t ∧ (s.d ≤ t → s.t ≤ dem1 t s) := by
  obtain ⟨h1, h2, -, -, h5, h6, -⟩ := h.nums
  by_cases hd : t < s.d
  · rw [dem1_low hd]; omega
  · rw [dem1_high hd]
    obtain ⟨q, hq⟩ : ∃ q, q = (t - s.d) / s.p := ⟨_, rfl⟩
    have q0 : 0 ≤ q := by rw [hq]; exact Int.ediv_nonneg (by omega) (by omega)
    have q1 : q * s.p ≤ t - s.d := by rw [hq]; exact Int.ediv_mul_le _ (by omega)
    rw [← hq]
    have e : s.t * (1 + q) = s.t + s.t * q := by rw [Int.mul_add, Int.mul_one]
    have e2 : 0 ≤ s.t * q := Int.mul_nonneg (by omega) q0
    have e3 : s.t * q ≤ s.p * q := Int.mul_le_mul_of_nonneg_right (by omega) q0
    rw [Int.mul_comm q] at q1
    rw [e]
    refine ⟨by omega, by omega, fun _ => by omega⟩
theorem sumE_le {f g : Shp → Int} : ∀ {L : List Shp}, (∀ s ∈ L, f s ≤ g s) → sumE f L ≤ sumE g L
  | [], _ => Int.le_refl _
  | s :: L, h => by
    have h1 := h s (List.mem_cons_self ..)
    have h2 := sumE_le (L := L) (fun x hx => h x (List.mem_cons_of_mem _ hx))
    simp only [sumE]
    omega
theorem sumE_nonneg {f : Shp → Int} : ∀ {L : List Shp}, (∀ s ∈ L, 0 ≤ f s) → 0 ≤ sumE f L
  | [], _ => Int.le_refl _
  | s :: L, h => by
    have h1 := h s (List.mem_cons_self ..)
    have h2 := sumE_nonneg (L := L) (fun x hx => h x (List.mem_cons_of_mem _ hx))
    simp only [sumE]
    omega
theorem sumE_const {c : Int} : ∀ {L : List Shp}, sumE (fun _ => c) L = L.length * c
  | [] => by simp [sumE]
  | s :: L => by
    have := sumE_const (c := c) (L := L)
    simp only [sumE, List.length_cons, this, Int.natCast_add, Int.add_mul]
    omega
theorem sumE_add {f g : Shp → Int} : ∀ {L : List Shp}, sumE (fun s => f s + g s) L = sumE f L + sumE g L
  | [] => rfl
  | s :: L => by
    have := sumE_add (f := f) (g := g) (L := L)
    simp only [sumE, this]
    omega
theorem sumE_eq {f g : Shp → Int} : ∀ {L : List Shp}, (∀ s ∈ L, f s = g s) → sumE f L = sumE g L
  | [], _ => rfl
  | s :: L, h => by
    have h1 := h s (List.mem_cons_self ..)
    have h2 := sumE_eq (L := L) (fun x hx => h x (List.mem_cons_of_mem _ hx))
    simp only [sumE]
    omega
theorem MayE.take {L : List Shp} (h : MayE L) (k : Nat) : MayE (L.take k) := ⟨by have := h.1; simp; omega, fun s hs => h.2 s (List.mem_of_mem_take hs)⟩
theorem demE_le {L : List Shp} {t : Int} (h : MayE L) (ht : 0 ≤ t) : 0 ≤ demE L t ∧ demE L t ≤ 8 * t := by
  refine ⟨sumE_nonneg fun s hs => (dem1_le (h.2 s hs) ht).1, ?_⟩
  have h1 : demE L t ≤ sumE (fun _ => t) L := sumE_le fun s hs => (dem1_le (h.2 s hs) ht).2.1
  rw [sumE_const] at h1
  have h2 : (L.length : Int) * t ≤ 8 * t := Int.mul_le_mul_of_nonneg_right (by have := h.1; omega) ht
  omega
theorem blk1_le {t : Int} {s : Shp} (h : LightS s) : 0 ≤ blk1 t s ∧ blk1 t s ≤ 4096 := by
  obtain ⟨h1, h2, h3, h4, h5, h6, h7⟩ := h.nums
  unfold blk1
  split <;> omega
theorem blkE_le {L : List Shp} {t : Int} (h : MayE L) : 0 ≤ blkE L t ∧ blkE L t ≤ 4096 := ⟨maxE_nonneg _ _, maxE_le (by decide) fun s hs => (blk1_le (h.2 s hs)).2⟩
theorem hor_ge {L : List Shp} {s : Shp} (h : MayE L) (hs : s ∈ L) : s.p ≤ horE L := by
  unfold horE; rw [if_pos h]; exact maxE_ge (f := Shp.p) hs
theorem hor_le {L : List Shp} : 0 ≤ horE L ∧ horE L ≤ 4096 := by
  unfold horE
  split
  · rename_i h
    exact ⟨maxE_nonneg _ _, maxE_le (by decide) fun s hs => (h.2 s hs).nums.2.2.2.2.2.2⟩
  · omega
theorem pow_dvd {p h : Int} (hp : isP p = true) (hh : isP h = true) (hle : p ≤ h) : ∃ k : Int, 1 ≤ k ∧ h = k * p := by
  obtain ⟨i, hi, rfl⟩ := isP_iff.mp hp
  obtain ⟨j, hj, rfl⟩ := isP_iff.mp hh
  have hij : i ≤ j := by
    rcases Nat.lt_or_ge j i with h | h
    · have : 2 ^ j < 2 ^ i := Nat.pow_lt_pow_right (by decide) h
      omega
    · exact h
  refine ⟨((2 ^ (j - i) : Nat) : Int), ?_, ?_⟩
  · have : 0 < 2 ^ (j - i) := Nat.pow_pos (by decide)
    omega
  · rw [← Int.natCast_mul, ← Nat.pow_add]
    congr 2
    omega
/-- In a multiple of the period as much more is due. -/
theorem dem1_more {s : Shp} (h : LightS s) {t k : Int} (ht : 0 ≤ t) (hk : 1 ≤ k) : dem1 (t + k * s.p) s = dem1 t s + dem1 (k * s.p) s := by
  obtain ⟨h1, h2, -, -, h5, h6, -⟩ := h.nums
  have kp : s.p ≤ k * s.p := by
    have := Int.mul_le_mul_of_nonneg_right hk (show 0 ≤ s.p by omega)
    omega
  have e1 : (k * s.p - s.d) / s.p = k - 1 := by
    have : k * s.p - s.d = (s.p - s.d) + (k - 1) * s.p := by rw [Int.sub_mul, Int.one_mul]; omega
    rw [this, Int.add_mul_ediv_right _ _ (by omega), Int.ediv_eq_zero_of_lt (by omega) (by omega)]
    omega
  rw [dem1_high (t := t + k * s.p) (by omega), dem1_high (t := k * s.p) (by omega), e1]
  have e2 : (t + k * s.p - s.d) / s.p = (t - s.d) / s.p + k := by
    have : t + k * s.p - s.d = (t - s.d) + k * s.p := by omega
    rw [this, Int.add_mul_ediv_right _ _ (by omega)]
  rw [e2]
  by_cases hd : t < s.d
  · rw [dem1_low hd]
    have e3 : (t - s.d) / s.p = -1 := by
      have h0 : t - s.d = (t - s.d + s.p) + (-1) * s.p := by omega
      rw [h0, Int.add_mul_ediv_right _ _ (by omega), Int.ediv_eq_zero_of_lt (by omega) (by omega)]
      omega
    rw [e3]
    have : 1 + (-1 + k) = 1 + (k - 1) := by omega
    rw [this]
    omega
  · rw [dem1_high hd, ← Int.mul_add]
    congr 1
    omega
theorem hor_mul {L : List Shp} {s : Shp} (h : MayE L) (hs : s ∈ L) : ∃ k : Int, 1 ≤ k ∧ horE L = k * s.p := by
  have hge := hor_ge h hs
  have h0 := (h.2 s hs).nums
  have e : horE L = maxE Shp.p L := if_pos h
  rcases maxE_in (f := Shp.p) (L := L) with h1 | ⟨x, hx, h1⟩
  · omega
  · rw [e, h1] at hge ⊢
    exact pow_dvd (h.2 s hs).1.2.2.2.1 (h.2 x hx).1.2.2.2.1 hge
theorem demE_more {L : List Shp} (h : MayE L) {t : Int} (ht : 0 ≤ t) : demE L (t + horE L) = demE L t + demE L (horE L) := by
  unfold demE
  rw [← sumE_add]
  apply sumE_eq
  intro s hs
  obtain ⟨k, hk, e⟩ := hor_mul h hs
  rw [e]
  exact dem1_more (h.2 s hs) ht hk
theorem blkE_far {L : List Shp} (h : MayE L) {t : Int} (ht : horE L ≤ t) : blkE L t = 0 := by
  have h1 : blkE L t ≤ 0 := maxE_le (Int.le_refl _) fun s hs => by
    have := hor_ge h hs
    have := (h.2 s hs).nums
    unfold blk1
    rw [if_pos (by omega)]
    omega
  have := (blkE_le (t := t) h).1
  omega
theorem blkE_less {L : List Shp} (h : MayE L) {t u : Int} (ht : t ≤ u) : blkE L u ≤ blkE L t := by
  apply maxE_le (maxE_nonneg _ _)
  intro s hs
  have h1 : blk1 t s ≤ blkE L t := maxE_ge (f := blk1 t) hs
  have h2 := (blk1_le (t := t) (h.2 s hs)).1
  show blk1 u s ≤ blkE L t
  unfold blk1 at h1 h2 ⊢
  split <;> split at h1 <;> (try split at h2) <;> omega
/-- If they fit it is so at all times. -/
theorem fit_always {L : List Shp} (h : FitE L) {t : Int} (ht : 1 ≤ t) : AtE L t := by
  obtain ⟨hm, hf⟩ := h
  by_cases h0 : L = []
  · subst h0; exact .inl rfl
  have hH : 1 ≤ horE L := by
    obtain ⟨s, hs⟩ := List.exists_mem_of_ne_nil L h0
    have := hor_ge hm hs
    have := (hm.2 s hs).nums
    omega
  have hd : demE L (horE L) ≤ horE L := by
    have hb := (blkE_le (t := horE L) hm).1
    rcases hf _ hH (Int.le_refl _) with h1 | h1 <;> omega
  have key : ∀ n : Nat, ∀ t : Int, 1 ≤ t → t ≤ n → AtE L t := by
    intro n
    induction n with
    | zero => intro t h1 h2; omega
    | succ n ih =>
      intro t h1 h2
      by_cases hl : t ≤ horE L
      · exact hf t h1 hl
      · have e := demE_more hm (t := t - horE L) (by omega)
        rw [show t - horE L + horE L = t by omega] at e
        have hz := blkE_far hm (t := t) (by omega)
        have hb := (blkE_le (t := t - horE L) hm).1
        rcases ih (t - horE L) (by omega) (by omega) with h3 | h3
        · right; omega
        · right; omega
  exact key t.toNat t ht (by omega)
/-- Fewer fit, too. -/
theorem fit_less {L M : List Shp} (h : FitE L) (hl : M.length ≤ L.length) (hs : ∀ s ∈ M, s ∈ L) (hd : ∀ t, 0 ≤ t → demE M t ≤ demE L t) : FitE M := by
  have hm : MayE M := ⟨by have := h.1.1; omega, fun s k => h.1.2 s (hs s k)⟩
  refine ⟨hm, fun t h1 _ => ?_⟩
  have h2 := fit_always h h1
  have h3 := hd t (by omega)
  have h4 : blkE M t ≤ blkE L t := maxE_le (maxE_nonneg _ _) fun s k => maxE_ge (f := blk1 t) (hs s k)
  have h5 := (demE_le hm (t := t) (by omega)).1
  unfold AtE at h2 ⊢
  omega
theorem demE_cons (s : Shp) (L : List Shp) (t : Int) : demE (s :: L) t = dem1 t s + demE L t := rfl
theorem demE_app (A B : List Shp) (t : Int) : demE (A ++ B) t = demE A t + demE B t := sumE_app _ _ _
theorem fit_cut {A B : List Shp} {s : Shp} (h : FitE (A ++ s :: B)) : FitE (A ++ B) := by
  refine fit_less h (by simp) (fun x hx => by simp at hx ⊢; rcases hx with h | h <;> simp [h]) (fun t ht => ?_)
  have := (dem1_le (h.1.2 s (by simp)) ht).1
  rw [demE_app, demE_app, demE_cons]
  omega
theorem fit_one {A B : List Shp} {s : Shp} (h : FitE (A ++ s :: B)) : FitE [s] := by
  refine fit_less h (by simp; omega) (fun x hx => by simp at hx ⊢; simp [hx]) (fun t ht => ?_)
  have h1 : 0 ≤ demE A t := sumE_nonneg fun x hx => (dem1_le (h.1.2 x (by simp [hx])) ht).1
  have h2 : 0 ≤ demE B t := sumE_nonneg fun x hx => (dem1_le (h.1.2 x (by simp [hx])) ht).1
  rw [demE_app, demE_cons, demE_cons]
  show _ + 0 ≤ _
  omega
theorem fit_front {A B : List Shp} {s : Shp} (h : FitE (A ++ s :: B)) : FitE (s :: (A ++ B)) := by
  refine fit_less h (by simp <;> omega) (fun x hx => by simp at hx ⊢; rcases hx with h | h | h <;> simp [h]) (fun t ht => ?_)
  rw [demE_app, demE_cons, demE_cons, demE_app]
  omega
/-- One alone fits; two alike just if both have the time. -/
theorem fit_alone {s : Shp} (h : LightS s) : FitE [s] := by
  have hm : MayE [s] := ⟨by simp, fun x hx => by rw [List.mem_singleton.mp hx]; exact h⟩
  refine ⟨hm, fun t h1 _ => ?_⟩
  have h2 := dem1_le h (t := t) (by omega)
  by_cases hd : t < s.d
  · left; rw [demE_cons, dem1_low hd]; rfl
  · right
    have e : blkE [s] t = 0 := by
      show max (blk1 t s) 0 = 0
      have : blk1 t s = 0 := if_pos (by omega)
      omega
    rw [e, demE_cons]
    show _ + 0 + 0 ≤ _
    omega
theorem dem_at {s : Shp} (h : LightS s) : demE [s] s.d = s.t := by
  rw [demE_cons, dem1_high (by omega)]
  have := h.nums
  have e : s.d - s.d = 0 := by omega
  rw [e, Int.zero_ediv]
  show _ + 0 = _
  omega
theorem fit_two {s : Shp} (h : LightS s) : FitE [s, s] ↔ 2 * s.t ≤ s.d := by
  have hm : MayE [s, s] := ⟨by simp, fun x hx => by simp at hx; rw [hx]; exact h⟩
  have hn := h.nums
  have b0 : ∀ t, s.d ≤ t → blkE [s, s] t = 0 := fun t ht => by
    show max (blk1 t s) (max (blk1 t s) 0) = 0
    have : blk1 t s = 0 := if_pos ht
    omega
  have d2 : ∀ t, demE [s, s] t = dem1 t s + dem1 t s := fun t => by
    rw [demE_cons, demE_cons]; show _ + (_ + 0) = _; omega
  constructor
  · intro hf
    have h1 := fit_always hf (t := s.d) (by omega)
    have h2 := dem_at h
    rw [demE_cons] at h2
    have h3 : dem1 s.d s = s.t := by have h4 : dem1 s.d s + 0 = s.t := h2; omega
    unfold AtE at h1
    rw [d2, b0 _ (Int.le_refl _), h3] at h1
    omega
  · intro h2
    refine ⟨hm, fun t h1 _ => ?_⟩
    by_cases hd : t < s.d
    · left; rw [d2, dem1_low hd]; rfl
    · right
      rw [d2, b0 t (by omega), dem1_high hd]
      obtain ⟨q, hq⟩ : ∃ q, q = (t - s.d) / s.p := ⟨_, rfl⟩
      have q0 : 0 ≤ q := by rw [hq]; exact Int.ediv_nonneg (by omega) (by omega)
      have q1 : q * s.p ≤ t - s.d := by rw [hq]; exact Int.ediv_mul_le _ (by omega)
      rw [← hq]
      have e : s.t * (1 + q) = s.t + s.t * q := by rw [Int.mul_add, Int.mul_one]
      have e3 : (2 * s.t) * q ≤ s.p * q := Int.mul_le_mul_of_nonneg_right (by omega) q0
      have e4 : (2 * s.t) * q = s.t * q + s.t * q := by rw [Int.two_mul, Int.add_mul]
      rw [Int.mul_comm q] at q1
      rw [e]
      omega
end Go.Proofs.YtohgdeddepfanaaDoor
