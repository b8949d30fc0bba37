/- An edge more of a task, lowered, in plain words, in the seat YtmelgolnmnebpaaGreatDoor. No statement is proved here. -/
import Derived.Test.YtmelgolnmnebpaaGreatDoorZLowTouchMath
set_option linter.unusedSimpArgs false
set_option linter.unusedVariables false
namespace Go.Proofs.YtmelgolnmnebpaaGreatDoor

/-- A node is of one part. -/
theorem part_one {fs : List (Int × Int × Int)} {x y i : Nat} (h1 : firN fs x ≤ i) (h2 : i < firN fs (x + 1)) (h3 : firN fs y ≤ i) (h4 : i < firN fs (y + 1)) : x = y := by
  rcases Nat.lt_trichotomy x y with h | h | h
  · have := firN_mono fs (show x + 1 ≤ y by omega)
    omega
  · exact h
  · have := firN_mono fs (show y + 1 ≤ x by omega)
    omega
theorem fir_lt (fs : List (Int × Int × Int)) (x : Nat) : firN fs x < firN fs (x + 1) := by
  rw [firN]
  have := nst_pos fs x
  omega
theorem firN_inj {fs : List (Int × Int × Int)} {x y : Nat} (h : firN fs x = firN fs y) : x = y :=
  part_one (fs := fs) (i := firN fs x) (Nat.le_refl _) (fir_lt fs x) (by omega) (by have := fir_lt fs y; omega)
theorem lasN_inj {fs : List (Int × Int × Int)} {x y : Nat} (h : lasN fs x = lasN fs y) : x = y := by
  have h1 := lasN_eq fs x
  have h2 := lasN_eq fs y
  have h3 := fir_lt fs x
  have h4 := fir_lt fs y
  exact part_one (fs := fs) (i := lasN fs x) (by omega) (by omega) (by omega) (by omega)
theorem mem_ePs {fs : List (Int × Int × Int)} {e : Int × Int} : ∀ n, e ∈ ePs fs n → ∃ x i, x < n ∧ i + 1 < nst fs x ∧ e = (((firN fs x + i : Nat) : Int), ((firN fs x + i + 1 : Nat) : Int))
  | 0, h => by simp [ePs] at h
  | n + 1, h => by
    rw [ePs] at h
    rcases List.mem_append.mp h with h | h
    · obtain ⟨x, i, h1, h2, h3⟩ := mem_ePs n h
      exact ⟨x, i, by omega, h2, h3⟩
    · unfold chainE at h
      obtain ⟨i, hi, rfl⟩ := List.mem_map.mp h
      have := List.mem_range.mp hi
      exact ⟨n, i, by omega, by omega, rfl⟩
theorem mem_bEs {fs : List (Int × Int × Int)} {bs : List (List Int × List Int)} {n : Nat} {e : Int × Int} : ∀ k, e ∈ bEs fs bs n k → ∃ j, j < k ∧ e ∈ barN fs (n + j) (bs.getD j ([], []))
  | 0, h => by simp [bEs] at h
  | k + 1, h => by
    rw [bEs] at h
    rcases List.mem_append.mp h with h | h
    · obtain ⟨j, h1, h2⟩ := mem_bEs k h
      exact ⟨j, by omega, h2⟩
    · exact ⟨k, by omega, h⟩
/-- An edge that the task lacks, its graph lacks. -/
theorem edge_new {T : Task} (hM : MayT T) {a b : Nat} (ha : a < T.parts.length) (hb : b < T.parts.length) (hn : ((a : Int), (b : Int)) ∉ T.edges) : (((lasN T.futures a : Nat) : Int), ((firN T.futures b : Nat) : Int)) ∉ lowE T := by
  intro h
  have hla := lasN_eq T.futures a
  have hlb := firN_mono T.futures (show a + 1 ≤ T.parts.length by omega)
  have hfb := firN_mono T.futures (show b + 1 ≤ T.parts.length by omega)
  have hb1 := fir_lt T.futures b
  unfold lowE at h
  rcases List.mem_append.mp h with h | h
  · rcases List.mem_append.mp h with h | h
    · rcases List.mem_append.mp h with h | h
      · obtain ⟨x, i, _, h2, h3⟩ := mem_ePs _ h
        injection h3 with _ h4
        have h5 : firN T.futures b = firN T.futures x + i + 1 := by omega
        have h6 : firN T.futures (x + 1) = firN T.futures x + nst T.futures x := rfl
        have := part_one (fs := T.futures) (x := b) (y := x) (i := firN T.futures b) (Nat.le_refl _) hb1 (by omega) (by omega)
        subst this
        omega
      · obtain ⟨e, he, h3⟩ := List.mem_map.mp h
        unfold edgN at h3
        injection h3 with h4 h5
        have hF := hM.edges.1 e he
        have e1 := lasN_inj (fs := T.futures) (x := e.1.toNat) (y := a) (by omega)
        have e2 := firN_inj (fs := T.futures) (x := e.2.toNat) (y := b) (by omega)
        refine hn ?_
        have : e = ((a : Int), (b : Int)) := Prod.ext (by omega) (by omega)
        rw [← this]
        exact he
    · obtain ⟨k, hk, h3⟩ := List.mem_map.mp h
      have hkl := List.mem_range.mp hk
      unfold futN at h3
      injection h3 with _ h4
      have hf := hM.futures.each _ (futAt_mem hkl)
      obtain ⟨mN, hmN⟩ : ∃ q : Nat, (futAt T.futures k).1 = q := ⟨(futAt T.futures k).1.toNat, by have := hf.maker.1; omega⟩
      obtain ⟨uN, huN⟩ : ∃ q : Nat, (futAt T.futures k).2.1 = q := ⟨(futAt T.futures k).2.1.toNat, by have := hf.user.1; omega⟩
      have hfe : futAt T.futures k = ((mN : Int), (uN : Int), (futAt T.futures k).2.2) := by rw [← hmN, ← huN]
      have hmem := fut_mem hM.parts hM.futures hkl
      rw [huN] at hmem
      have hq := List.idxOf_lt_length_iff.mpr hmem
      have hbe := beg_eq hfe
      have hn2 := nst_eq T.futures uN
      have h6 : firN T.futures (uN + 1) = firN T.futures uN + nst T.futures uN := rfl
      have := part_one (fs := T.futures) (x := b) (y := uN) (i := firN T.futures b) (Nat.le_refl _) hb1 (by omega) (by omega)
      subst this
      omega
  · obtain ⟨j, _, h3⟩ := mem_bEs _ h
    unfold barN at h3
    rcases List.mem_append.mp h3 with h3 | h3
    · obtain ⟨i, _, h4⟩ := List.mem_map.mp h3
      injection h4 with _ h5
      omega
    · obtain ⟨i, _, h4⟩ := List.mem_map.mp h3
      injection h4 with h5 _
      omega
/-- A task with an edge more. -/
def moreT (T : Task) (a b : Int) : Task := { T with edges := T.edges ++ [(a, b)] }
theorem moreT_ed {T : Task} {a b x y : Nat} : ed (lowE (moreT T a b)) x y ↔ ed (lowE T) x y ∨ (x = lasN T.futures a ∧ y = firN T.futures b) := by
  unfold ed lowE moreT
  simp only [List.map_append, List.map_cons, List.map_nil, List.mem_append, List.mem_singleton, edgN, Int.toNat_natCast, Prod.mk.injEq]
  constructor
  · rintro (((h | h | h) | h) | h)
    · exact .inl (.inl (.inl (.inl h)))
    · exact .inl (.inl (.inl (.inr h)))
    · exact .inr (by omega)
    · exact .inl (.inl (.inr h))
    · exact .inl (.inr h)
  · rintro ((((h | h) | h) | h) | h)
    · exact .inl (.inl (.inl h))
    · exact .inl (.inl (.inr (.inl h)))
    · exact .inl (.inr h)
    · exact .inr h
    · exact .inl (.inl (.inr (.inr (by omega))))
theorem lowE_len {T : Task} (hM : MayT T) : (lowE T).length ≤ 160 + T.edges.length := by
  have hfew := hM.few
  unfold ManyT at hfew
  have h1 := ePs_len T.futures T.parts.length
  have h2 := firN_all hM.parts hM.futures
  have h3 := bEs_len T.futures T.bars (firN T.futures T.parts.length) 16 (fun b hb => by
    have h := hM.bars b hb
    have k1 := row_len' h.ins
    have k2 := row_len' h.outs
    omega) T.bars.length
  have h4 : T.bars.length * (2 * 16) ≤ 4 * 32 := Nat.mul_le_mul (by omega) (by omega)
  unfold lowE
  rw [List.length_append, List.length_append, List.length_append, List.length_map, List.length_map, List.length_range]
  omega
theorem moreT_perm (T : Task) (a b : Nat) : (lowE (moreT T a b)).Perm (lowE T ++ [(((lasN T.futures a : Nat) : Int), ((firN T.futures b : Nat) : Int))]) := by
  unfold lowE moreT
  simp only [List.map_append, List.map_cons, List.map_nil, edgN, Int.toNat_natCast]
  generalize ePs T.futures T.parts.length = A
  generalize T.edges.map _ = B
  generalize (List.range T.futures.length).map (futN T.futures) = C
  generalize bEs T.futures T.bars (firN T.futures T.parts.length) T.bars.length = D
  simp only [List.append_assoc]
  exact List.Perm.append_left A (List.Perm.append_left B (by
    have := List.perm_append_comm (l₁ := [(((lasN T.futures a : Nat) : Int), ((firN T.futures b : Nat) : Int))]) (l₂ := C ++ D)
    simpa using this))
theorem moreT_may {T : Task} (h : MayT T) {a b : Nat} (ha : a < T.parts.length) (hb : b < T.parts.length) (hab : a ≠ b) (hn : ((a : Int), (b : Int)) ∉ T.edges) (hl : T.edges.length < 48) : MayT (moreT T a b) := by
  have hfew := h.few
  have hE := h.edges
  refine ⟨?_, h.time, h.parts, ⟨?_, ?_, ?_⟩, h.futures, h.bars⟩
  · unfold ManyT moreT at *
    simp only [List.length_append, List.length_singleton] at *
    omega
  · intro e he
    rcases List.mem_append.mp he with he | he
    · exact hE.1 e he
    · obtain rfl := List.mem_singleton.mp he
      show 0 ≤ (a : Int) ∧ (a : Int) < (T.parts.length : Int) ∧ 0 ≤ (b : Int) ∧ (b : Int) < (T.parts.length : Int)
      omega
  · intro e he
    rcases List.mem_append.mp he with he | he
    · exact hE.2.1 e he
    · obtain rfl := List.mem_singleton.mp he
      show (a : Int) ≠ (b : Int)
      omega
  · show (T.edges ++ [((a : Int), (b : Int))]).Nodup
    rw [List.nodup_append]
    refine ⟨hE.2.2, by simp, fun x hx y hy => ?_⟩
    obtain rfl := List.mem_singleton.mp hy
    exact fun e => hn (e ▸ hx)
/-- An edge more leads round just if what is to wait is waited for already. -/
theorem round_iff {T : Task} (h : LowOk T) {a b : Nat} (ha : a < T.parts.length) (hb : b < T.parts.length) (hab : a ≠ b) (hn : ((a : Int), (b : Int)) ∉ T.edges) (hl : T.edges.length < 48) :
    May (lowW (moreT T a b)) (lowE (moreT T a b)) ↔ ¬ Way (lowE T) (firN T.futures b) (lasN T.futures a) := by
  have hW : lowW (moreT T a b) = lowW T := rfl
  have hp := moreT_perm T a b
  have hne : lasN T.futures a ≠ firN T.futures b := fun e => by
    have h1 := lasN_eq T.futures a
    have h2 := fir_lt T.futures a
    exact hab (part_one (fs := T.futures) (i := firN T.futures b) (by omega) (by omega) (Nat.le_refl _) (fir_lt T.futures b))
  have hac := acyc_snoc (E := lowE T) (a := lasN T.futures a) (b := firN T.futures b) h.2.acyc hne
  have hA : Acyc (lowE (moreT T a b)) ↔ Acyc (lowE T ++ [(((lasN T.futures a : Nat) : Int), ((firN T.futures b : Nat) : Int))]) :=
    ⟨fun k => k.mono fun x y hxy => hp.mem_iff.mpr hxy, fun k => k.mono fun x y hxy => hp.mem_iff.mp hxy⟩
  constructor
  · intro k
    exact hac.mp (hA.mp k.acyc)
  · intro k
    have hlen := lowW_len h.1
    have hall := firN_all h.1.parts h.1.futures
    have hM := moreT_may h.1 ha hb hab hn hl
    have hlE := lowE_len hM
    have hlm : (moreT T a b).edges.length = T.edges.length + 1 := by unfold moreT; simp
    have h1 := lasN_eq T.futures a
    have h2 := firN_mono T.futures (show a + 1 ≤ T.parts.length by omega)
    have h3 := fir_lt T.futures b
    have h4 := firN_mono T.futures (show b + 1 ≤ T.parts.length by omega)
    rw [hW]
    refine ⟨h.2.nodes, by omega, h.2.work, fun e he => ?_, fun e he => ?_, ?_, hA.mpr (hac.mpr k)⟩
    · rcases List.mem_append.mp (hp.mem_iff.mp he) with he | he
      · exact h.2.fits e he
      · obtain rfl := List.mem_singleton.mp he
        show 0 ≤ ((lasN T.futures a : Nat) : Int) ∧ ((lasN T.futures a : Nat) : Int) < ((lowW T).length : Int) ∧ 0 ≤ ((firN T.futures b : Nat) : Int) ∧ ((firN T.futures b : Nat) : Int) < ((lowW T).length : Int)
        omega
    · rcases List.mem_append.mp (hp.mem_iff.mp he) with he | he
      · exact h.2.apart e he
      · obtain rfl := List.mem_singleton.mp he
        show ((lasN T.futures a : Nat) : Int) ≠ ((firN T.futures b : Nat) : Int)
        omega
    · rw [hp.nodup_iff, List.nodup_append]
      refine ⟨h.2.once, by simp, fun x hx y hy => ?_⟩
      obtain rfl := List.mem_singleton.mp hy
      exact fun e => edge_new h.1 ha hb hn (e ▸ hx)
end Go.Proofs.YtmelgolnmnebpaaGreatDoor
