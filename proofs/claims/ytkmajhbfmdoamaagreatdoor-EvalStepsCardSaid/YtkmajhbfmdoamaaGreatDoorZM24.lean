/- The contract of trefoilref07.Same in the seat YtkmajhbfmdoamaaGreatDoor.
   What the walks of layer 7 share in the seat YtkmajhbfmdoamaaGreatDoor.
   The work of a lowered task's nodes, in plain words, in the seat YtkmajhbfmdoamaaGreatDoor.
   No statement is proved here. -/
import Derived.Test.YtkmajhbfmdoamaaGreatDoorZM23
import Derived.Test.YtkmajhbfmdoamaaGreatDoorZLowAwake
import Derived.Test.YtkmajhbfmdoamaaGreatDoorZM25
set_option linter.unusedSimpArgs false
set_option linter.unusedVariables false
namespace Go.Proofs.YtkmajhbfmdoamaaGreatDoor
open Go.RowKit

section
variable {A : Option Addr} {n c : Nat} {F : Option Addr} {m d : Nat} {R : Option Addr} {k e : Nat} {W : List Int} {E P : List (Int × Int)} {A' : Option Addr} {n' c' : Nat} {F' : Option Addr} {m' d' : Nat} {R' : Option Addr} {k' e' : Nat} {W' : List Int} {E' P' : List (Int × Int)}
end
end Go.Proofs.YtkmajhbfmdoamaaGreatDoor
set_option linter.unusedVariables false
namespace Go.Proofs.YtkmajhbfmdoamaaGreatDoor
open Go.RowKit

section
variable {w w1 w2 : World} {s : Sh} {T : Task} {g : Nat} {A : Option Addr} {n c : Nat} {F : Option Addr} {m d : Nat} {R : Option Addr} {k e : Nat} {W : List Int} {E P : List (Int × Int)}
theorem lower_sz {n m k : Nat} (hn : (lowWv T).length = n) (hm : (lowEv T).length = m) (hk : (lowPv T).length = k) (hD : IsD w s T) : Calls Tryz.prog 34 #[s.arg T.period T.deadline] w fun e w' =>
    ∃ A c F d R z, e = .returned (.tuple #[.agg #[.slice A n c, .slice F m d, .slice R k z], .int .i64 (lowX T)]) ∧ IsL w' A n c F m d R k z (lowWv T) (lowEv T) (lowPv T) ∧ Below w.heap.size w w' := by
  subst hn hm hk
  exact lower_got s T w hD
end
theorem low_yes {T : Task} (h : LowOk T) : lowWv T = lowW T ∧ lowEv T = lowE T ∧ lowPv T = lowP T := by
  unfold lowWv lowEv lowPv
  rw [if_pos h, if_pos h, if_pos h]
  exact ⟨rfl, rfl, rfl⟩
end Go.Proofs.YtkmajhbfmdoamaaGreatDoor
set_option linter.unusedVariables false
namespace Go.Proofs.YtkmajhbfmdoamaaGreatDoor

theorem touK_rises7 {fs : List (Int × Int × Int)} {x : Int} (hn : (fs.map fun f => f.2).Nodup) : ∀ a, (touK fs x a).Pairwise fun i j => (futAt fs i).2.2 < (futAt fs j).2.2
  | 0 => List.Pairwise.nil
  | a + 1 => by
    show (touK fs x a ++ selF fs x (a + 1) fs.length).Pairwise _
    rw [List.pairwise_append]
    refine ⟨touK_rises7 hn a, ?_, fun i hi j hj => ?_⟩
    · have hone : ∀ i ∈ selF fs x (a + 1) fs.length, ∀ j ∈ selF fs x (a + 1) fs.length, i = j := fun i hi j hj => by
        obtain ⟨h1, h2, h3⟩ := mem_selF.mp hi
        obtain ⟨k1, k2, k3⟩ := mem_selF.mp hj
        have e : (futAt fs i).2 = (futAt fs j).2 := Prod.ext (h2.trans k2.symm) (h3.trans k3.symm)
        unfold futAt at e
        rw [List.getD_eq_getElem?_getD, List.getElem?_eq_getElem h1, List.getD_eq_getElem?_getD, List.getElem?_eq_getElem k1] at e
        have h4 : i < (fs.map fun f => f.2).length := by simpa using h1
        have h5 : j < (fs.map fun f => f.2).length := by simpa using k1
        refine (List.getElem_inj (h₀ := h4) (h₁ := h5) hn).mp ?_
        simpa using e
      have hnd := selF_nodup fs x (a + 1) fs.length
      rcases hs : selF fs x (a + 1) fs.length with _ | ⟨i, _ | ⟨j, l⟩⟩
      · exact List.Pairwise.nil
      · exact List.pairwise_singleton _ _
      · rw [hs] at hone hnd
        have := hone i (by simp) j (by simp)
        subst this
        simp at hnd
    · have h1 := (mem_touK.mp hi).2.2.2
      have h2 := (mem_selF.mp hj).2.2
      omega
theorem ends_rise {ps fs : List (Int × Int × Int)} (hp : partsOk ps) (hf : FutsOk ps fs) {x : Nat} (hx : x < ps.length) : (endsL fs ps x).Pairwise (· < ·) ∧ ∀ e ∈ endsL fs ps x, 0 < e := by
  have hpx : ps[x]? = some ps[x] := List.getElem?_eq_getElem hx
  have hw : partOk ps[x] := hp _ (List.getElem_mem _)
  unfold partOk at hw
  have hg : (ps.getD x (0, 0, 0)).2.2 = ps[x].2.2 := by rw [List.getD_eq_getElem?_getD, hpx]; rfl
  have hone : ∀ k ∈ touL fs (x : Int), 0 < (futAt fs k).2.2 ∧ (futAt fs k).2.2 < ps[x].2.2 := fun k hk => by
    obtain ⟨h1, h2, h3, _⟩ := mem_touK.mp hk
    have e : futAt fs k = fs[k] := by unfold futAt; rw [List.getD_eq_getElem?_getD, List.getElem?_eq_getElem h1]; rfl
    have hF := hf.each fs[k] (List.getElem_mem h1)
    rw [e] at h2 ⊢
    refine ⟨by have := hF.first; omega, hF.last ps[x] ?_⟩
    rw [h2]
    exact hpx
  unfold endsL
  rw [hg]
  refine ⟨?_, fun e he => ?_⟩
  · rw [List.pairwise_append]
    refine ⟨?_, List.pairwise_singleton _ _, fun a ha b hb => ?_⟩
    · rw [List.pairwise_map]
      exact touK_rises7 hf.once 99
    · obtain ⟨k, hk, rfl⟩ := List.mem_map.mp ha
      obtain rfl : b = ps[x].2.2 := by simpa using hb
      exact (hone k hk).2
  · rcases List.mem_append.mp he with he | he
    · obtain ⟨k, hk, rfl⟩ := List.mem_map.mp he
      exact (hone k hk).1
    · obtain rfl : e = ps[x].2.2 := by simpa using he
      omega
end Go.Proofs.YtkmajhbfmdoamaaGreatDoor
