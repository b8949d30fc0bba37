/- What the walks of layer 5's laws ask of the program's functions, in the seat YtpckmhmabmmllaaDoor (proved elsewhere).
   Layer 5's example, in plain words, in the seat YtpckmhmabmmllaaDoor; what follows of touches.
   No statement is proved here. -/
import Derived.Test.YtpckmhmabmmllaaDoorZM8
import Derived.Test.YtpckmhmabmmllaaDoorZDescFew
import Derived.Test.YtpckmhmabmmllaaDoorZM6
import Derived.Test.YtpckmhmabmmllaaDoorZM3
set_option linter.unusedVariables false
namespace Go.Proofs.YtpckmhmabmmllaaDoor
open Go.RowKit

/-- A task, as it is handed over: of sizes that are held to. -/
structure IsD (w : World) (s : Sh) (T : Task) : Prop where
  t : IsT w w.heap.size s T
  few : FewT T
  tab : DTab w
  lE : s.ne ≤ s.ec
  lF : s.nf ≤ s.fc
theorem IsD.below {w w' : World} {s : Sh} {T : Task} (h : IsD w s T) (hb : Below w.heap.size w w') : IsD w' s T := ⟨(h.t.below hb).more hb.size, h.few, h.tab.via hb, h.lE, h.lF⟩
theorem own_cap {w : World} {base : Nat} {t : TypeId} {k : Nat} {A : Option Addr} {n c : Nat} {xs : List Value} (h : w.ownsRow base t k (.slice A n c) n xs) : n ≤ c := by
  rcases h.2 with ⟨h1, h2⟩ | ⟨g, cap, cur, h1, _, _, h2, _⟩
  · injection h1 with _ _ h3
    omega
  · injection h1 with _ _ h3
    omega
theorem Ints.cap {w : World} {b : Nat} {v : Value} {zs : List Int} (h : OwnI w b v zs) : ∃ A c, v = .slice A zs.length c ∧ Ints w w.heap.size A zs ∧ (A = none → zs.length = 0 ∧ c = 0) := by
  obtain ⟨A, c, e, hI⟩ := h.slice
  refine ⟨A, c, e, hI, fun hA => ?_⟩
  rcases h.2 with ⟨h1, hn⟩ | ⟨g, cap, cur, h1, _⟩
  · rw [e] at h1
    injection h1 with _ h2 h3
    exact ⟨h2, h3⟩
  · rw [e, hA] at h1
    injection h1 with h2
    cases h2
/-- A list of barriers of the call's own reads as one. -/
theorem OwnB.slice {w : World} {base : Nat} {v : Value} {bs : List (List Int × List Int)} (h : OwnB w base v bs) : ∃ A c, v = .slice A bs.length c ∧ Bars w w.heap.size A bs ∧ (A = none → bs.length = 0 ∧ c = 0) := by
  obtain ⟨cs, h1, h2, h3⟩ := h
  rcases h2.2 with ⟨rfl, hn⟩ | ⟨g, cap, cur, rfl, hg, hgg, rest⟩
  · have : bs = [] := List.eq_nil_of_length_eq_zero hn
    subst this
    exact ⟨none, 0, rfl, (fun h0 => absurd h0 (by simp)), fun _ => ⟨rfl, rfl⟩⟩
  · refine ⟨some ⟨g, 0, none⟩, cap, rfl, (fun _ => ⟨g, 0, rfl, (Array.getElem?_eq_some_iff.1 hgg).1, fun k b hb => ?_⟩), fun e => by cases e⟩
    have hk : k < bs.length := (List.getElem?_eq_some_iff.1 hb).1
    obtain ⟨c, hc⟩ : ∃ c, cs[k]? = some c := ⟨_, List.getElem?_eq_getElem (by omega)⟩
    obtain ⟨q1, q2⟩ := h3 k c b hc hb
    obtain ⟨A1, c1, e1, i1, n1⟩ := Ints.cap q1
    obtain ⟨A2, c2, e2, i2, n2⟩ := Ints.cap q2
    have hf : ∀ (cs : List (Value × Value)) (k : Nat) (c : Value × Value), cs[k]? = some c → (cs.flatMap fun c => [c.1, c.2])[k * 2]? = some c.1 ∧ (cs.flatMap fun c => [c.1, c.2])[k * 2 + 1]? = some c.2 := by
      intro cs
      induction cs with
      | nil => intro k c h; simp at h
      | cons x cs ih =>
        intro k c h
        cases k with
        | zero =>
          obtain rfl : x = c := by simpa using h
          exact ⟨rfl, rfl⟩
        | succ k =>
          have := ih k c (by simpa using h)
          rw [show (k + 1) * 2 = k * 2 + 1 + 1 by omega, List.flatMap_cons]
          simpa using this
    obtain ⟨f1, f2⟩ := hf cs k c hc
    have d1 := h2.cells (g := g) rfl _ _ f1
    have d2 := h2.cells (g := g) rfl _ _ f2
    rw [addr_add] at d1 d2
    rw [show 0 + (k * 2 + 1) = 0 + k * 2 + 1 by omega] at d2
    rw [e1] at d1
    rw [e2] at d2
    exact ⟨A1, c1, A2, c2, d1, d2, i1, i2, n1, n2⟩
/-- A task that was handed out lies as one that came in. -/
theorem GotD.isD {p q : Int} {T : Task} {w w' : World} {e : Ending} (h : GotD p q T w e w') (hF : FewT T) (hW : DTab w) : ∃ s : Sh, e = .returned (s.arg p q) ∧ IsD w' s T ∧ Below w.heap.size w w' := by
  obtain ⟨u1, u2, u3, u4, he, h1, h2, h3, h4, b⟩ := h
  obtain ⟨P, pc, rfl, t1, n1⟩ := h1.slice
  obtain ⟨E, ec, rfl, t2, n2⟩ := h2.slice'
  obtain ⟨F, fc, rfl, t3, n3⟩ := h3.slice
  have q2 := own_cap h2
  have q3 := own_cap h3
  obtain ⟨R, rc, rfl, t4, n4⟩ := h4.slice
  exact ⟨⟨P, _, pc, E, _, ec, F, _, fc, R, _, rc⟩, he, ⟨⟨rfl, rfl, rfl, rfl, t1, t2, t3, t4, n1, n2, n3, n4⟩, hF, hW.via b, q2, q3⟩, b⟩

open Classical in
noncomputable def touchesV (T : Task) (x : Int) : List Int := if MayT T then nums (touL T.futures x) else []
open Classical in
noncomputable def feedsV (T : Task) (x : Int) : List Int := if MayT T then feedsL T.edges T.futures x else []
/-- What the program's functions answer. -/
structure DescOk : Prop where
  check : ∀ {s T} (w : World), IsD w s T → Calls Tryd.prog 11 #[s.arg T.period T.deadline] w fun e w' => e = .returned (.int .i64 (chkT T)) ∧ Below w.heap.size w w'
  touches : ∀ {s T} (w : World) (x : Int), -9223372036854775808 ≤ x → x ≤ 9223372036854775807 → IsD w s T → Calls Tryd.prog 16 #[s.arg T.period T.deadline, .int .i64 x] w (GotInts (touchesV T x) w)
  feeds : ∀ {s T} (w : World) (x : Int), -9223372036854775808 ≤ x → x ≤ 9223372036854775807 → IsD w s T → Calls Tryd.prog 17 #[s.arg T.period T.deadline, .int .i64 x] w (GotInts (feedsV T x) w)
  same : ∀ {s T s' T'} (w : World), IsD w s T → IsD w s' T' → Calls Tryd.prog 14 #[s.arg T.period T.deadline, s'.arg T'.period T'.deadline] w fun e w' => e = .returned (.bool (decide (T = T'))) ∧ Below w.heap.size w w'
end Go.Proofs.YtpckmhmabmmllaaDoor
set_option linter.unusedVariables false
namespace Go.Proofs.YtpckmhmabmmllaaDoor
open Go.RowKit

def exT : Task := ⟨8, 8, [(1, 0, 1), (1, 0, 1), (2, 0, 5)], [(0, 2)], [(1, 2, 3)], [([0], [1])]⟩
def noT : Task := ⟨0, 0, [], [], [], []⟩
theorem exFew : FewT exT := ⟨by decide, by decide, by decide, by decide, by decide⟩
theorem noFew : FewT noT := ⟨by decide, by decide, by decide, by decide, by decide⟩
theorem rowOk_one {np : Nat} {x : Int} (h0 : 0 ≤ x) (h1 : x < np) : RowOk np [x] := by
  refine ⟨by simp, fun y hy => ?_, fun i a b ha hb => ?_⟩
  · obtain rfl : y = x := by simpa using hy
    exact ⟨h0, h1⟩
  · have := (List.getElem?_eq_some_iff.1 hb).1
    simp at this
theorem exMay : MayT exT where
  few := by unfold ManyT; decide
  time := by decide
  parts := by decide
  edges := ⟨by unfold Fits; decide, by decide, by decide⟩
  futures := by
    refine ⟨fun f hf => ?_, by decide⟩
    obtain rfl : f = (1, 2, 3) := by simpa [exT] using hf
    refine ⟨by decide, by decide, by decide, by decide, fun e he => ?_⟩
    have : e = (2, 0, 5) := by
      have h2 : (exT.parts)[2]? = some (2, 0, 5) := rfl
      rw [show ((1, 2, 3) : Int × Int × Int).2.1.toNat = 2 from rfl, h2] at he
      exact (Option.some.inj he).symm
    rw [this]
    decide
  bars := fun b hb => by
    obtain rfl : b = ([0], [1]) := by simpa [exT] using hb
    exact ⟨rowOk_one (by decide) (by decide), rowOk_one (by decide) (by decide), by decide⟩
theorem exCheck : chkT exT = 0 := chkT_zero.mpr exMay
theorem noCheck : chkT noT = 50 := by unfold chkT; rw [if_pos (.inl (by decide))]
theorem exTouches : touchesV exT 2 = [0] := by unfold touchesV; rw [if_pos exMay]; decide +kernel
theorem exFeeds : feedsV exT 2 = [0, 1] := by unfold feedsV; rw [if_pos exMay]; decide +kernel
theorem ex_no : exT ≠ noT := by decide

/-! Touches rise -/
theorem touK_rises {fs : List (Int × Int × Int)} {x : Int} (hn : (fs.map fun f => f.2).Nodup) : ∀ a, (touK fs x a).Pairwise fun i j => (futAt fs i).2.2 < (futAt fs j).2.2
  | 0 => List.Pairwise.nil
  | a + 1 => by
    show (touK fs x a ++ selF fs x (a + 1) fs.length).Pairwise _
    rw [List.pairwise_append]
    refine ⟨touK_rises hn a, ?_, fun i hi j hj => ?_⟩
    · have hone : ∀ i ∈ selF fs x (a + 1) fs.length, ∀ j ∈ selF fs x (a + 1) fs.length, i = j := fun i hi j hj => by
        obtain ⟨h1, h2, h3⟩ := mem_selF.mp hi
        obtain ⟨k1, k2, k3⟩ := mem_selF.mp hj
        have e : (futAt fs i).2 = (futAt fs j).2 := Prod.ext (h2.trans k2.symm) (h3.trans k3.symm)
        unfold futAt at e
        rw [List.getD_eq_getElem?_getD, List.getElem?_eq_getElem h1, List.getD_eq_getElem?_getD, List.getElem?_eq_getElem k1] at e
        have h4 : i < (fs.map fun f => f.2).length := by simpa using h1
        have h5 : j < (fs.map fun f => f.2).length := by simpa using k1
        refine (List.getElem_inj (h₀ := h4) (h₁ := h5) hn).mp ?_
        simpa using e
      have hnd := selF_nodup fs x (a + 1) fs.length
      rcases hs : selF fs x (a + 1) fs.length with _ | ⟨i, _ | ⟨j, l⟩⟩
      · exact List.Pairwise.nil
      · exact List.pairwise_singleton _ _
      · rw [hs] at hone hnd
        have := hone i (by simp) j (by simp)
        subst this
        simp at hnd
    · have h1 := (mem_touK.mp hi).2.2.2
      have h2 := (mem_selF.mp hj).2.2
      omega
end Go.Proofs.YtpckmhmabmmllaaDoor
