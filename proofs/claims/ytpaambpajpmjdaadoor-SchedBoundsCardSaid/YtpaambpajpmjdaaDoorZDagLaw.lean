/- What the walks of layer 4's laws ask of the program's functions, in the seat YtpaambpajpmjdaaDoor (proved elsewhere), and the contract of awake of trefoillaw04. No statement is proved here. -/
import Derived.Test.YtpaambpajpmjdaaDoorZOwnDag
import Derived.Test.YtpaambpajpmjdaaDoorZRefLong
import Derived.Test.YtpaambpajpmjdaaDoorZM1
set_option linter.unusedSimpArgs false
set_option linter.unusedVariables false
namespace Go.Proofs.YtpaambpajpmjdaaDoor
open Go.RowKit

/-- A graph, as it is handed over: two slices that read as its works and its edges. -/
structure IsG (w : World) (A : Option Addr) (n c : Nat) (F : Option Addr) (m d : Nat) (W : List Int) (E : List (Int × Int)) : Prop where
  hn : W.length = n
  hm : E.length = m
  ln : n ≤ 400
  lm : m ≤ 400
  ints : Ints w w.heap.size A W
  pairs : Pairs w w.heap.size F E
  hA : A = none → n = 0 ∧ c = 0
  hF : F = none → m = 0 ∧ d = 0
  tab : Tab64 w
theorem IsG.below {w w' : World} {A : Option Addr} {n c : Nat} {F : Option Addr} {m d : Nat} {W : List Int} {E : List (Int × Int)} (h : IsG w A n c F m d W E) (hb : Below w.heap.size w w') : IsG w' A n c F m d W E :=
  ⟨h.hn, h.hm, h.ln, h.lm, (h.ints.below hb).more hb.size, (h.pairs.below hb).more hb.size, h.hA, h.hF, h.tab.via hb⟩
theorem OwnI.none_nil {w : World} {b : Nat} {n c : Nat} {zs : List Int} (h : OwnI w b (.slice none n c) zs) : n = 0 ∧ c = 0 := by
  rcases h.2 with ⟨hv, hn⟩ | ⟨g, cap, cur, hv, _⟩
  · injection hv with _ h1 h2
    exact ⟨h1, h2⟩
  · injection hv with h1
    cases h1
theorem OwnE.none_nil {w : World} {b : Nat} {n c : Nat} {es : List (Int × Int)} (h : OwnE w b (.slice none n c) es) : n = 0 ∧ c = 0 := by
  rcases h.2 with ⟨hv, hn⟩ | ⟨g, cap, cur, hv, _⟩
  · injection hv with _ h1 h2
    exact ⟨h1, h2⟩
  · injection hv with h1
    cases h1
theorem own_isG {w : World} {b : Nat} {u v : Value} {W : List Int} {E : List (Int × Int)} (ht : Tab64 w) (hu : OwnI w b u W) (hv : OwnE w b v E) (hW : W.length ≤ 400) (hE : E.length ≤ 400) :
    ∃ A c F d, u = .slice A W.length c ∧ v = .slice F E.length d ∧ IsG w A W.length c F E.length d W E := by
  obtain ⟨A, c, rfl, h1⟩ := hu.slice
  obtain ⟨F, d, rfl, h2⟩ := hv.slice
  refine ⟨A, c, F, d, rfl, rfl, ⟨rfl, rfl, hW, hE, h1, h2, ?_, ?_, ht⟩⟩
  · rintro rfl; exact hu.none_nil
  · rintro rfl; exact hv.none_nil

open Classical in
noncomputable def totalV (W : List Int) (E : List (Int × Int)) : Int := if May W E then W.sum else 0
open Classical in
noncomputable def orderV (W : List Int) (E : List (Int × Int)) : List Int := if May W E then nums (ord W.length E) else []
open Classical in
noncomputable def predsV (W : List Int) (E : List (Int × Int)) (x : Int) : List Int := if May W E then predsL W.length E x else []
open Classical in
noncomputable def succsV (W : List Int) (E : List (Int × Int)) (x : Int) : List Int := if May W E then succsL W.length E x else []
open Classical in
noncomputable def beforeV (W : List Int) (E : List (Int × Int)) (a b : Int) : Bool := if May W E ∧ 0 ≤ a ∧ 0 ≤ b ∧ Way E a.toNat b.toNat then true else false
open Classical in
noncomputable def longV (W : List Int) (E : List (Int × Int)) : Int := if May W E then most (farK W E W.length) else 0

/-! The chapter's example -/
theorem acyc_of {n : Nat} {E : List (Int × Int)} (hF : Fits n E) (h : ∀ a, a < n → (reach n E a).getD a false = false) : Acyc E := fun a ha => by
  have h1 := (reach_iff hF a a).mpr ha
  rw [h a (ha.lt hF).1] at h1
  cases h1
def exW : List Int := [2, 3, 4]
def exE : List (Int × Int) := [(0, 2), (1, 2)]
theorem exFits : Fits 3 exE := by unfold Fits; decide
theorem exMay : May exW exE := ⟨by decide, by decide, by unfold WorkOk; decide, exFits, by decide, by decide, acyc_of exFits (by decide)⟩
theorem exCheck : chkE exW exE = 0 := chkE_zero.mpr exMay
theorem exTotal : totalV exW exE = 9 := by unfold totalV; rw [if_pos exMay]; decide
theorem exLong : longV exW exE = 7 := by unfold longV; rw [if_pos exMay]; decide
theorem exOrder : orderV exW exE = [0, 1, 2] := by unfold orderV; rw [if_pos exMay]; decide
theorem exPreds : predsV exW exE 2 = [0, 1] := by unfold predsV; rw [if_pos exMay]; decide
theorem exSuccs : succsV exW exE 0 = [2] := by unfold succsV; rw [if_pos exMay]; decide
theorem exBefore1 : beforeV exW exE 1 2 = true := by
  unfold beforeV
  rw [if_pos]
  exact ⟨exMay, by decide, by decide, (reach_iff exFits 1 2).mp (by decide)⟩
theorem exBefore0 : beforeV exW exE 0 1 = false := by
  unfold beforeV
  rw [if_neg]
  rintro ⟨_, _, _, h⟩
  have := (reach_iff exFits 0 1).mpr h
  revert this
  decide
def roW : List Int := [1, 1]
def roE : List (Int × Int) := [(0, 1), (1, 0)]
theorem roFits : Fits 2 roE := by unfold Fits; decide
theorem roCheck : chkE roW roE = 43 := by
  refine chkE_round (plainE_zero.mpr ⟨by decide, by unfold WorkOk; decide, roFits, by decide, by decide⟩) (fun h => h 0 ?_)
  exact (reach_iff roFits 0 0).mp (by decide)
end Go.Proofs.YtpaambpajpmjdaaDoor
