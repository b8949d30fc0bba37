/- lower.Node, Last and Same over lowered tasks, in the seat YtkmajhbfmdoamaaGreatDoor: their contracts.
   Layer 7's example, in plain words, in the seat YtkmajhbfmdoamaaGreatDoor.
   No statement is proved here. -/
import Derived.Test.YtkmajhbfmdoamaaGreatDoorZM22
import Derived.Test.YtkmajhbfmdoamaaGreatDoorZM20
set_option linter.unusedSimpArgs false
set_option linter.unusedVariables false
namespace Go.Proofs.YtkmajhbfmdoamaaGreatDoor
open Go.RowKit

/-- A lowered task, as it is handed over. -/
structure IsL (w : World) (A : Option Addr) (n c : Nat) (F : Option Addr) (m d : Nat) (R : Option Addr) (k e : Nat) (W : List Int) (E P : List (Int × Int)) : Prop where
  g : IsG w A n c F m d W E
  hk : P.length = k
  lk : k ≤ 400
  pcs : Pairs w w.heap.size R P
theorem IsL.below {w w' : World} {A : Option Addr} {n c : Nat} {F : Option Addr} {m d : Nat} {R : Option Addr} {k e : Nat} {W : List Int} {E P : List (Int × Int)} (h : IsL w A n c F m d R k e W E P) (hb : Below w.heap.size w w') : IsL w' A n c F m d R k e W E P :=
  ⟨h.g.below hb, h.hk, h.lk, (h.pcs.below hb).more hb.size⟩
theorem OwnP.pairs {w : World} {base : Nat} {v : Value} {ps : List (Int × Int)} (h : OwnP w base v ps) : ∃ A c, v = .slice A ps.length c ∧ Pairs w w.heap.size A ps := by
  rcases h.2 with ⟨rfl, hn⟩ | ⟨g, cap, cur, rfl, hg, hgg, rest⟩
  · have : ps = [] := List.eq_nil_of_length_eq_zero hn
    subst this
    exact ⟨none, 0, rfl, fun h0 => absurd h0 (by simp)⟩
  · refine ⟨some ⟨g, 0, none⟩, cap, rfl, fun _ => ⟨g, 0, rfl, (Array.getElem?_eq_some_iff.1 hgg).1, fun k e he => ?_⟩⟩
    obtain ⟨h1, h2⟩ := flatE_at he
    have h' : w.ownsRow base 81 2 (.slice (some ⟨g, 0, none⟩) ps.length cap) ps.length (flatE ps) := h
    have c1 := h'.cells (g := g) rfl _ _ h1
    have c2 := h'.cells (g := g) rfl _ _ h2
    rw [addr_add] at c1 c2
    rw [show 0 + (k * 2 + 1) = 0 + k * 2 + 1 by omega] at c2
    exact ⟨c1, c2⟩
theorem own_isL {w : World} {b : Nat} {u v x : Value} {W : List Int} {E P : List (Int × Int)} (ht : Tab64 w) (hu : OwnI w b u W) (hv : OwnE w b v E) (hx : OwnP w b x P) (hW : W.length ≤ 400) (hE : E.length ≤ 400) (hP : P.length ≤ 400) :
    ∃ A c F d R e, u = .slice A W.length c ∧ v = .slice F E.length d ∧ x = .slice R P.length e ∧ IsL w A W.length c F E.length d R P.length e W E P := by
  obtain ⟨A, c, F, d, rfl, rfl, hg⟩ := own_isG ht hu hv hW hE
  obtain ⟨R, e, rfl, hp⟩ := hx.pairs
  exact ⟨A, c, F, d, R, e, rfl, rfl, rfl, hg, rfl, hP, hp⟩
/-- The last place among the first j whose part that is; -1: there is none. -/
def lastK (P : List (Int × Int)) (x : Int) : Nat → Int
  | 0 => -1
  | j + 1 => if (P.getD j (0, 0)).1 = x then (j : Int) else lastK P x j
def lastV (P : List (Int × Int)) (x : Int) : Int := if x < 0 then -1 else lastK P x P.length
section
variable {A : Option Addr} {n c : Nat} {F : Option Addr} {m d : Nat} {R : Option Addr} {k e : Nat} {W : List Int} {E P : List (Int × Int)}
set_option maxRecDepth 100000 in
set_option maxHeartbeats 2000000 in
theorem lastL_any (w : World) (x : Int) (h1 : -9223372036854775808 ≤ x) (h2 : x ≤ 9223372036854775807) (h : IsL w A n c F m d R k e W E P) :
    Calls Tryz.prog 39 #[.agg #[.slice A n c, .slice F m d, .slice R k e], .int .i64 x] w fun e w' => e = .returned (.int .i64 (lastV P x)) ∧ Below w.heap.size w w' := by
  obtain ⟨w0, hw0⟩ : ∃ w0, w0 = w.alloc (.cells #[.slice A n c, .slice F m d, .slice R k e] 60) := ⟨_, rfl⟩
  have hb0 : Below w.heap.size w w0 := by rw [hw0]; exact below_alloc _
  have hr0 : w0.heap[w.heap.size]? = some (.cells #[.slice A n c, .slice F m d, .slice R k e] 60 (0, 0)) := by rw [hw0]; exact heap_alloc_new w _
  have q2 : w0.cell? ⟨w.heap.size, 2, none⟩ = some (.slice R k e) := by rw [cell_of_row _ _ _ _ _ _ hr0]; rfl
  have HB0 := Lib.hid hb0
  have HP := Lib.hid h.pcs
  have HK := Lib.hid h.hk
  have hlk := h.lk
  clear hb0 hr0 h
  by_cases hx : x < 0
  · have HV : Hid (lastV P x = -1) := Lib.hid (by unfold lastV; rw [if_pos hx])
    go_enter Tryz.func39, Tryz.ntmps39
    go_wp2
    rw [← hw0]
    go_ret
    exact ⟨by rw [HV.out]; rfl, HB0.out⟩
  · have HV : Hid (lastV P x = lastK P x k) := Lib.hid (by unfold lastV; rw [if_neg hx, HK.out])
    have hx2 : decide (x < 0) = false := decide_eq_false hx
    go_enter Tryz.func39, Tryz.ntmps39
    go_wp2
    rw [← hw0]
    clear hw0
    go_loopw [5] (fun i wr => ∃ j : Nat, j ≤ k ∧ i = .int .i64 ((j : Int) - 1) ∧ Hid (lastV P x = lastK P x j) ∧ wr = w0) (fun i _ => (intOf i + 1).toNat)
    case atStart => exact ⟨k, Nat.le_refl _, by go_num, HV, rfl⟩
    case round =>
      obtain ⟨j, hj, rfl, HJ, rfl⟩ := hrel
      cases j with
      | zero =>
        go_wp2
        go_ret
        exact ⟨by rw [HJ.out]; rfl, HB0.out⟩
      | succ i =>
        obtain ⟨b1, o1, ⟨x1, x2⟩, rfl, hbl, hx1, hc1, hc2⟩ := HP.out.at_ (k := i) (by rw [HK.out]; omega)
        simp only at hc1 hc2
        have d1 := (HB0.out.cell (p := ⟨b1, o1 + i * 2, none⟩) hbl).trans hc1
        have HGD : Hid ((P.getD i (0, 0)).1 = x1) := Lib.hid (by rw [List.getD_eq_getElem?_getD, hx1]; rfl)
        have e1 : ((i + 1 : Nat) : Int) - 1 = (i : Int) := by omega
        rw [e1]
        clear hx1 hc1 hc2 hbl e1
        by_cases hxx : x1 = x
        · have HR : Hid (lastV P x = (i : Int)) := Lib.hid (by rw [HJ.out, lastK, if_pos (by rw [HGD.out]; exact hxx)])
          have hb : (x1 == x) = true := by simpa using hxx
          clear hxx
          go_wp2
          go_ret
          exact ⟨by rw [HR.out]; rfl, HB0.out⟩
        · have HR : Hid (lastV P x = lastK P x i) := Lib.hid (by rw [HJ.out, lastK, if_neg (by rw [HGD.out]; exact hxx)])
          have hb : (x1 == x) = false := by simpa using hxx
          have hxe : ¬ x1 = x := hxx
          clear hxx
          go_wp2
          go_roundw
          case rel => exact ⟨i, by omega, by go_num, HR, trivial⟩
          case measure => simp [intOf]
end
section
variable {A : Option Addr} {n c : Nat} {F : Option Addr} {m d : Nat} {R : Option Addr} {k e : Nat} {W : List Int} {E P : List (Int × Int)} {A' : Option Addr} {n' c' : Nat} {F' : Option Addr} {m' d' : Nat} {R' : Option Addr} {k' e' : Nat} {W' : List Int} {E' P' : List (Int × Int)}
end
end Go.Proofs.YtkmajhbfmdoamaaGreatDoor
set_option linter.unusedVariables false
namespace Go.Proofs.YtkmajhbfmdoamaaGreatDoor
open Go.RowKit

end Go.Proofs.YtkmajhbfmdoamaaGreatDoor
