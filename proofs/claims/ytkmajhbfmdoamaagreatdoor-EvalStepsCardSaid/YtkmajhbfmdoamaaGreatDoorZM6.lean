/- The contract of math/bits.TrailingZeros64 in the seat YtkmajhbfmdoamaaGreatDoor, over a world that holds its table.
   What the walks of layer 5 ask of a world's package variables, in the seat YtkmajhbfmdoamaaGreatDoor: math/bits' table of 64. (Copy over DTab.tpl for a landed program that reads it.)
   The contract of trefoilref05.Few in the seat YtkmajhbfmdoamaaGreatDoor.
   A task as it is handed over, in the seat YtkmajhbfmdoamaaGreatDoor (parted out of DescLaw in round 6).
   What the walks of layer 5's laws ask of the program's functions, in the seat YtkmajhbfmdoamaaGreatDoor (proved elsewhere).
   No statement is proved here. -/
import Derived.Test.YtkmajhbfmdoamaaGreatDoorChecked
import Derived.WalkKit
import Derived.Handy
import Derived.KernelRfl
import Derived.Below
import Derived.Laws.Bits64b
import Derived.Lib.TrailingZeros
import Derived.Lib.Hide
import Derived.Test.YtkmajhbfmdoamaaGreatDoorZDescCheck
import Derived.Test.YtkmajhbfmdoamaaGreatDoorZDescOwn
import Derived.Test.YtkmajhbfmdoamaaGreatDoorZM12
set_option linter.unusedSimpArgs false
set_option linter.unusedVariables false
namespace Go.Proofs.YtkmajhbfmdoamaaGreatDoor
open Go.RowKit

/-- The table of math/bits in its variable. -/
def Tab64 (w : World) : Prop := ∀ j, j < Lib.deBruijn64tab.length → w.cell? ⟨1, j, none⟩ = some (.int .u8 (Lib.deBruijn64tab.getD j 0))
theorem Tab64.below {w w' : World} {B : Nat} (h : Tab64 w) (hb : Below B w w') (hB : 1 < B) : Tab64 w' := fun j hj => (hb.cell (p := ⟨1, j, none⟩) hB).trans (h j hj)
theorem Tab64.lt {w : World} (h : Tab64 w) : 1 < w.heap.size := World.block_lt_of_cell? _ _ (h 0 (by decide))
theorem Tab64.via {w w' : World} (h : Tab64 w) (hb : Below w.heap.size w w') : Tab64 w' := h.below hb h.lt

set_option maxHeartbeats 1000000 in
theorem tz64_core (x k idx : Nat) (w : World) (hx0 : ((x : Int) == 0) = false)
    (key : IntKind.u64.wrap (bits BinOp.and IntKind.u64 (x : Int) (IntKind.u64.wrap (-(x : Int))) * 285870213051353865) / 288230376151711744 = (idx : Int))
    (hi : idx < 64) (hk : k < 64) (hcell : w.cell? ⟨1, idx, none⟩ = some (.int .u8 k)) :
    Calls Tryz.prog 138 #[.int .u64 x] w fun e w' => e = .returned (.int .i64 k) ∧ w = w' := by
  go_enter Tryz.func138, Tryz.ntmps138
  go_wp2_with (simp only [key])
  go_ret
  exact ⟨rfl, rfl⟩
theorem tz64_at (x a : Nat) (hx : x < 18446744073709551616) (hx0 : x ≠ 0) (hlow : x &&& (18446744073709551616 - x) = a) :
    IntKind.u64.wrap (bits BinOp.and IntKind.u64 (x : Int) (IntKind.u64.wrap (-(x : Int))) * 285870213051353865) / 288230376151711744 = ((a * 285870213051353865 % 18446744073709551616 / 288230376151711744 : Nat) : Int) := by
  have e1 : IntKind.u64.wrap (-(x : Int)) = ((18446744073709551616 - x : Nat) : Int) := by rw [IntKind.wrap_u64]; omega
  rw [e1, bits_and_u64_nat x _ hx (by omega), hlow, IntKind.wrap_u64]
  omega
theorem tz64_any (x : Nat) (w : World) (hx : x < 18446744073709551616) (hx0 : x ≠ 0) (hT : Tab64 w) :
    Calls Tryz.prog 138 #[.int .u64 x] w fun e w' => e = .returned (.int .i64 (Lib.ctz 64 x)) ∧ w = w' := by
  obtain ⟨hlow, hk⟩ := Lib.lowest_bit 64 x hx0 hx
  obtain ⟨hi, htab⟩ := Lib.deBruijn64_at _ hk
  have hcell := hT _ hi
  rw [htab] at hcell
  exact tz64_core x _ _ w (by simp; omega) (tz64_at x _ hx hx0 hlow) hi hk hcell
end Go.Proofs.YtkmajhbfmdoamaaGreatDoor
namespace Go.Proofs.YtkmajhbfmdoamaaGreatDoor
open Go Go.RowKit
def DTab (w : World) : Prop := Tab64 w
theorem DTab.via {w w' : World} (h : DTab w) (hb : Below w.heap.size w w') : DTab w' := Tab64.via h hb
end Go.Proofs.YtkmajhbfmdoamaaGreatDoor
set_option linter.unusedVariables false
namespace Go.Proofs.YtkmajhbfmdoamaaGreatDoor
open Go.RowKit

def barsFew (bs : List (List Int × List Int)) (k : Nat) : Prop := ∀ i, i < k → ∀ b, bs[i]? = some b → b.1.length ≤ 20 ∧ b.2.length ≤ 20
structure FewD (T : Task) : Prop where
  bars : barsFew T.bars 9
  np : T.parts.length ≤ 20
  ne : T.edges.length ≤ 60
  nf : T.futures.length ≤ 20
  nr : T.bars.length ≤ 8
theorem FewD.few {T : Task} (h : FewD T) : FewT T := by
  refine ⟨by have := h.np; omega, by have := h.ne; omega, by have := h.nf; omega, by have := h.nr; omega, fun b hb => ?_⟩
  obtain ⟨i, hi, e⟩ := List.getElem_of_mem hb
  have hn := h.nr
  have := h.bars i (by omega) b (by rw [List.getElem?_eq_getElem hi, e])
  omega
theorem barsFew_step {bs : List (List Int × List Int)} {k : Nat} {b : List Int × List Int} (h : barsFew bs k) (hb : bs[k]? = some b) (h1 : b.1.length ≤ 20) (h2 : b.2.length ≤ 20) : barsFew bs (k + 1) := by
  intro i hi c hc
  by_cases e : i = k
  · rw [e, hb] at hc
    injection hc with hc
    rw [← hc]
    exact ⟨h1, h2⟩
  · exact h i (by omega) c hc
set_option maxRecDepth 100000 in
set_option maxHeartbeats 4000000 in
theorem dfew_any (s : Sh) (T : Task) (p q : Int) (r : Bool) (hr : r = true ↔ FewD T) (w : World) (hT : IsT w w.heap.size s T) :
    Calls Tryz.prog 20 #[s.arg p q] w fun e w' => e = .returned (.bool r) ∧ Below w.heap.size w w' := by
  obtain ⟨P, np, pc, E, ne, ec, F, nf, fc, R, nr, rc⟩ := s
  have B0 := Lib.hid (BxT.start hT p q)
  have hp := hT.hp
  have he := hT.he
  have hf := hT.hf
  have hrr := hT.hr
  simp only at hp he hf hrr
  have HR := Lib.hid (show r = true ↔ barsFew T.bars 9 ∧ np ≤ 20 ∧ ne ≤ 60 ∧ nf ≤ 20 ∧ nr ≤ 8 by
    rw [hr, ← hp, ← he, ← hf, ← hrr]
    exact ⟨fun h => ⟨h.bars, h.np, h.ne, h.nf, h.nr⟩, fun h => ⟨h.1, h.2.1, h.2.2.1, h.2.2.2.1, h.2.2.2.2⟩⟩)
  have HN := Lib.hid hrr
  have HT := Lib.hid hT
  simp only [Sh.arg]
  clear hr hp he hf hrr hT
  go_enter Tryz.func20, Tryz.ntmps20
  go_wp2
  go_loop [3] (fun v => ∃ k : Nat, k ≤ nr ∧ k ≤ 9 ∧ v = .int .i64 k ∧ Hid (barsFew T.bars k)) (fun v => 9 - (intOf v).toNat)
  case atStart => exact ⟨0, Nat.zero_le _, by omega, rfl, Lib.hid (fun i hi => by omega)⟩
  case round =>
    obtain ⟨k, hk, hk9, rfl, HF⟩ := hrel
    by_cases hlt : k < nr ∧ k < 9
    · obtain ⟨bk, off, xs, ys, A1, n1, c1, A2, n2, c2, hR, hbg, hbj, hl1, hl2, dq1, dq2, _, _, _, _⟩ := HT.out.bars.at_ (k := k) (by rw [HN.out]; exact hlt.1)
      simp only at hR
      subst hR
      have hkn := hlt.1
      have hk9' := hlt.2
      have g1 : decide ((k : Int) < (nr : Int)) = true := by rw [decide_eq_true_iff]; omega
      have g2 : decide ((k : Int) < 9) = true := by rw [decide_eq_true_iff]; omega
      clear hlt
      by_cases h1 : n1 ≤ 20
      · have g3 : decide ((20 : Int) < (n1 : Int)) = false := by rw [decide_eq_false_iff_not]; omega
        by_cases h2 : n2 ≤ 20
        · have g4 : decide ((20 : Int) < (n2 : Int)) = false := by rw [decide_eq_false_iff_not]; omega
          have HST := Lib.hid (barsFew_step HF.out hbj (by rw [hl1]; exact h1) (by rw [hl2]; exact h2))
          clear hbj hl1 hl2
          go_wp2
          go_round
          case rel => exact ⟨k + 1, by omega, by omega, by go_num, HST⟩
          case measure => simp [intOf]; omega
        · have g4 : decide ((20 : Int) < (n2 : Int)) = true := by rw [decide_eq_true_iff]; omega
          have HX := Lib.hid (show r = false by
            rw [← Bool.not_eq_true]
            intro h
            have := ((HR.out.mp h).1 k hk9' _ hbj).2
            simp only at this
            rw [hl2] at this
            exact h2 this)
          clear hbj hl1 hl2
          go_wp2
          go_ret
          exact ⟨by rw [HX.out]; rfl, B0.out.b.bel⟩
      · have g3 : decide ((20 : Int) < (n1 : Int)) = true := by rw [decide_eq_true_iff]; omega
        have HX := Lib.hid (show r = false by
          rw [← Bool.not_eq_true]
          intro h
          have := ((HR.out.mp h).1 k hk9' _ hbj).1
          simp only at this
          rw [hl1] at this
          exact h1 this)
        clear hbj hl1 hl2
        go_wp2
        go_ret
        exact ⟨by rw [HX.out]; rfl, B0.out.b.bel⟩
    · have HALL : Hid (k = nr ∨ (k < nr ∧ k = 9)) := Lib.hid (by omega)
      have HBF : Hid (barsFew T.bars 9) := Lib.hid (fun i hi b hb => by
        rcases HALL.out with e | ⟨_, e⟩
        · have := (List.getElem?_eq_some_iff.1 hb).1
          rw [HN.out] at this
          exact HF.out i (by omega) b hb
        · exact HF.out i (by omega) b hb)
      by_cases hF : np ≤ 20 ∧ ne ≤ 60 ∧ nf ≤ 20 ∧ nr ≤ 8
      · have HX := Lib.hid (HR.out.mpr ⟨HBF.out, hF⟩)
        obtain ⟨h1, h2, h3, h4⟩ := hF
        have e : k = nr := by omega
        subst e
        clear hlt
        go_wp2
        go_ret
        exact ⟨by rw [HX.out]; first | rfl | (refine congrArg (fun b => Ending.returned (Value.bool b)) (?_ : decide _ = _); rw [decide_eq_true_iff]; omega), B0.out.b.bel⟩
      · have HX := Lib.hid (show r = false by
          rw [← Bool.not_eq_true]
          exact fun h => hF (HR.out.mp h).2)
        rcases (show (k = nr ∧ 20 < np) ∨ (k = nr ∧ np ≤ 20 ∧ 60 < ne) ∨ (k = nr ∧ np ≤ 20 ∧ ne ≤ 60 ∧ 20 < nf) ∨ (k = nr ∧ np ≤ 20 ∧ ne ≤ 60 ∧ nf ≤ 20 ∧ 8 < nr) ∨ (k < nr ∧ k = 9 ∧ 20 < np) ∨ (k < nr ∧ k = 9 ∧ np ≤ 20 ∧ 60 < ne) ∨ (k < nr ∧ k = 9 ∧ np ≤ 20 ∧ ne ≤ 60 ∧ 20 < nf) ∨ (k < nr ∧ k = 9 ∧ np ≤ 20 ∧ ne ≤ 60 ∧ nf ≤ 20 ∧ 8 < nr) by have := HALL.out; omega)
          with ⟨e, h1⟩ | ⟨e, h1, h2⟩ | ⟨e, h1, h2, h3⟩ | ⟨e, h1, h2, h3, h4⟩ | ⟨e0, e, h1⟩ | ⟨e0, e, h1, h2⟩ | ⟨e0, e, h1, h2, h3⟩ | ⟨e0, e, h1, h2, h3, h4⟩
        all_goals
          subst e
          clear hlt hF HALL
          go_wp2
          go_ret
          exact ⟨by rw [HX.out]; first | rfl | (refine congrArg (fun b => Ending.returned (Value.bool b)) (?_ : decide _ = _); rw [decide_eq_false_iff_not]; omega), B0.out.b.bel⟩
end Go.Proofs.YtkmajhbfmdoamaaGreatDoor
set_option linter.unusedVariables false
namespace Go.Proofs.YtkmajhbfmdoamaaGreatDoor
open Go.RowKit

/-- A task, as it is handed over: of sizes that are held to. -/
structure IsD (w : World) (s : Sh) (T : Task) : Prop where
  t : IsT w w.heap.size s T
  few : FewT T
  tab : DTab w
  lE : s.ne ≤ s.ec
  lF : s.nf ≤ s.fc
theorem IsD.below {w w' : World} {s : Sh} {T : Task} (h : IsD w s T) (hb : Below w.heap.size w w') : IsD w' s T := ⟨(h.t.below hb).more hb.size, h.few, h.tab.via hb, h.lE, h.lF⟩
theorem own_cap {w : World} {base : Nat} {t : TypeId} {k : Nat} {A : Option Addr} {n c : Nat} {xs : List Value} (h : w.ownsRow base t k (.slice A n c) n xs) : n ≤ c := by
  rcases h.2 with ⟨h1, h2⟩ | ⟨g, cap, cur, h1, _, _, h2, _⟩
  · injection h1 with _ _ h3
    omega
  · injection h1 with _ _ h3
    omega
theorem Ints.cap {w : World} {b : Nat} {v : Value} {zs : List Int} (h : OwnI w b v zs) : ∃ A c, v = .slice A zs.length c ∧ Ints w w.heap.size A zs ∧ (A = none → zs.length = 0 ∧ c = 0) := by
  obtain ⟨A, c, e, hI⟩ := h.slice
  refine ⟨A, c, e, hI, fun hA => ?_⟩
  rcases h.2 with ⟨h1, hn⟩ | ⟨g, cap, cur, h1, _⟩
  · rw [e] at h1
    injection h1 with _ h2 h3
    exact ⟨h2, h3⟩
  · rw [e, hA] at h1
    injection h1 with h2
    cases h2
/-- A list of barriers of the call's own reads as one. -/
theorem OwnB.slice {w : World} {base : Nat} {v : Value} {bs : List (List Int × List Int)} (h : OwnB w base v bs) : ∃ A c, v = .slice A bs.length c ∧ Bars w w.heap.size A bs ∧ (A = none → bs.length = 0 ∧ c = 0) := by
  obtain ⟨cs, h1, h2, h3⟩ := h
  rcases h2.2 with ⟨rfl, hn⟩ | ⟨g, cap, cur, rfl, hg, hgg, rest⟩
  · have : bs = [] := List.eq_nil_of_length_eq_zero hn
    subst this
    exact ⟨none, 0, rfl, (fun h0 => absurd h0 (by simp)), fun _ => ⟨rfl, rfl⟩⟩
  · refine ⟨some ⟨g, 0, none⟩, cap, rfl, (fun _ => ⟨g, 0, rfl, (Array.getElem?_eq_some_iff.1 hgg).1, fun k b hb => ?_⟩), fun e => by cases e⟩
    have hk : k < bs.length := (List.getElem?_eq_some_iff.1 hb).1
    obtain ⟨c, hc⟩ : ∃ c, cs[k]? = some c := ⟨_, List.getElem?_eq_getElem (by omega)⟩
    obtain ⟨q1, q2⟩ := h3 k c b hc hb
    obtain ⟨A1, c1, e1, i1, n1⟩ := Ints.cap q1
    obtain ⟨A2, c2, e2, i2, n2⟩ := Ints.cap q2
    have hf : ∀ (cs : List (Value × Value)) (k : Nat) (c : Value × Value), cs[k]? = some c → (cs.flatMap fun c => [c.1, c.2])[k * 2]? = some c.1 ∧ (cs.flatMap fun c => [c.1, c.2])[k * 2 + 1]? = some c.2 := by
      intro cs
      induction cs with
      | nil => intro k c h; simp at h
      | cons x cs ih =>
        intro k c h
        cases k with
        | zero =>
          obtain rfl : x = c := by simpa using h
          exact ⟨rfl, rfl⟩
        | succ k =>
          have := ih k c (by simpa using h)
          rw [show (k + 1) * 2 = k * 2 + 1 + 1 by omega, List.flatMap_cons]
          simpa using this
    obtain ⟨f1, f2⟩ := hf cs k c hc
    have d1 := h2.cells (g := g) rfl _ _ f1
    have d2 := h2.cells (g := g) rfl _ _ f2
    rw [addr_add] at d1 d2
    rw [show 0 + (k * 2 + 1) = 0 + k * 2 + 1 by omega] at d2
    rw [e1] at d1
    rw [e2] at d2
    exact ⟨A1, c1, A2, c2, d1, d2, i1, i2, n1, n2⟩
/-- A task that was handed out lies as one that came in. -/
theorem GotD.isD {p q : Int} {T : Task} {w w' : World} {e : Ending} (h : GotD p q T w e w') (hF : FewT T) (hW : DTab w) : ∃ s : Sh, e = .returned (s.arg p q) ∧ IsD w' s T ∧ Below w.heap.size w w' := by
  obtain ⟨u1, u2, u3, u4, he, h1, h2, h3, h4, b⟩ := h
  obtain ⟨P, pc, rfl, t1, n1⟩ := h1.slice
  obtain ⟨E, ec, rfl, t2, n2⟩ := h2.slice'
  obtain ⟨F, fc, rfl, t3, n3⟩ := h3.slice
  have q2 := own_cap h2
  have q3 := own_cap h3
  obtain ⟨R, rc, rfl, t4, n4⟩ := h4.slice
  exact ⟨⟨P, _, pc, E, _, ec, F, _, fc, R, _, rc⟩, he, ⟨⟨rfl, rfl, rfl, rfl, t1, t2, t3, t4, n1, n2, n3, n4⟩, hF, hW.via b, q2, q3⟩, b⟩

end Go.Proofs.YtkmajhbfmdoamaaGreatDoor
set_option linter.unusedVariables false
namespace Go.Proofs.YtkmajhbfmdoamaaGreatDoor
open Go.RowKit

open Classical in
noncomputable def touchesV (T : Task) (x : Int) : List Int := if MayT T then nums (touL T.futures x) else []
open Classical in
noncomputable def feedsV (T : Task) (x : Int) : List Int := if MayT T then feedsL T.edges T.futures x else []
end Go.Proofs.YtkmajhbfmdoamaaGreatDoor
