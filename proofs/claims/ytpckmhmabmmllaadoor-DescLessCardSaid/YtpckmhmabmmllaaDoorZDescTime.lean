/- The contracts of trefoilref05.time and parts in the seat YtpckmhmabmmllaaDoor. No statement is proved here. -/
import Derived.Test.YtpckmhmabmmllaaDoorZM1
import Derived.Test.YtpckmhmabmmllaaDoorZM3
set_option linter.unusedVariables false
namespace Go.Proofs.YtpckmhmabmmllaaDoor
open Go.RowKit

def isTwo (p : Int) : Bool := (List.range 40).any fun k => p == ((2 ^ k : Nat) : Int)
theorem isTwo_iff {p : Int} : isTwo p = true ↔ ∃ k : Nat, k < 40 ∧ p = ((2 ^ k : Nat) : Int) := by
  unfold isTwo
  rw [List.any_eq_true]
  constructor
  · rintro ⟨k, hk, h⟩
    exact ⟨k, List.mem_range.mp hk, by simpa using h⟩
  · rintro ⟨k, hk, h⟩
    exact ⟨k, List.mem_range.mpr hk, by simpa using h⟩
theorem rtwo_any (p : Int) : ∃ k : Int, ∀ w : World, Calls Tryd.prog 58 #[.int .i64 p] w fun e w' => e = .returned (.tuple #[.int .i64 k, .bool (isTwo p)]) ∧ w = w' := by
  by_cases h : isTwo p = true
  · rw [h]
    obtain ⟨k, hk, rfl⟩ := isTwo_iff.mp h
    exact ⟨k, rtwo_yes k hk⟩
  · rw [Bool.not_eq_true] at h
    rw [h]
    refine ⟨0, fun w => rtwo_no p w fun k hk e => ?_⟩
    rw [isTwo_iff.mpr ⟨k, hk, e⟩] at h
    cases h
def timeE (p q : Int) : Bool := isTwo p && decide (p ≤ 4096) && decide (1 ≤ q) && decide (q ≤ p)
section
variable {P : Option Addr} {np pc : Nat} {E : Option Addr} {ne ec : Nat} {F : Option Addr} {nf fc : Nat} {R : Option Addr} {nr rc : Nat} {p q : Int}
set_option maxRecDepth 100000 in
theorem dtime_any (w : World) :
    Calls Tryd.prog 28 #[.agg #[.int .i64 p, .int .i64 q, .slice P np pc, .slice E ne ec, .slice F nf fc, .slice R nr rc]] w fun e w' => e = .returned (.bool (timeE p q)) ∧ Below w.heap.size w w' := by
  obtain ⟨k, hC⟩ := rtwo_any p
  have C := Lib.hid hC
  clear hC
  unfold timeE
  cases ht : isTwo p with
  | false =>
    rw [ht] at C
    clear ht
    go_enter Tryd.func28, Tryd.ntmps28
    go_wp2_with fail
    refine (C.out _).mono ?_
    rintro e w' ⟨rfl, rfl⟩
    go_wp2
    go_ret
    exact ⟨rfl, below_alloc _⟩
  | true =>
    rw [ht] at C
    clear ht
    by_cases h1 : p ≤ 4096
    · rw [decide_eq_true h1]
      by_cases h2 : 1 ≤ q
      · rw [decide_eq_true h2]
        by_cases h3 : q ≤ p
        · rw [decide_eq_true h3]
          go_enter Tryd.func28, Tryd.ntmps28
          go_wp2_with fail
          refine (C.out _).mono ?_
          rintro e w' ⟨rfl, rfl⟩
          go_wp2
          go_ret
          exact ⟨rfl, below_alloc _⟩
        · have hd : decide (q ≤ p) = false := decide_eq_false h3
          rw [hd]
          go_enter Tryd.func28, Tryd.ntmps28
          go_wp2_with fail
          refine (C.out _).mono ?_
          rintro e w' ⟨rfl, rfl⟩
          go_wp2
          go_ret
          exact ⟨rfl, below_alloc _⟩
      · rw [decide_eq_false h2]
        go_enter Tryd.func28, Tryd.ntmps28
        go_wp2_with fail
        refine (C.out _).mono ?_
        rintro e w' ⟨rfl, rfl⟩
        go_wp2
        go_ret
        exact ⟨rfl, below_alloc _⟩
    · rw [decide_eq_false h1]
      go_enter Tryd.func28, Tryd.ntmps28
      go_wp2_with fail
      refine (C.out _).mono ?_
      rintro e w' ⟨rfl, rfl⟩
      go_wp2
      go_ret
      exact ⟨rfl, below_alloc _⟩
end
/-- A part that may be (op, arg, work). -/
def partOk (e : Int × Int × Int) : Prop := 0 ≤ e.1 ∧ e.1 ≤ 5 ∧ 0 ≤ e.2.1 ∧ e.2.1 ≤ 2147483647 ∧ 1 ≤ e.2.2 ∧ e.2.2 ≤ 100
instance (e : Int × Int × Int) : Decidable (partOk e) := by unfold partOk; infer_instance
def partsOk (es : List (Int × Int × Int)) : Prop := ∀ e ∈ es, partOk e
instance (es : List (Int × Int × Int)) : Decidable (partsOk es) := by unfold partsOk; infer_instance
section
variable {P : Option Addr} {np pc : Nat} {E : Option Addr} {ne ec : Nat} {F : Option Addr} {nf fc : Nat} {R : Option Addr} {nr rc : Nat} {p q : Int}
/-- A task lies in a box of the call's own (it began in w). -/
structure BxD (w : World) (p q : Int) (P : Option Addr) (np pc : Nat) (E : Option Addr) (ne ec : Nat) (F : Option Addr) (nf fc : Nat) (R : Option Addr) (nr rc : Nat) (w' : World) : Prop where
  bel : Below w.heap.size w w'
  c0 : w'.cell? ⟨w.heap.size, 0, none⟩ = some (.int .i64 p)
  c1 : w'.cell? ⟨w.heap.size, 1, none⟩ = some (.int .i64 q)
  c2 : w'.cell? ⟨w.heap.size, 2, none⟩ = some (.slice P np pc)
  c3 : w'.cell? ⟨w.heap.size, 3, none⟩ = some (.slice E ne ec)
  c4 : w'.cell? ⟨w.heap.size, 4, none⟩ = some (.slice F nf fc)
  c5 : w'.cell? ⟨w.heap.size, 5, none⟩ = some (.slice R nr rc)
theorem BxD.next {w w1 w2 : World} (h : BxD w p q P np pc E ne ec F nf fc R nr rc w1) (hb : Below w1.heap.size w1 w2) : BxD w p q P np pc E ne ec F nf fc R nr rc w2 := by
  have hlt : w.heap.size < w1.heap.size := World.block_lt_of_cell? _ _ h.c0
  exact ⟨h.bel.trans (hb.mono h.bel.size), (hb.cell hlt).trans h.c0, (hb.cell hlt).trans h.c1, (hb.cell hlt).trans h.c2, (hb.cell hlt).trans h.c3, (hb.cell hlt).trans h.c4, (hb.cell hlt).trans h.c5⟩
theorem BxD.start (w : World) (p q : Int) (P : Option Addr) (np pc : Nat) (E : Option Addr) (ne ec : Nat) (F : Option Addr) (nf fc : Nat) (R : Option Addr) (nr rc : Nat) :
    BxD w p q P np pc E ne ec F nf fc R nr rc (w.alloc (.cells #[.int .i64 p, .int .i64 q, .slice P np pc, .slice E ne ec, .slice F nf fc, .slice R nr rc] 27)) := by
  refine ⟨below_alloc _, ?_, ?_, ?_, ?_, ?_, ?_⟩ <;> (rw [World.cell?_alloc_at _ _ _ _ rfl]; rfl)
theorem BxD.cells {w w' : World} (h : BxD w p q P np pc E ne ec F nf fc R nr rc w') : w'.cell? ⟨w.heap.size, 0, none⟩ = some (.int .i64 p) ∧ w'.cell? ⟨w.heap.size, 1, none⟩ = some (.int .i64 q) ∧ w'.cell? ⟨w.heap.size, 2, none⟩ = some (.slice P np pc) ∧
    w'.cell? ⟨w.heap.size, 3, none⟩ = some (.slice E ne ec) ∧ w'.cell? ⟨w.heap.size, 4, none⟩ = some (.slice F nf fc) ∧ w'.cell? ⟨w.heap.size, 5, none⟩ = some (.slice R nr rc) := ⟨h.c0, h.c1, h.c2, h.c3, h.c4, h.c5⟩
set_option maxRecDepth 100000 in
set_option maxHeartbeats 4000000 in
theorem dparts_any (es : List (Int × Int × Int)) (w : World) (hm : es.length = np) (hl : np ≤ 1000) (hT : Trips w w.heap.size P es) :
    Calls Tryd.prog 29 #[.agg #[.int .i64 p, .int .i64 q, .slice P np pc, .slice E ne ec, .slice F nf fc, .slice R nr rc]] w fun e w' => e = .returned (.bool (decide (partsOk es))) ∧ Below w.heap.size w w' := by
  have B0 := Lib.hid (BxD.start w p q P np pc E ne ec F nf fc R nr rc)
  have HT := Lib.hid hT
  have HM := Lib.hid hm
  obtain ⟨r, hr⟩ : ∃ r, r = decide (partsOk es) := ⟨_, rfl⟩
  rw [← hr]
  have HR := Lib.hid hr
  clear hT hm hr
  go_enter Tryd.func29, Tryd.ntmps29
  go_wp2
  go_loopw [3] (fun v wr => ∃ k : Nat, k ≤ np ∧ v = .int .i64 k ∧ Hid (BxD w p q P np pc E ne ec F nf fc R nr rc wr) ∧ Hid (∀ e ∈ es.take k, partOk e)) (fun v _ => np - (intOf v).toNat)
  case atStart => exact ⟨0, Nat.zero_le _, rfl, B0, Lib.hid (by simp)⟩
  case round =>
    obtain ⟨k, hk, rfl, BR, HN⟩ := hrel
    obtain ⟨c0, c1, c2, c3, c4, c5⟩ := BR.out.cells
    have hlt0 := World.block_lt_of_cell? _ _ c0
    simp only at hlt0
    clear B0
    by_cases hlt : k < np
    · obtain ⟨bk, off, x, y, z, rfl, hbg, hek, d1, d2, d3⟩ := (HT.out.below BR.out.bel).at_ (k := k) (by rw [HM.out]; exact hlt)
      have HEK := Lib.hid hek
      clear hek
      by_cases hok : partOk (x, y, z)
      · have HOK := Lib.hid hok
        obtain ⟨o1, o2, o3, o4, o5, o6⟩ := hok
        simp only at o1 o2 o3 o4 o5 o6
        go_wp2
        go_roundw
        case rel => exact ⟨k + 1, by omega, by go_num, Lib.hid (BR.out.next (below_alloc _)), Lib.hid (by
          intro e he
          rw [List.take_add_one, HEK.out] at he
          rcases List.mem_append.mp he with h | h
          · exact HN.out e h
          · obtain rfl : e = (x, y, z) := by simpa using h
            exact HOK.out)⟩
        case measure => simp [intOf]; omega
      · have HNO := Lib.hid (show decide (partsOk es) = false from decide_eq_false fun h => hok (h _ (List.mem_of_getElem? HEK.out)))
        have hd : x < 0 ∨ (0 ≤ x ∧ 5 < x) ∨ (0 ≤ x ∧ x ≤ 5 ∧ y < 0) ∨ (0 ≤ x ∧ x ≤ 5 ∧ 0 ≤ y ∧ 2147483647 < y) ∨ (0 ≤ x ∧ x ≤ 5 ∧ 0 ≤ y ∧ y ≤ 2147483647 ∧ z < 1) ∨ (0 ≤ x ∧ x ≤ 5 ∧ 0 ≤ y ∧ y ≤ 2147483647 ∧ 1 ≤ z ∧ 100 < z) := by
          unfold partOk at hok
          simp only at hok
          omega
        clear hok
        have HB := Lib.hid (BR.out.bel.trans ((below_alloc (w := wr) (.cells #[.int .i64 x, .int .i64 y, .int .i64 z] 42)).mono BR.out.bel.size))
        rcases hd with h1 | ⟨h1, h2⟩ | ⟨h1, h2, h3⟩ | ⟨h1, h2, h3, h4⟩ | ⟨h1, h2, h3, h4, h5⟩ | ⟨h1, h2, h3, h4, h5, h6⟩
        all_goals
          go_wp2
          go_ret
          exact ⟨by rw [HR.out, HNO.out]; rfl, HB.out⟩
    · have e : np = k := by omega
      subst e
      have HYES := Lib.hid (show decide (partsOk es) = true from decide_eq_true fun e he => HN.out e (by rwa [List.take_of_length_le (by rw [HM.out]; omega)]))
      go_wp2
      go_ret
      exact ⟨by rw [HR.out, HYES.out]; rfl, BR.out.bel⟩
end
end Go.Proofs.YtpckmhmabmmllaaDoor
