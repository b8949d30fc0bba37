/- The contract of trefoilref05.row in the seat YtpckmhmabmmllaaDoor. No statement is proved here. -/
import Derived.Test.YtpckmhmabmmllaaDoorZDescTime
import Derived.Test.YtpckmhmabmmllaaDoorZM1
set_option linter.unusedVariables false
namespace Go.Proofs.YtpckmhmabmmllaaDoor
open Go.RowKit

/-- Parts, that rise. -/
structure RowOk (np : Nat) (l : List Int) : Prop where
  some_ : 0 < l.length
  parts : ∀ x ∈ l, 0 ≤ x ∧ x < np
  rises : ∀ i x y, l[i]? = some x → l[i + 1]? = some y → x < y
section
variable {P : Option Addr} {np pc : Nat} {E : Option Addr} {ne ec : Nat} {F : Option Addr} {nf fc : Nat} {R : Option Addr} {nr rc : Nat} {p q : Int}
structure BxR (w : World) (p q : Int) (P : Option Addr) (np pc : Nat) (E : Option Addr) (ne ec : Nat) (F : Option Addr) (nf fc : Nat) (R : Option Addr) (nr rc : Nat) (A : Option Addr) (l : List Int) (w' : World) : Prop where
  b : BxD w p q P np pc E ne ec F nf fc R nr rc w'
  l : Ints w' w.heap.size A l
theorem BxR.next {w w1 w2 : World} {A : Option Addr} {l : List Int} (h : BxR w p q P np pc E ne ec F nf fc R nr rc A l w1) (hb : Below w1.heap.size w1 w2) : BxR w p q P np pc E ne ec F nf fc R nr rc A l w2 :=
  ⟨h.b.next hb, h.l.keep fun a ha => hb.cell (Nat.lt_of_lt_of_le ha h.b.bel.size)⟩
theorem bxr_n {z : Prop} {w x y : World} {A : Option Addr} {l : List Int} (h : z ∧ Hid (BxR w p q P np pc E ne ec F nf fc R nr rc A l x)) (b : Below x.heap.size x y) : BxR w p q P np pc E ne ec F nf fc R nr rc A l y := h.2.out.next b
theorem ints_cell {w : World} {B bk off k : Nat} {l : List Int} {z : Int} (h : Ints w B (some ⟨bk, off, none⟩) l) (hz : l[k]? = some z) : w.cell? ⟨bk, off + k, none⟩ = some (.int .i64 z) := by
  have hk := (List.getElem?_eq_some_iff.1 hz).1
  obtain ⟨b', o', z', e, _, hz', hc⟩ := h.at_ hk
  injection e with e
  injection e with e1 e2
  subst e1 e2
  rw [hz] at hz'
  injection hz' with hz'
  subst hz'
  exact hc
theorem near_cell {w : World} {a : Addr} {v : Value} (h : w.cell? a = some v) (x : Near w.heap.size w) : x.W.cell? a = some v := (x.h.cell (World.block_lt_of_cell? _ _ h)).trans h
theorem row_step {l : List Int} {k : Nat} {z : Int} (h : ∀ x ∈ l.take k, 0 ≤ x ∧ x < np) (hz : l[k]? = some z) (hp : 0 ≤ z ∧ z < np) : ∀ x ∈ l.take (k + 1), 0 ≤ x ∧ x < np := by
  intro x hx
  rw [List.take_add_one, hz] at hx
  rcases List.mem_append.mp hx with hx | hx
  · exact h x hx
  · obtain rfl : x = z := by simpa using hx
    exact hp
theorem rise_step {l : List Int} {k : Nat} {y z : Int} (h : ∀ i a b, i + 1 < k → l[i]? = some a → l[i + 1]? = some b → a < b) (hy : l[k - 1]? = some y) (hz : l[k]? = some z) (hyz : y < z) : ∀ i a b, i + 1 < k + 1 → l[i]? = some a → l[i + 1]? = some b → a < b := by
  intro i a b hi ha hb
  by_cases e : i + 1 = k
  · rw [e, hz] at hb
    rw [show i = k - 1 by omega, hy] at ha
    injection ha with ha
    injection hb with hb
    omega
  · exact h i a b (by omega) ha hb
set_option maxRecDepth 100000 in
set_option maxHeartbeats 8000000 in
theorem drow_any (A : Option Addr) (c : Nat) (l : List Int) (len : Nat) (r : Bool) (hr : r = true ↔ RowOk np l) (w : World) (hm : l.length = len) (hl : len ≤ 1000) (hI : Ints w w.heap.size A l) :
    Calls Tryd.prog 59 #[.agg #[.int .i64 p, .int .i64 q, .slice P np pc, .slice E ne ec, .slice F nf fc, .slice R nr rc], .slice A len c] w fun e w' => e = .returned (.bool r) ∧ Below w.heap.size w w' := by
  have B0 := Lib.hid (BxR.mk (BxD.start w p q P np pc E ne ec F nf fc R nr rc) (hI.below (below_alloc _)))
  have HM := Lib.hid hm
  have HR := Lib.hid hr
  clear hI hm hr
  go_enter Tryd.func59, Tryd.ntmps59
  go_wp2
  go_loopw [5] (fun v wr => ∃ k : Nat, k ≤ len ∧ v = .int .i64 k ∧ Hid (BxR w p q P np pc E ne ec F nf fc R nr rc A l wr) ∧ Hid ((∀ x ∈ l.take k, 0 ≤ x ∧ x < np) ∧ ∀ i x y, i + 1 < k → l[i]? = some x → l[i + 1]? = some y → x < y)) (fun v _ => len - (intOf v).toNat)
  case atStart => exact ⟨0, Nat.zero_le _, rfl, B0, Lib.hid ⟨by simp, by omega⟩⟩
  case round =>
    obtain ⟨k, hk, rfl, BR, HN⟩ := hrel
    clear B0
    by_cases hlt : k < len
    · obtain ⟨bk, off, z, rfl, hbg, hz, hc⟩ := BR.out.l.at_ (k := k) (by rw [HM.out]; exact hlt)
      have HZ := Lib.hid hz
      obtain ⟨b0, b1, b2, b3, b4, b5⟩ := BR.out.b.cells
      have n0 := near_cell b0
      have n1 := near_cell b1
      have n2 := near_cell b2
      have n3 := near_cell b3
      have n4 := near_cell b4
      have n5 := near_cell b5
      have n6 := near_cell hc
      clear b0 b1 b2 b3 b4 b5
      have C := Lib.hid (dpart_any (P := P) (np := np) (pc := pc) (E := E) (ne := ne) (ec := ec) (F := F) (nf := nf) (fc := fc) (R := R) (nr := nr) (rc := rc) (p := p) (q := q) z)
      clear hz hc
      by_cases hp : 0 ≤ z ∧ z < np
      · simp only [decide_eq_true hp] at C
        by_cases h0 : k = 0
        · have g1 : decide ((0 : Int) < (k : Int)) = false := by rw [decide_eq_false_iff_not]; omega
          have g2 : decide (0 < k) = false := by rw [decide_eq_false_iff_not]; omega
          have HPP := Lib.hid hp
          clear g1 g2 hp
          subst h0
          simp only [Nat.add_zero] at n6
          rw [show ((0 : Nat) : Int) = 0 from rfl]
          go_wp2_with fail
          refine wp_region_near wr.heap.size (by kernel_rfl) (by kernel_rfl) (Nat.le_refl _) ?_
          repeat (go_big_quiet_step (first
            | (go_at_call 21; exact near_of (C.out _) (Nat.le_refl _))))
          refine wpQuiet_nil ?_
          intro W hW
          have HB := Lib.hid (BR.out.next hW)
          clear hW
          go_wp2
          go_roundw
          case rel => exact ⟨1, by omega, rfl, HB, Lib.hid ⟨row_step HN.out.1 HZ.out HPP.out, fun i x y hi => by omega⟩⟩
          case measure => simp [intOf]; omega
        · obtain ⟨j, rfl⟩ : ∃ j, k = j + 1 := ⟨k - 1, by omega⟩
          obtain ⟨y, hy⟩ : ∃ y, l[j]? = some y := ⟨_, List.getElem?_eq_getElem (by rw [HM.out]; omega)⟩
          have HY := Lib.hid hy
          have HPP := Lib.hid hp
          have n7 := near_cell (ints_cell BR.out.l hy)
          clear hy hp h0
          rw [show ((j + 1 : Nat) : Int) = (j : Int) + 1 from rfl]
          by_cases hyz : y < z
          · have hd : decide (z ≤ y) = false := by rw [decide_eq_false_iff_not]; omega
            go_wp2_with fail
            refine wp_region_near wr.heap.size (by kernel_rfl) (by kernel_rfl) (Nat.le_refl _) ?_
            repeat (go_big_quiet_step (first
              | (go_at_call 21; exact near_of (C.out _) (Nat.le_refl _))))
            refine wpQuiet_nil ?_
            intro W hW
            have HB := Lib.hid (BR.out.next hW)
            clear hW
            go_wp2
            go_roundw
            case rel => exact ⟨j + 1 + 1, by omega, by go_num, HB, Lib.hid ⟨row_step HN.out.1 HZ.out HPP.out, rise_step HN.out.2 HY.out HZ.out hyz⟩⟩
            case measure => simp [intOf]; omega
          · have hd : decide (z ≤ y) = true := by rw [decide_eq_true_iff]; omega
            have HNO := Lib.hid (show r = false from by
              rw [← Bool.not_eq_true]
              intro h
              have := (HR.out.mp h).rises j y z HY.out HZ.out
              omega)
            go_wp2_with fail
            refine wp_region_near wr.heap.size (by kernel_rfl) (by kernel_rfl) (Nat.le_refl _) ?_
            repeat (go_big_quiet_step (first
              | (go_at_call 21; exact near_of (C.out _) (Nat.le_refl _))))
            refine wpQuiet_nil ?_
            intro W hW
            have HB := Lib.hid (BR.out.next hW)
            clear hW
            go_wp2
            go_ret
            exact ⟨by rw [HNO.out]; rfl, HB.out.b.bel⟩
      · simp only [decide_eq_false hp] at C
        have HNO := Lib.hid (show r = false from by
          rw [← Bool.not_eq_true]
          intro h
          exact hp ((HR.out.mp h).parts z (List.mem_of_getElem? HZ.out)))
        clear hp
        go_wp2_with fail
        refine wp_region_near wr.heap.size (by kernel_rfl) (by kernel_rfl) (Nat.le_refl _) ?_
        repeat (go_big_quiet_step (first
          | (go_at_call 21; exact near_of (C.out _) (Nat.le_refl _))))
        refine wpQuiet_nil ?_
        intro W hW
        have HB := Lib.hid (BR.out.next hW)
        clear hW
        go_wp2
        go_ret
        exact ⟨by rw [HNO.out]; rfl, HB.out.b.bel⟩
    · have e : len = k := by omega
      subst e
      clear hlt hk
      by_cases h0 : len = 0
      · have HNO := Lib.hid (show r = false from by
          rw [← Bool.not_eq_true]
          intro h
          have := (HR.out.mp h).some_
          rw [HM.out] at this
          omega)
        have g1 : decide ((0 : Int) < (len : Int)) = false := by rw [decide_eq_false_iff_not]; omega
        have g2 : decide (0 < len) = false := by rw [decide_eq_false_iff_not]; omega
        clear h0
        go_wp2
        go_ret
        exact ⟨by rw [HNO.out]; rfl, BR.out.b.bel⟩
      · have HYES := Lib.hid (show r = true from by
          refine HR.out.mpr ⟨by rw [HM.out]; omega, fun x hx => HN.out.1 x (by rwa [List.take_of_length_le (by rw [HM.out]; omega)]), fun i x y hx hy => HN.out.2 i x y ?_ hx hy⟩
          have := (List.getElem?_eq_some_iff.1 hy).1
          rw [HM.out] at this
          exact this)
        have g1 : decide ((0 : Int) < (len : Int)) = true := by rw [decide_eq_true_iff]; omega
        have g2 : decide (0 < len) = true := by rw [decide_eq_true_iff]; omega
        clear h0
        go_wp2
        go_ret
        exact ⟨by rw [HYES.out]; rfl, BR.out.b.bel⟩
end
end Go.Proofs.YtpckmhmabmmllaaDoor
