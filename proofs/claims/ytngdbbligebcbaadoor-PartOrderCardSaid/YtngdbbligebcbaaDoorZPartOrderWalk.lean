/- The walk of the law PartOrder, in the seat YtngdbbligebcbaaDoor. No statement is proved here. -/
import Derived.Test.YtngdbbligebcbaaDoorZM10
set_option linter.unusedSimpArgs false
set_option linter.unusedVariables false
set_option linter.unusedSimpArgs false
namespace Go.Proofs.YtngdbbligebcbaaDoor
open Go Go.RowKit

theorem Ints.take16 {w : World} {B : Nat} {A : Option Addr} {zs : List Int} (h : Ints w B A zs) (k : Nat) : Ints w B A (zs.take k) := fun hp => by
  rw [List.length_take] at hp
  obtain ⟨b, off, e, hb, hc⟩ := h (by omega)
  refine ⟨b, off, e, hb, fun i hi => ?_⟩
  rw [List.length_take] at hi
  rw [hc i (by omega), List.getD_eq_getElem?_getD, List.getD_eq_getElem?_getD, List.getElem?_take, if_pos (by omega)]
theorem ord_apart {t : Nat → Int} {n k a : Nat} (h : (ordO t n)[k]? = some a) : ((a : Nat) : Int) ∉ (nums (ordO t n)).take k := fun hm => by
  obtain ⟨i, hi, e⟩ := List.mem_iff_getElem.mp hm
  rw [List.length_take] at hi
  have hl : k < (ordO t n).length := (List.getElem?_eq_some_iff.mp h).1
  have hn : (nums (ordO t n)).length = (ordO t n).length := by simp [nums]
  have h1 : (ordO t n)[i]? = some a := by
    rw [List.getElem_take] at e
    have h2 : (nums (ordO t n))[i]? = some ((a : Nat) : Int) := by rw [List.getElem?_eq_getElem (by omega), e]
    unfold nums at h2
    rw [List.getElem?_map] at h2
    cases h3 : (ordO t n)[i]? with
    | none => rw [h3] at h2; cases h2
    | some z =>
      rw [h3] at h2
      have h4 : ((z : Nat) : Int) = ((a : Nat) : Int) := Option.some.inj h2
      rw [Int.ofNat_inj.mp h4]
  obtain ⟨l1, e1⟩ := List.getElem?_eq_some_iff.mp h1
  obtain ⟨l2, e2⟩ := List.getElem?_eq_some_iff.mp h
  exact List.pairwise_iff_getElem.mp (ordO_nodup (t := t) n) i k l1 l2 (by omega) (e1.trans e2.symm)
theorem ord_two {t : Nat → Int} {n k a b : Nat} (h1 : (ordO t n)[k]? = some b) (h2 : (ordO t n)[k + 1]? = some a) : t a < t b ∨ t b = t a ∧ b < a := by
  obtain ⟨l1, e1⟩ := List.getElem?_eq_some_iff.mp h1
  obtain ⟨l2, e2⟩ := List.getElem?_eq_some_iff.mp h2
  have := List.pairwise_iff_getElem.mp (ordO_sorted (t := t) n) k (k + 1) l1 l2 (by omega)
  rw [e1, e2] at this
  exact this
theorem num_at {l : List Nat} {k a : Nat} (h : l[k]? = some a) : (nums l)[k]? = some ((a : Nat) : Int) := by unfold nums; rw [List.getElem?_map, h]; rfl
set_option maxRecDepth 100000 in
set_option maxHeartbeats 32000000 in
theorem law_PartOrder {A : Option Addr} {n c : Nat} {es : List Shp} (w : World) (hT : DTab w) (hn : es.length = n) (hS : Shps w w.heap.size A es) (hA : A = none → n = 0 ∧ c = 0) :
    Calls Tryd.prog 6 #[.slice A n c] w fun e w' => e = .returned (.bool true) ∧ Below w.heap.size w w' := by
  have AW := Lib.hid (fun W (b : Below w.heap.size w W) => awake16_any W (hT.via b))
  have HI := Lib.hid (Below.refl w.heap.size w)
  by_cases hl20 : n ≤ 20
  · have hl : n ≤ 1000 := by omega
    have OW := Lib.hid (fun W (b : Below w.heap.size w W) => own15n (c := c) W hn hl (hS.via b) hA)
    have KO := Lib.hid (fun A1 c1 W (h1 : Shps W W.heap.size A1 es) => order_any (c := c1) W hn (by omega) h1)
    have KS := Lib.hid (fun W (b : Below w.heap.size w W) => (hS.via b : Shps W W.heap.size A es))
    have HN := Lib.hid (show es.length = n ∧ n ≤ 20 from ⟨hn, hl20⟩)
    obtain ⟨t, ht⟩ : ∃ t, t = totE es := ⟨_, rfl⟩
    have HT : Hid (∀ k s, es[k]? = some s → t k = s.t) := Lib.hid (fun k s h => by rw [ht]; unfold totE; rw [h])
    rw [← ht] at KO
    clear hS hA hT hn hl ht
    go_enter Tryd.func6, Tryd.ntmps6
    go_wp2_with fail
    refine (AW.out _ HI.out).mono ?_
    rintro e w1 ⟨rfl, b⟩
    have HI := Lib.hid (HI.out.trans (b.mono HI.out.size))
    clear b
    go_wp2_with fail
    refine (OW.out _ HI.out).mono ?_
    rintro e w2 ⟨A2, c2, rfl, ho, b⟩
    have HO := Lib.hid ho
    have HI := Lib.hid (HI.out.trans (b.mono HI.out.size))
    clear b ho
    go_wp2_with fail
    refine (KO.out _ _ _ HO.out.shps).mono ?_
    rintro e w3 ⟨g, rfl, ho, b⟩
    have HR := Lib.hid (ho.down (Nat.zero_le _))
    have HI := Lib.hid (HI.out.trans (b.mono HI.out.size))
    clear b ho HO KO OW AW
    go_wp2
    go_loopw [4] (fun v wr => ∃ k : Nat, k ≤ n ∧ v = .int .i64 k ∧ Hid (OwnI wr 0 (.slice (some ⟨g, 0, none⟩) n n) (nums (ordO t n))) ∧ Hid (Below w.heap.size w wr)) (fun v _ => n - (intOf v).toNat)
    case atStart => exact ⟨0, Nat.zero_le _, rfl, HR, HI⟩
    case round =>
      clear HR HI
      obtain ⟨k, hk, rfl, HR, HI⟩ := hrel
      by_cases hlt : k < n
      · obtain ⟨a, ha⟩ : ∃ a, (ordO t n)[k]? = some a := ⟨_, List.getElem?_eq_getElem (by rw [ordO_len]; exact hlt)⟩
        have han : a < n := ordO_mem.mp (List.mem_of_getElem? ha)
        have d1 := own_cell16 HR.out (num_at ha)
        have hz : decide ((a : Int) < 0) = false := decide_eq_false (by omega)
        have hz2 : decide ((n : Int) ≤ (a : Int)) = false := decide_eq_false (by omega)
        have hz3 : decide (n ≤ a) = false := decide_eq_false (by omega)
        have hsl := slice_upto g n k (by omega) (by omega)
        have CH := Lib.hid (fun N => (has_any (some ⟨g, 0, none⟩) n ((nums (ordO t n)).take k) (a : Int) (wr.drewN N) k (by rw [List.length_take]; simp [nums, ordO_len]; omega) (by omega) (((HR.out.below (below_drewN (Below.refl _ _) N)).ints).take16 k)).mono fun e w' (h : e = .returned (.bool (decide ((a : Int) ∈ (nums (ordO t n)).take k))) ∧ wr.drewN N = w') => (show e = .returned (.bool false) ∧ w' = wr.drewN N from ⟨by rw [h.1, decide_eq_false (ord_apart ha)], h.2.symm⟩))
        have HAK := Lib.hid ha
        clear ha
        go_wp2
        go_quiet (first | (go_at_call 18; exact Calls.quiet_of_same (CH.out _)))
        clear CH hz hz2 hz3 hsl
        have HI2 := Lib.hid (HI.out.trans ((below_drewN (Below.refl _ _) nq).mono HI.out.size))
        have HR2 := Lib.hid (HR.out.below (below_drewN (Below.refl _ _) nq))
        obtain ⟨wm, hwm⟩ : ∃ wm, wm = wr.drewN nq := ⟨_, rfl⟩
        rw [← hwm] at HI2 HR2 ⊢
        clear hwm d1
        have d1 := own_cell16 HR2.out (num_at HAK.out)
        rcases Nat.eq_zero_or_pos k with h0 | h0
        · subst h0
          go_wp2
          go_quiet (fail)
          have HI3 := Lib.hid (HI2.out.trans ((below_drewN (Below.refl _ _) nq).mono HI2.out.size))
          have HR3 := Lib.hid (HR2.out.below (below_drewN (Below.refl _ _) nq))
          go_wp2
          go_roundw
          case rel => exact ⟨1, by omega, by go_num, HR3, HI3⟩
          case measure => simp [intOf]; omega
        · obtain ⟨k1, rfl⟩ : ∃ k1, k = k1 + 1 := ⟨k - 1, by omega⟩
          obtain ⟨b, hb⟩ : ∃ b, (ordO t n)[k1]? = some b := ⟨_, List.getElem?_eq_getElem (by rw [ordO_len]; omega)⟩
          have hbn : b < n := ordO_mem.mp (List.mem_of_getElem? hb)
          have d2 := own_cell16 HR2.out (num_at hb)
          have h2 := ord_two hb HAK.out
          obtain ⟨bk, off, ta, la, ma, da, pa, hA1, _, hea, x1, _, _, _, _⟩ := (KS.out wm HI2.out).at_ (k := a) (by have := HN.out; omega)
          obtain ⟨bk2, off2, tb, lb, mb, db, pb, hA2, _, heb, y1, _, _, _, _⟩ := (KS.out wm HI2.out).at_ (k := b) (by have := HN.out; omega)
          subst hA1
          injection hA2 with hA2
          injection hA2 with e1 e2
          subst e1 e2
          rw [HT.out a _ hea, HT.out b _ heb] at h2
          dsimp only at h2
          have hg0 : decide ((0 : Int) < ((k1 + 1 : Nat) : Int)) = true := decide_eq_true (by omega)
          have hb1 : decide (tb < ta) = false := decide_eq_false (by omega)
          have hk1 : IntKind.i64.wrap (((k1 + 1 : Nat) : Int) - 1) = (k1 : Int) := by rw [IntKind.wrap_i64]; omega
          clear hb hea heb
          by_cases he : tb = ta
          · have hb2 : (tb == ta) = true := by simpa using he
            have hb3 : decide ((a : Int) < (b : Int)) = false := decide_eq_false (by omega)
            have hb4 : decide (a < b) = false := decide_eq_false (by omega)
            clear h2 he
            go_wp2
            go_quiet (fail)
            have HI3 := Lib.hid (HI2.out.trans ((below_drewN (Below.refl _ _) nq).mono HI2.out.size))
            have HR3 := Lib.hid (HR2.out.below (below_drewN (Below.refl _ _) nq))
            go_wp2
            go_roundw
            case rel => exact ⟨k1 + 1 + 1, by omega, by go_num, HR3, HI3⟩
            case measure => simp [intOf]; omega
          · have hb2 : (tb == ta) = false := by simpa using he
            clear h2 he
            go_wp2
            go_quiet (fail)
            have HI3 := Lib.hid (HI2.out.trans ((below_drewN (Below.refl _ _) nq).mono HI2.out.size))
            have HR3 := Lib.hid (HR2.out.below (below_drewN (Below.refl _ _) nq))
            go_wp2
            go_roundw
            case rel => exact ⟨k1 + 1 + 1, by omega, by go_num, HR3, HI3⟩
            case measure => simp [intOf]; omega
      · obtain rfl : n = k := by omega
        go_wp2
        go_ret
        exact ⟨rfl, HI.out⟩
  · clear hS hA hT hn
    have hl20 : 20 < n := by omega
    go_enter Tryd.func6, Tryd.ntmps6
    go_wp2_with fail
    refine (AW.out _ HI.out).mono ?_
    rintro e w1 ⟨rfl, b⟩
    have HI := Lib.hid (HI.out.trans (b.mono HI.out.size))
    clear b
    go_wp2_with fail
    refine (AW.out _ HI.out).mono ?_
    rintro e w2 ⟨rfl, b⟩
    have HI := Lib.hid (HI.out.trans (b.mono HI.out.size))
    clear b
    go_wp2
    go_ret
    exact ⟨rfl, HI.out⟩
end Go.Proofs.YtngdbbligebcbaaDoor
