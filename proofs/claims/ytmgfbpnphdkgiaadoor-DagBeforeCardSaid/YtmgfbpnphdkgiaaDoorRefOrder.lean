/- The contract of trefoilref04.Order in the seat YtmgfbpnphdkgiaaDoor. No statement is proved here. -/
import Derived.Test.YtmgfbpnphdkgiaaDoorRefCheck
set_option linter.unusedVariables false
namespace Go.Proofs.YtmgfbpnphdkgiaaDoor
open Go.RowKit

def nums (l : List Nat) : List Int := l.map Int.ofNat
theorem mem_nums {l : List Nat} {a : Nat} : (a : Int) ∈ nums l ↔ a ∈ l := by
  unfold nums
  constructor
  · intro h
    obtain ⟨b, hb, e⟩ := List.mem_map.mp h
    obtain rfl : b = a := Int.ofNat_inj.mp e
    exact hb
  · intro h
    exact List.mem_map.mpr ⟨a, h, rfl⟩
theorem nums_length (l : List Nat) : (nums l).length = l.length := by unfold nums; rw [List.length_map]
theorem nums_snoc (l : List Nat) (a : Nat) : nums (l ++ [a]) = nums l ++ [(a : Int)] := by unfold nums; rw [List.map_append]; rfl
theorem ready_eq {n : Nat} {E : List (Int × Int)} (out : List Nat) (m : Nat) : ready n E out m = (!decide ((m : Int) ∈ nums out) && (predsL n E m).all fun x => decide (x ∈ nums out)) := by
  unfold ready
  congr 1
  · rw [Bool.not_inj_iff, Bool.eq_iff_iff, List.contains_iff_mem, decide_eq_true_iff, mem_nums]
  · rw [Bool.eq_iff_iff, List.all_eq_true, List.all_eq_true]
    unfold predsL
    constructor
    · intro h x hx
      obtain ⟨h1, h2⟩ := List.mem_filter.mp hx
      obtain ⟨a, ha, rfl⟩ := List.mem_map.mp h1
      have h3 := h a ha
      rw [Bool.or_eq_true, Bool.not_eq_true', decide_eq_false_iff_not, List.contains_iff_mem] at h3
      rw [decide_eq_true_iff]
      rcases h3 with h3 | h3
      · exact absurd (of_decide_eq_true h2) h3
      · exact mem_nums.mpr h3
    · intro h a ha
      rw [Bool.or_eq_true, Bool.not_eq_true', decide_eq_false_iff_not, List.contains_iff_mem]
      by_cases he : ed E a m
      · right
        have := h (a : Int) (List.mem_filter.mpr ⟨List.mem_map.mpr ⟨a, ha, rfl⟩, decide_eq_true he⟩)
        exact mem_nums.mp (of_decide_eq_true this)
      · exact .inl he
theorem pick_at {n : Nat} {E : List (Int × Int)} {out : List Nat} {i : Nat} (hi : i < n) (h : ready n E out i = true) (hb : ∀ m, m < i → ready n E out m = false) : pick n E out = some i := by
  unfold pick
  rw [List.find?_range_eq_some]
  exact ⟨h, List.mem_range.mpr hi, fun j hj => by rw [hb j hj]; rfl⟩
theorem pick_nil {n : Nat} {E : List (Int × Int)} {out : List Nat} (hb : ∀ m, m < n → ready n E out m = false) : pick n E out = none := by
  unfold pick
  rw [List.find?_eq_none]
  intro m hm
  rw [hb m (List.mem_range.mp hm)]
  exact Bool.false_ne_true
theorem ordK_some {n : Nat} {E : List (Int × Int)} {k m : Nat} (h : pick n E (ordK n E k) = some m) : ordK n E (k + 1) = ordK n E k ++ [m] := by
  show (match pick n E (ordK n E k) with | some m => ordK n E k ++ [m] | none => ordK n E k) = _
  rw [h]
theorem ordK_none {n : Nat} {E : List (Int × Int)} {k : Nat} (h : pick n E (ordK n E k) = none) : ordK n E (k + 1) = ordK n E k := by
  show (match pick n E (ordK n E k) with | some m => ordK n E k ++ [m] | none => ordK n E k) = _
  rw [h]
theorem ordK_le {n : Nat} {E : List (Int × Int)} : ∀ k, (ordK n E k).length ≤ k
  | 0 => Nat.le_refl _
  | k + 1 => by
    have ih := ordK_le (n := n) (E := E) k
    cases h : pick n E (ordK n E k) with
    | some m => rw [ordK_some h, List.length_append, List.length_singleton]; omega
    | none => rw [ordK_none h]; omega

set_option maxRecDepth 100000 in
set_option maxHeartbeats 4000000 in
theorem rorder_any (A F : Option Addr) (n c m d : Nat) (E : List (Int × Int)) (w : World) (hl : n ≤ 900) (hm : E.length = m) (hk : m ≤ 1000) (hP : Pairs w w.heap.size F E) :
    Calls Tryd.prog 25 #[.agg #[.slice A n c, .slice F m d]] w (GotInts (nums (ord n E)) w) := by
  have HP := Lib.hid hP
  have CP := Lib.hid (fun x W' hP => preds_any A F n c m d E x W' (by omega) hm hk hP)
  have HPL := Lib.hid (fun x => predsL_length n E x)
  obtain ⟨w0, hw0⟩ : ∃ w0, w0 = w.alloc (.cells #[.slice A n c, .slice F m d] 25) := ⟨_, rfl⟩
  have HW0 := Lib.hid hw0
  clear hP hm hw0
  go_enter Tryd.func25, Tryd.ntmps25
  go_wp2
  go_loopw [3, 4] (fun v i wr => ∃ (j k : Nat) (A' : Option Addr) (c' : Nat), j ≤ n ∧ k ≤ j ∧ i = .int .i64 j ∧ v = .slice A' k c' ∧ Hid (k = (ordK n E j).length) ∧ Hid (OwnI wr (w.heap.size + 1) (.slice A' k c') (nums (ordK n E j))) ∧ Hid (Below (w.heap.size + 1) w0 wr)) (fun _ i _ => n - (intOf i).toNat)
  case atStart => exact ⟨0, 0, _, _, Nat.zero_le _, Nat.le_refl _, rfl, rfl, Lib.hid rfl, Lib.hid (ownI_first w _), Lib.hid (by rw [HW0.out]; exact (Below.refl _ _).alloc (by simp) _)⟩
  case round =>
    obtain ⟨j, k, A', c', hj, hkj, rfl, rfl, HK, HO, HB⟩ := hrel
    have hbox0 : wr.cell? ⟨w.heap.size, 0, none⟩ = some (.slice A n c) := (HB.out.cell (Nat.lt_succ_self _)).trans (by rw [HW0.out, World.cell?_alloc_at _ _ _ _ rfl]; rfl)
    have hbox1 : wr.cell? ⟨w.heap.size, 1, none⟩ = some (.slice F m d) := (HB.out.cell (Nat.lt_succ_self _)).trans (by rw [HW0.out, World.cell?_alloc_at _ _ _ _ rfl]; rfl)
    by_cases hlt : j < n
    · obtain ⟨out, hout⟩ : ∃ out, out = ordK n E j := ⟨_, rfl⟩
      have HOUT := Lib.hid hout
      rw [← hout] at HO HK
      clear hout
      go_wp2
      go_loopw [3, 5] (fun v i wi => ∃ p : Nat, p ≤ n ∧ i = .int .i64 p ∧ v = .slice A' k c' ∧ Hid (∀ q, q < p → ready n E out q = false) ∧ Hid (OwnI wi (w.heap.size + 1) (.slice A' k c') (nums out)) ∧ Hid (Below (w.heap.size + 1) w0 wi)) (fun _ i _ => n - (intOf i).toNat)
      case atStart => exact ⟨0, Nat.zero_le _, rfl, rfl, Lib.hid (fun q hq => by omega), HO, HB⟩
      case round =>
        obtain ⟨p, hp, rfl, rfl, HNR, HO2, HB2⟩ := hrel
        have hboxa : wr.cell? ⟨w.heap.size, 0, none⟩ = some (.slice A n c) := (HB2.out.cell (Nat.lt_succ_self _)).trans (by rw [HW0.out, World.cell?_alloc_at _ _ _ _ rfl]; rfl)
        have hboxb : wr.cell? ⟨w.heap.size, 1, none⟩ = some (.slice F m d) := (HB2.out.cell (Nat.lt_succ_self _)).trans (by rw [HW0.out, World.cell?_alloc_at _ _ _ _ rfl]; rfl)
        have hsz : w.heap.size + 1 ≤ wr.heap.size := by have := HB2.out.size; rw [HW0.out] at this; simpa using this
        by_cases hlt2 : p < n
        · obtain ⟨A2, c2, he2, hI2⟩ := HO2.out.slice
          have hlen : (nums out).length = k := by rw [nums_length]; exact HK.out.symm
          rw [hlen] at he2
          obtain ⟨rfl, rfl⟩ : A' = A2 ∧ c' = c2 := by injection he2 with h1 h2 h3; exact ⟨h1, h3⟩
          have HI2 := Lib.hid hI2
          have HLEN := Lib.hid hlen
          have C1 := Lib.hid (has_any A' c' (nums out) p wr k hlen (by omega) hI2)
          have HRE := Lib.hid (ready_eq (n := n) (E := E) out p)
          clear he2 hI2 hlen
          by_cases hh : (p : Int) ∈ nums out
          · rw [decide_eq_true hh] at C1
            have HRF := Lib.hid (show ready n E out p = false by rw [HRE.out, decide_eq_true hh]; rfl)
            clear hh
            go_wp2_with fail
            refine C1.out.mono ?_
            rintro e w1 ⟨rfl, rfl⟩
            go_wp2
            go_roundw
            case rel => exact ⟨p + 1, by omega, by go_num, rfl, Lib.hid (fun q hq => by
              rcases Nat.lt_or_ge q p with h | h
              · exact HNR.out q h
              · obtain rfl : q = p := by omega
                exact HRF.out), HO2, HB2⟩
            case measure => simp [intOf]; omega
          · rw [decide_eq_false hh] at C1
            have HRE2 := Lib.hid (show ready n E out p = (predsL n E p).all fun x => decide (x ∈ nums out) by rw [HRE.out, decide_eq_false hh]; rfl)
            have C2 := Lib.hid (CP.out (p : Int) wr (((by rw [HW0.out] at HB2; exact ((HP.out.alloc (Nat.le_refl _) _).below (HB2.out.mono (by omega)))) : Pairs wr w.heap.size F E).more (by omega)))
            have hpl := HPL.out (p : Int)
            clear hh
            go_wp2_with fail
            refine C1.out.mono ?_
            rintro e w1 ⟨rfl, rfl⟩
            go_wp2_with fail
            refine C2.out.mono ?_
            rintro e w1 ⟨A3, c3, rfl, hI3, b1⟩
            have HO3 := Lib.hid (HO2.out.below b1)
            have HB3 := Lib.hid (HB2.out.trans (b1.mono hsz))
            have C3 := Lib.hid (all_any A3 A' c3 c' (predsL n E p) (nums out) w1 _ k rfl (by omega) HLEN.out (by omega) hI3 ((HI2.out.below b1).more b1.size))
            have hsz1 : w.heap.size + 1 ≤ w1.heap.size := Nat.le_trans hsz b1.size
            clear hI3 b1
            cases hr : ((predsL n E p).all fun x => decide (x ∈ nums out)) with
            | true =>
              rw [hr] at C3
              have HPK := Lib.hid (pick_at hlt2 (HRE2.out.trans hr) HNR.out)
              clear hr
              go_wp2_with fail
              refine C3.out.mono ?_
              rintro e w2 ⟨rfl, rfl⟩
              have HOK := Lib.hid (ordK_some (n := n) (E := E) (k := j) (by rw [← HOUT.out]; exact HPK.out))
              go_wp2_with (at_builtin; refine wpList_push rfl _ _ rfl w1 (w.heap.size + 1) _ (nums out) (p : Int) k HLEN.out (by omega) HO3.out hsz1 rfl rfl ?_; intro A4 c4 w4 HO4 HB4; (have HO4' := Lib.hid HO4); (have HB4' := Lib.hid HB4); clear HO4 HB4)
              go_roundw
              case rel => exact ⟨j + 1, k + 1, A4, c4, by omega, by omega, by go_num, rfl, Lib.hid (by rw [HOK.out, ← HOUT.out, List.length_append, HK.out]; rfl), Lib.hid (by rw [HOK.out, ← HOUT.out, nums_snoc]; exact HO4'.out), Lib.hid (HB3.out.trans HB4'.out)⟩
              case measure => simp [intOf]; omega
            | false =>
              rw [hr] at C3
              have HRF := Lib.hid (HRE2.out.trans hr)
              clear hr
              go_wp2_with fail
              refine C3.out.mono ?_
              rintro e w2 ⟨rfl, rfl⟩
              go_wp2
              go_roundw
              case rel => exact ⟨p + 1, by omega, by go_num, rfl, Lib.hid (fun q hq => by
                rcases Nat.lt_or_ge q p with h | h
                · exact HNR.out q h
                · obtain rfl : q = p := by omega
                  exact HRF.out), HO3, HB3⟩
              case measure => simp [intOf]; omega
        · obtain rfl : p = n := by omega
          have HOK := Lib.hid (ordK_none (n := p) (E := E) (k := j) (by rw [← HOUT.out]; exact pick_nil HNR.out))
          go_wp2
          go_roundw
          case rel => exact ⟨j + 1, k, A', c', by omega, by omega, by go_num, rfl, Lib.hid (by rw [HOK.out, ← HOUT.out]; exact HK.out), Lib.hid (by rw [HOK.out, ← HOUT.out]; exact HO2.out), HB2⟩
          case measure => simp [intOf]; omega
    · obtain rfl : j = n := by omega
      obtain ⟨A2, c2, he, hI⟩ := HO.out.slice
      have HI := Lib.hid hI
      have HE := Lib.hid he
      clear hI he
      go_wp2
      go_ret
      exact ⟨A2, c2, by rw [show nums (ord j E) = nums (ordK j E j) from rfl, ← HE.out]; rfl, HI.out, (below_alloc _).trans (by rw [← HW0.out]; exact HB.out.mono (by omega))⟩
end Go.Proofs.YtmgfbpnphdkgiaaDoor
