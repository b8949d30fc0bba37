/- trefoilref11.Check in the seat YtmmogdccjiagnaaDoor: its contract.
   trefoilref11.Same and SameTrace in the seat YtmmogdccjiagnaaDoor: their contracts.
   No statement is proved here. -/
import Derived.Test.YtmmogdccjiagnaaDoorZM15
import Derived.Test.YtmmogdccjiagnaaDoorZM2
import Derived.Test.YtmmogdccjiagnaaDoorZM5
import Derived.Test.YtmmogdccjiagnaaDoorZM12
import Derived.Test.YtmmogdccjiagnaaDoorZM3
import Derived.BigQuiet
import Derived.Deep.QuietTactic
import Derived.Deep.RegionWith
set_option linter.unusedSimpArgs false
set_option linter.unusedVariables false
namespace Go.Proofs.YtmmogdccjiagnaaDoor
open Go.RowKit

section
variable {A : Option Addr} {n c : Nat} {F : Option Addr} {m d : Nat} {W : List Int} {E : List (Int × Int)} {A' : Option Addr} {n' c' : Nat} {F' : Option Addr} {m' d' : Nat} {O L : List Int}
theorem rcheck_g11 {w : World} (h : IsG w A n c F m d W E) : Calls Tryd.prog 41 #[.agg #[.slice A n c, .slice F m d]] w fun e w' => e = .returned (.int .i64 (chkE W E)) ∧ Below w.heap.size w w' :=
  rcheck_any A F n c m d W E w h.hn (by have := h.ln; omega) h.hm (by have := h.lm; omega) h.ints h.pairs
set_option maxRecDepth 100000 in
set_option maxHeartbeats 8000000 in
theorem rcheckC_any (w : World) (hg : IsG w A n c F m d W E) (hk : IsC w A' n' c' F' m' d' O L) :
    Calls Tryd.prog 16 #[.agg #[.slice A n c, .slice F m d], .agg #[.slice A' n' c', .slice F' m' d']] w fun e w' => e = .returned (.int .i64 (crewE W E O L)) ∧ Below w.heap.size w w' := by
  have B0 := Lib.hid (BxDC.start hg hk)
  have CK := Lib.hid (fun W' (h : IsG W' A n c F m d W E) => rcheck_g11 h)
  have CO := Lib.hid (fun W' (x : Int) (h1 : IsG W' A n c F m d W E) (h2 : IsC W' A' n' c' F' m' d' O L) => over_any W' x h1 h2)
  have HN := Lib.hid hg.hn
  have HO := Lib.hid hk.hn
  have HM := Lib.hid hk.hm
  have hcap := hk.cA
  have hm4 := hk.lm
  obtain ⟨r, hr⟩ : ∃ r, r = crewE W E O L := ⟨_, rfl⟩
  rw [← hr]
  have HR := Lib.hid hr
  clear hg hk hr
  by_cases he : chkE W E = 0
  · have HM0 := Lib.hid (chkE_zero.mp he)
    rw [he] at CK
    have HRN : Hid (¬ CrewOk W.length E O L → r = 110) := Lib.hid (fun h => HR.out.trans (crewE_form he h))
    have HRY : Hid (CrewOk W.length E O L → r = 0) := Lib.hid (fun h => HR.out.trans (crewE_zero.mpr ⟨HM0.out, h⟩))
    clear he HR
    have HIFF := Lib.hid (crewOk_iff (n := W.length) (E := E) (O := O) (L := L))
    go_enter Tryd.func16, Tryd.ntmps16
    go_wp2_with fail
    refine (CK.out _ B0.out.g).mono ?_
    rintro e w1 ⟨rfl, b1⟩
    have B1 := Lib.hid (B0.out.next b1)
    have q0 := B1.out.c0
    have q1 := B1.out.c1
    have p0 := B1.out.d0
    clear b1 B0 CK
    by_cases h1 : n' < 1
    · obtain rfl : r = 110 := HRN.out fun h => by have := h.lo; have := HO.out; omega
      obtain rfl : n' = 0 := by omega
      go_wp2
      go_ret
      exact ⟨rfl, B1.out.bel⟩
    by_cases h2 : 8 < n'
    · obtain rfl : r = 110 := HRN.out fun h => by have := h.hi; have := HO.out; omega
      have h1a : decide (n' < 1) = false := decide_eq_false h1
      go_wp2
      go_ret
      exact ⟨rfl, B1.out.bel⟩
    by_cases h3 : ¬ m' = n
    · obtain rfl : r = 110 := HRN.out fun h => by have := h.ln; have := HM.out; have := HN.out; omega
      have h1a : decide (n' < 1) = false := decide_eq_false h1
      have h2a : decide (8 < n') = false := decide_eq_false h2
      have h3a : ((m' : Int) == (n : Int)) = false := beq_eq_false_iff_ne.mpr (by omega)
      have h3b : ((m' : Int) != (n : Int)) = true := bne_iff_ne.mpr (by omega)
      go_wp2
      go_ret
      exact ⟨rfl, B1.out.bel⟩
    obtain rfl : m' = n := Classical.byContradiction h3
    clear h3
    have h1a : decide (n' < 1) = false := decide_eq_false h1
    have h2a : decide (8 < n') = false := decide_eq_false h2
    have hn8 : n' ≤ 8 := by omega
    have HSZ : Hid (1 ≤ O.length ∧ O.length ≤ 8 ∧ L.length = W.length) := Lib.hid ⟨by have := HO.out; omega, by have := HO.out; omega, by rw [HM.out, HN.out]⟩
    go_wp2
    clear h1 h2
    go_loopw [6] (fun i wr => ∃ j : Nat, j ≤ m' ∧ i = .int .i64 j ∧ Hid (∀ i : Nat, i < j → 0 ≤ leftC L (i : Int) ∧ leftC L (i : Int) ≤ 1000) ∧ Hid (BxDC w A m' c F m d W E A' n' c' F' m' d' O L wr)) (fun i _ => m' - (intOf i).toNat)
    case atStart => exact ⟨0, Nat.zero_le _, rfl, Lib.hid (fun i hi => absurd hi (by omega)), B1⟩
    case round =>
      obtain ⟨j, hj, rfl, HL, HB⟩ := hrel
      clear B1 q0 q1 p0
      have q0 := HB.out.c0
      have q1 := HB.out.c1
      have p0 := HB.out.d0
      by_cases hlt : j < m'
      · obtain ⟨b2, off2, y, rfl, hbg2, hy, d2⟩ := HB.out.k.left.at_ (k := j) (by rw [HM.out]; exact hlt)
        have HY : Hid (leftC L (j : Int) = y) := Lib.hid (by rw [leftC_nat, List.getD_eq_getElem?_getD, hy]; rfl)
        clear hy hbg2
        by_cases hy1 : y < 0
        · obtain rfl : r = 110 := HRN.out fun h => by have := (HIFF.out.mp h).2.1 j (by rw [HM.out]; exact hlt); rw [HY.out] at this; omega
          go_wp2
          go_ret
          exact ⟨rfl, HB.out.bel⟩
        have hy1a : decide (y < 0) = false := decide_eq_false hy1
        by_cases hy2 : 1000 < y
        · obtain rfl : r = 110 := HRN.out fun h => by have := (HIFF.out.mp h).2.1 j (by rw [HM.out]; exact hlt); rw [HY.out] at this; omega
          clear hy1
          go_wp2
          go_ret
          exact ⟨rfl, HB.out.bel⟩
        have hy2a : decide (1000 < y) = false := decide_eq_false hy2
        have HL2 : Hid (∀ i : Nat, i < j + 1 → 0 ≤ leftC L (i : Int) ∧ leftC L (i : Int) ≤ 1000) := Lib.hid (fun i hi => by
          rcases Nat.lt_or_ge i j with h | h
          · exact HL.out i h
          · obtain rfl : i = j := by omega
            rw [HY.out]; omega)
        clear hy1 hy2
        go_wp2
        go_roundw
        case rel => exact ⟨j + 1, by omega, by go_num, HL2, HB⟩
        case measure => simp [intOf]; omega
      · obtain rfl : m' = j := by omega
        have HL0 : Hid (∀ i : Nat, i < L.length → 0 ≤ leftC L (i : Int) ∧ leftC L (i : Int) ≤ 1000) := Lib.hid (by rw [HM.out]; exact HL.out)
        clear HL
        go_wp2
        go_loopw [7] (fun i wr => ∃ j : Nat, j ≤ m' ∧ i = .int .i64 j ∧ Hid (∀ i : Nat, i < j → leftC L (i : Int) = 0 → OverC E L (i : Int)) ∧ Hid (BxDC w A m' c F m d W E A' n' c' F' m' d' O L wr)) (fun i _ => m' - (intOf i).toNat)
        case atStart => exact ⟨0, Nat.zero_le _, rfl, Lib.hid (fun i hi => absurd hi (by omega)), HB⟩
        case round =>
          obtain ⟨j, hj, rfl, HD, HB3⟩ := hrel
          clear HB q0 q1 p0
          have q0 := HB3.out.c0
          have q1 := HB3.out.c1
          have p0 := HB3.out.d0
          have p1 := HB3.out.d1
          by_cases hlt : j < m'
          · obtain ⟨b2, off2, y, rfl, hbg2, hy, d2⟩ := HB3.out.k.left.at_ (k := j) (by rw [HM.out]; exact hlt)
            have HY : Hid (leftC L (j : Int) = y) := Lib.hid (by rw [leftC_nat, List.getD_eq_getElem?_getD, hy]; rfl)
            have C2 := Lib.hid (CO.out _ (j : Int) HB3.out.g HB3.out.k HM0.out.fits HSZ.out.2.2)
            clear hy hbg2
            by_cases hy1 : y = 0
            · subst hy1
              by_cases ho : OverC E L (j : Int)
              · have HD2 : Hid (∀ i : Nat, i < j + 1 → leftC L (i : Int) = 0 → OverC E L (i : Int)) := Lib.hid (fun i hi => by
                  rcases Nat.lt_or_ge i j with h | h
                  · exact HD.out i h
                  · obtain rfl : i = j := by omega
                    exact fun _ => ho)
                rw [decide_eq_true ho] at C2
                clear ho
                go_wp2_with fail
                refine C2.out.mono ?_
                rintro e w2 ⟨rfl, b2⟩
                have HB4 := Lib.hid (HB3.out.next b2)
                clear b2 C2 HB3
                go_wp2
                go_roundw
                case rel => exact ⟨j + 1, by omega, by go_num, HD2, HB4⟩
                case measure => simp [intOf]; omega
              · obtain rfl : r = 110 := HRN.out fun h => ho ((HIFF.out.mp h).2.2.1 j (by rw [HM.out]; exact hlt) HY.out)
                rw [decide_eq_false ho] at C2
                clear ho
                go_wp2_with fail
                refine C2.out.mono ?_
                rintro e w2 ⟨rfl, b2⟩
                have HB4 := Lib.hid (HB3.out.next b2)
                clear b2 C2 HB3
                go_wp2
                go_ret
                exact ⟨rfl, HB4.out.bel⟩
            · have hy1a : (y == 0) = false := by simpa using hy1
              have HD2 : Hid (∀ i : Nat, i < j + 1 → leftC L (i : Int) = 0 → OverC E L (i : Int)) := Lib.hid (fun i hi h0 => by
                rcases Nat.lt_or_ge i j with h | h
                · exact HD.out i h h0
                · obtain rfl : i = j := by omega
                  rw [HY.out] at h0
                  exact absurd h0 hy1)
              clear hy1 C2
              go_wp2
              go_roundw
              case rel => exact ⟨j + 1, by omega, by go_num, HD2, HB3⟩
              case measure => simp [intOf]; omega
          · obtain rfl : m' = j := by omega
            have HD0 : Hid (∀ i : Nat, i < L.length → leftC L (i : Int) = 0 → OverC E L (i : Int)) := Lib.hid (by rw [HM.out]; exact HD.out)
            clear HD
            go_wp2
            go_loopw [8] (fun i wr => ∃ j : Nat, j ≤ n' ∧ i = .int .i64 j ∧ Hid (∀ (i : Nat) (x : Int), i < j → O[i]? = some x → x = -1 ∨ ((0 ≤ x ∧ x < W.length) ∧ leftC L x ≠ 0 ∧ OverC E L x ∧ x ∉ O.take i)) ∧ Hid (BxDC w A m' c F m d W E A' n' c' F' m' d' O L wr)) (fun i _ => n' - (intOf i).toNat)
            case atStart => exact ⟨0, Nat.zero_le _, rfl, Lib.hid (fun i x hi => absurd hi (by omega)), HB3⟩
            case round =>
              obtain ⟨j, hj, rfl, HE, HB⟩ := hrel
              clear HB3 q0 q1 p0 p1
              have q0 := HB.out.c0
              have q1 := HB.out.c1
              have p0 := HB.out.d0
              have p1 := HB.out.d1
              by_cases hlt : j < n'
              · obtain ⟨bk, off, x, rfl, hbk, hxk, d1⟩ := HB.out.k.on.at_ (k := j) (by rw [HO.out]; exact hlt)
                have HXK := Lib.hid hxk
                have HXN : Hid (∀ h : CrewOk W.length E O L, x = -1 ∨ ((0 ≤ x ∧ x < W.length) ∧ leftC L x ≠ 0 ∧ OverC E L x ∧ x ∉ O.take j)) := Lib.hid (fun h => (HIFF.out.mp h).2.2.2 j x hxk)
                clear hxk hbk
                by_cases x1 : x < -1
                · obtain rfl : r = 110 := HRN.out fun h => by rcases HXN.out h with q | ⟨q, _⟩ <;> omega
                  go_wp2
                  go_ret
                  exact ⟨rfl, HB.out.bel⟩
                have x1a : decide (x < -1) = false := decide_eq_false x1
                by_cases x2 : x = -1
                · subst x2
                  have x2a : decide ((m' : Int) ≤ -1) = false := decide_eq_false (by omega)
                  have HE2 : Hid (∀ (i : Nat) (x : Int), i < j + 1 → O[i]? = some x → x = -1 ∨ ((0 ≤ x ∧ x < W.length) ∧ leftC L x ≠ 0 ∧ OverC E L x ∧ x ∉ O.take i)) := Lib.hid (fun i x hi hx => by
                    rcases Nat.lt_or_ge i j with h | h
                    · exact HE.out i x h hx
                    · obtain rfl : i = j := by omega
                      rw [HXK.out] at hx
                      exact .inl (Option.some.inj hx).symm)
                  clear x1 x1a
                  go_wp2
                  go_roundw
                  case rel => exact ⟨j + 1, by omega, by go_num, HE2, HB⟩
                  case measure => simp [intOf]; omega
                have hx0 : 0 ≤ x := by omega
                clear x1
                by_cases x3 : (m' : Int) ≤ x
                · obtain rfl : r = 110 := HRN.out fun h => by rcases HXN.out h with q | ⟨q, _⟩ <;> have := HN.out <;> omega
                  clear x2
                  go_wp2
                  go_ret
                  exact ⟨rfl, HB.out.bel⟩
                have x3a : decide ((m' : Int) ≤ x) = false := decide_eq_false x3
                have x0a : decide (0 ≤ x) = true := decide_eq_true hx0
                obtain ⟨q, rfl⟩ : ∃ q : Nat, x = q := ⟨x.toNat, by omega⟩
                have hqm : q < m' := by omega
                have x3n : decide (m' ≤ q) = false := decide_eq_false (by omega)
                have HNE := Lib.hid x2
                clear x2 x3 hx0
                obtain ⟨b2, off2, y, rfl, hbg2, hy, d2⟩ := HB.out.k.left.at_ (k := q) (by rw [HM.out]; exact hqm)
                have HY : Hid (leftC L (q : Int) = y) := Lib.hid (by rw [leftC_nat, List.getD_eq_getElem?_getD, hy]; rfl)
                have C2 := Lib.hid (CO.out _ (q : Int) HB.out.g HB.out.k HM0.out.fits HSZ.out.2.2)
                clear hy hbg2
                by_cases hy1 : y = 0
                · obtain rfl : r = 110 := HRN.out fun h => by
                    rcases HXN.out h with q1 | ⟨_, q2, _⟩
                    · exact HNE.out q1
                    · exact q2 (HY.out.trans hy1)
                  subst hy1
                  clear C2
                  go_wp2
                  go_ret
                  exact ⟨rfl, HB.out.bel⟩
                have hy1a : (y == 0) = false := beq_eq_false_iff_ne.mpr hy1
                have HY1 := Lib.hid hy1
                clear hy1
                by_cases ho : OverC E L (q : Int)
                · rw [decide_eq_true ho] at C2
                  have HOV := Lib.hid ho
                  clear ho
                  have hjc : j ≤ c' := by omega
                  by_cases hm : (q : Int) ∈ O.take j
                  · obtain rfl : r = 110 := HRN.out fun h => by
                      rcases HXN.out h with q1 | ⟨_, _, _, q2⟩
                      · exact HNE.out q1
                      · exact q2 hm
                    go_wp2_with fail
                    refine C2.out.mono ?_
                    rintro e w2 ⟨rfl, b2⟩
                    have HB4 := Lib.hid (HB.out.next b2)
                    clear b2 C2 HB
                    have q0 := HB4.out.c0
                    have C3 := Lib.hid (has_any (some ⟨bk, off, none⟩) c' (O.take j) (q : Int) w2 j (by rw [List.length_take, HO.out]; omega) (by omega) (HB4.out.k.on.take j))
                    rw [decide_eq_true hm] at C3
                    clear hm
                    go_wp2_with fail
                    refine C3.out.mono ?_
                    rintro e w3 ⟨rfl, rfl⟩
                    go_wp2
                    go_ret
                    exact ⟨rfl, HB4.out.bel⟩
                  · have HE2 : Hid (∀ (i : Nat) (x : Int), i < j + 1 → O[i]? = some x → x = -1 ∨ ((0 ≤ x ∧ x < W.length) ∧ leftC L x ≠ 0 ∧ OverC E L x ∧ x ∉ O.take i)) := Lib.hid (fun i x hi hx => by
                      rcases Nat.lt_or_ge i j with h | h
                      · exact HE.out i x h hx
                      · obtain rfl : i = j := by omega
                        rw [HXK.out] at hx
                        obtain rfl : (q : Int) = x := Option.some.inj hx
                        exact .inr ⟨⟨by omega, by have := HN.out; omega⟩, by rw [HY.out]; exact HY1.out, HOV.out, hm⟩)
                    go_wp2_with fail
                    refine C2.out.mono ?_
                    rintro e w2 ⟨rfl, b2⟩
                    have HB4 := Lib.hid (HB.out.next b2)
                    clear b2 C2 HB
                    have q0 := HB4.out.c0
                    have C3 := Lib.hid (has_any (some ⟨bk, off, none⟩) c' (O.take j) (q : Int) w2 j (by rw [List.length_take, HO.out]; omega) (by omega) (HB4.out.k.on.take j))
                    rw [decide_eq_false hm] at C3
                    clear hm
                    go_wp2_with fail
                    refine C3.out.mono ?_
                    rintro e w3 ⟨rfl, rfl⟩
                    go_wp2
                    go_roundw
                    case rel => exact ⟨j + 1, by omega, by go_num, HE2, HB4⟩
                    case measure => simp [intOf]; omega
                · obtain rfl : r = 110 := HRN.out fun h => by
                    rcases HXN.out h with q1 | ⟨_, _, q2, _⟩
                    · exact HNE.out q1
                    · exact ho q2
                  rw [decide_eq_false ho] at C2
                  clear ho
                  go_wp2_with fail
                  refine C2.out.mono ?_
                  rintro e w2 ⟨rfl, b2⟩
                  have HB4 := Lib.hid (HB.out.next b2)
                  clear b2 C2 HB
                  go_wp2
                  go_ret
                  exact ⟨rfl, HB4.out.bel⟩
              · obtain rfl : n' = j := by omega
                obtain rfl : r = 0 := HRY.out (HIFF.out.mpr ⟨HSZ.out, HL0.out, HD0.out, fun i x hx => HE.out i x (by have := (List.getElem?_eq_some_iff.1 hx).1; have := HO.out; omega) hx⟩)
                go_wp2
                go_ret
                exact ⟨rfl, HB.out.bel⟩
  · have HRE : Hid (r = chkE W E) := Lib.hid (HR.out.trans (crewE_bad he))
    have heb : (chkE W E != 0) = true := bne_iff_ne.mpr he
    obtain ⟨z, hz⟩ : ∃ z, z = chkE W E := ⟨_, rfl⟩
    rw [← hz] at HRE heb CK
    obtain rfl : r = z := HRE.out
    clear he hz HRE HR
    go_enter Tryd.func16, Tryd.ntmps16
    go_wp2_with fail
    refine (CK.out _ B0.out.g).mono ?_
    rintro e w1 ⟨rfl, b1⟩
    have B1 := Lib.hid (B0.out.next b1)
    clear b1
    go_wp2
    go_ret
    exact ⟨rfl, B1.out.bel⟩
end
end Go.Proofs.YtmmogdccjiagnaaDoor
set_option linter.unusedVariables false
namespace Go.Proofs.YtmmogdccjiagnaaDoor
open Go.RowKit

section
variable {A : Option Addr} {n c : Nat} {F : Option Addr} {m d : Nat} {O L : List Int} {A' : Option Addr} {n' c' : Nat} {F' : Option Addr} {m' d' : Nat} {O' L' : List Int}
theorem below_alloc2c {w : World} (o p : Obj) : Below w.heap.size w ((w.alloc o).alloc p) := (below_alloc o).trans ((below_alloc (w := w.alloc o) p).mono (by simp))
set_option maxRecDepth 100000 in
set_option maxHeartbeats 4000000 in
theorem rsameC_any (w : World) (h : IsC w A n c F m d O L) (h' : IsC w A' n' c' F' m' d' O' L') :
    Calls Tryd.prog 19 #[.agg #[.slice A n c, .slice F m d], .agg #[.slice A' n' c', .slice F' m' d']] w fun e w' => e = .returned (.bool (decide (O = O' ∧ L = L'))) ∧ Below w.heap.size w w' := by
  obtain ⟨w0, hw0⟩ : ∃ w0, w0 = (w.alloc (.cells #[.slice A n c, .slice F m d] 27)).alloc (.cells #[.slice A' n' c', .slice F' m' d'] 27) := ⟨_, rfl⟩
  have hb0 : Below w.heap.size w w0 := by rw [hw0]; exact below_alloc2c _ _
  have C1 := ints_any w0.heap.size A A' c c' O O' w0 (by rw [h.hn]; have := h.ln; omega) (by rw [h'.hn]; have := h'.ln; omega) ((h.below hb0).on) ((h'.below hb0).on)
  have C2 := Lib.hid (fun N => ints_any w0.heap.size F F' d d' L L' (w0.drewN N) (by rw [h.hm]; have := h.lm; omega) (by rw [h'.hm]; have := h'.lm; omega) ((h.below hb0).left.below (below_drewN (Below.refl _ _) N)) ((h'.below hb0).left.below (below_drewN (Below.refl _ _) N)))
  rw [h.hn, h'.hn] at C1
  simp only [h.hm, h'.hm] at C2
  rw [hw0] at C1 C2
  have HB := Lib.hid (fun N => below_drewN (below_alloc2c (w := w) (.cells #[.slice A n c, .slice F m d] 27) (.cells #[.slice A' n' c', .slice F' m' d'] 27)) N)
  have HC1 := Lib.hid C1
  clear h h' hw0 C1 hb0
  by_cases h1 : O = O'
  · rw [decide_eq_true h1] at HC1
    have hr : decide (O = O' ∧ L = L') = decide (L = L') := by simp [h1]
    rw [hr]
    obtain ⟨r, hr⟩ : ∃ r, r = decide (L = L') := ⟨_, rfl⟩
    simp only [← hr] at C2 ⊢
    clear h1 hr
    go_enter Tryd.func19, Tryd.ntmps19
    go_wp2_with fail
    refine HC1.out.mono ?_
    rintro e w' ⟨rfl, N, rfl⟩
    go_wp2_with fail
    refine (C2.out _).mono ?_
    rintro e w' ⟨rfl, M, rfl⟩
    go_wp2_with fail
    go_ret
    exact ⟨rfl, HB.out _⟩
  · rw [decide_eq_false h1] at HC1
    rw [decide_eq_false (fun q : O = O' ∧ L = L' => h1 q.1)]
    clear h1
    go_enter Tryd.func19, Tryd.ntmps19
    go_wp2_with fail
    refine HC1.out.mono ?_
    rintro e w' ⟨rfl, N, rfl⟩
    go_wp2_with fail
    go_ret
    exact ⟨rfl, HB.out N⟩
end
section
variable {T T' : Option Addr} {tn tc tn' tc' : Nat} {t t' : List (List Int)}
set_option maxRecDepth 100000 in
set_option maxHeartbeats 4000000 in
theorem rtrace_any (w : World) (hT : Trc w w.heap.size T t) (ht : t.length = tn) (lt : tn ≤ 400) (lr : ∀ r ∈ t, r.length ≤ 400) (hT' : Trc w w.heap.size T' t') (ht' : t'.length = tn') (lt' : tn' ≤ 400) (lr' : ∀ r ∈ t', r.length ≤ 400) :
    Calls Tryd.prog 30 #[.slice T tn tc, .slice T' tn' tc'] w fun e w' => e = .returned (.bool (decide (t = t'))) ∧ Below w.heap.size w w' := by
  have HT := Lib.hid hT
  have HT' := Lib.hid hT'
  have HL := Lib.hid ht
  have HL' := Lib.hid ht'
  have HR := Lib.hid lr
  have HR' := Lib.hid lr'
  obtain ⟨bb, hbb⟩ : ∃ bb, bb = decide (t = t') := ⟨_, rfl⟩
  rw [← hbb]
  have HBB := Lib.hid hbb
  clear hT hT' ht ht' lr lr' hbb
  by_cases hnm : tn = tn'
  · subst hnm
    have HB := Lib.hid (Below.refl w.heap.size w)
    go_enter Tryd.func30, Tryd.ntmps30
    go_wp2
    go_loopw [5] (fun i wr => ∃ j N : Nat, j ≤ tn ∧ i = .int .i64 j ∧ Hid (t.take j = t'.take j) ∧ wr = w.drewN N) (fun i _ => tn - (intOf i).toNat)
    case atStart => exact ⟨0, 0, Nat.zero_le _, rfl, Lib.hid rfl, rfl⟩
    case round =>
      obtain ⟨j, N, hj, rfl, HK, rfl⟩ := hrel
      by_cases hlt : j < tn
      · obtain ⟨b1, o1, r, A1, n1, c1, rfl, hb1, hr, hn1, hc1, hi1, _⟩ := HT.out.at_ (k := j) (by rw [HL.out]; exact hlt)
        obtain ⟨b2, o2, r', A1', n1', c1', rfl, hb2, hr', hn1', hc1', hi1', _⟩ := HT'.out.at_ (k := j) (by rw [HL'.out]; exact hlt)
        have h400 := HR.out r (List.mem_of_getElem? hr)
        have h400' := HR'.out r' (List.mem_of_getElem? hr')
        have HX := Lib.hid hr
        have HY := Lib.hid hr'
        have C1 := Lib.hid (fun n => (ints_any w.heap.size A1 A1' c1 c1' r r' (w.drewN (N + n)) (by omega) (by omega) (hi1.below (below_drewN (Below.refl _ _) (N + n))) (hi1'.below (below_drewN (Below.refl _ _) (N + n)))).mono fun e w' h => show e = .returned (.bool (decide (r = r'))) ∧ ∃ m, w' = w.drewN (N + m) from ⟨h.1, by obtain ⟨M, hM⟩ := h.2; exact ⟨n + M, by rw [hM, drews, Nat.add_assoc]⟩⟩)
        rw [hn1, hn1'] at C1
        clear hr hr' hb1 hb2 hi1 hi1' hn1 hn1' h400 h400'
        by_cases hxy : r = r'
        · rw [decide_eq_true hxy] at C1
          subst hxy
          go_wp2
          go_quiet (first
            | (go_at_call_of 22 (Value.slice A1 n1 c1); exact C1.out _))
          go_wp2
          go_roundw
          case rel => exact ⟨j + 1, _, by omega, by go_num, Lib.hid (take_next HK.out HX.out HY.out), rfl⟩
          case measure => simp [intOf]; omega
        · rw [decide_eq_false hxy] at C1
          have hne : t ≠ t' := take_part HX.out HY.out hxy
          obtain rfl : bb = false := HBB.out.trans (decide_eq_false hne)
          clear hxy hne
          go_wp2
          go_quiet (first
            | (go_at_call_of 22 (Value.slice A1 n1 c1); exact C1.out _))
          go_wp2
          go_ret
          exact ⟨rfl, below_drewN (below_drewN HB.out _) _⟩
      · obtain rfl : tn = j := by omega
        have he : t = t' := take_ext (by rw [HL.out, HL'.out]) (by rw [HL.out]; exact HK.out)
        obtain rfl : bb = true := HBB.out.trans (decide_eq_true he)
        clear he
        go_wp2
        go_ret
        exact ⟨rfl, below_drewN HB.out _⟩
  · have hb : ((tn : Int) == (tn' : Int)) = false := beq_eq_false_iff_ne.mpr (by omega)
    have hb2 : ((tn : Int) != (tn' : Int)) = true := bne_iff_ne.mpr (by omega)
    have hne : t ≠ t' := fun e => hnm (by rw [← HL.out, ← HL'.out, e])
    obtain rfl : bb = false := HBB.out.trans (decide_eq_false hne)
    clear hne
    go_enter Tryd.func30, Tryd.ntmps30
    go_wp2
    go_ret
    exact ⟨rfl, Below.refl _ _⟩
end
end Go.Proofs.YtmmogdccjiagnaaDoor
