/- The walk of the law PartWider, in the seat YtngdbbligebcbaaDoor (printed by part/mk_wider.py). No statement is proved here. -/
import Derived.Test.YtngdbbligebcbaaDoorZM12
set_option linter.unusedSimpArgs false
set_option linter.unusedVariables false
set_option linter.unusedSimpArgs false
namespace Go.Proofs.YtngdbbligebcbaaDoor
open Go Go.RowKit

theorem own_some16 {w : World} {base n c : Nat} {A : Option Addr} {es : List Shp} (h : OwnS w base (.slice A n c) es) (hn : 0 < es.length) : ∃ g, A = some ⟨g, 0, none⟩ ∧ n ≤ c := by
  have hl := h.len
  rcases h.2 with ⟨e, h0⟩ | ⟨g', cap, cur, e, hg, hgg, hnc, _⟩
  · omega
  · injection e with e1 e2 e3
    exact ⟨g', e1, by omega⟩
theorem own_someI {w : World} {base n c : Nat} {A : Option Addr} {zs : List Int} (h : OwnI w base (.slice A n c) zs) (hn : 0 < zs.length) : ∃ g, A = some ⟨g, 0, none⟩ ∧ n ≤ c := by
  have hl := h.len_eq
  rcases h.2 with ⟨e, h0⟩ | ⟨g', cap, cur, e, hg, hgg, hnc, _⟩
  · omega
  · injection e with e1 e2 e3
    exact ⟨g', e1, by omega⟩
set_option maxRecDepth 100000 in
set_option maxHeartbeats 64000000 in
theorem law_PartWider {A P : Option Addr} {n c q d : Nat} {es : List Shp} {zs : List Int} (m k : Int) (w : World) (hT : DTab w) (hn : es.length = n) (hS : Shps w w.heap.size A es) (hA : A = none → n = 0 ∧ c = 0)
    (hq : zs.length = q) (hZ : Ints w w.heap.size P zs) (hPn : P = none → q = 0 ∧ d = 0) (hm : -9223372036854775808 ≤ m ∧ m ≤ 9223372036854775807) (hk : -9223372036854775808 ≤ k ∧ k ≤ 9223372036854775807) :
    Calls Tryd.prog 8 #[.slice A n c, .slice P q d, .int .i64 m, .int .i64 k] w fun e w' => e = .returned (.bool true) ∧ Below w.heap.size w w' := by
  have AW := Lib.hid (fun W (b : Below w.heap.size w W) => awake16_any W (hT.via b))
  have HI := Lib.hid (Below.refl w.heap.size w)
  by_cases hl20 : n ≤ 20
  · by_cases hq20 : q ≤ 20
    · by_cases hm8 : m < 8
      · have hl : n ≤ 1000 := by omega
        have g1 : decide ((20 : Int) < (n : Int)) = false := decide_eq_false (by omega)
        have g2 : decide ((20 : Int) < (q : Int)) = false := decide_eq_false (by omega)
        have g3 : decide ((8 : Int) ≤ m) = false := decide_eq_false (by omega)
        have g4 : decide (20 < n) = false := decide_eq_false (by omega)
        have g5 : decide (20 < q) = false := decide_eq_false (by omega)
        have OW := Lib.hid (fun W (b : Below w.heap.size w W) => own15n (c := c) W hn hl (hS.via b) hA)
        have KZ := Lib.hid (fun W (b : Below w.heap.size w W) => ((hZ.below b).more b.size : Ints W W.heap.size P zs))
        have HQ := Lib.hid (show zs.length = q ∧ q ≤ 20 ∧ (P = none → q = 0 ∧ d = 0) from ⟨hq, hq20, hPn⟩)
        obtain ⟨x, hx⟩ := existsB (RightP es zs m)
        have KR := Lib.hid (fun A1 c1 A2 c2 W (b : Below w.heap.size w W) (h1 : Shps W W.heap.size A1 es) (h2 : Ints W W.heap.size A2 zs) => right_any (c := c1) (d := c2) x m hx W (hT.via b) hn (by omega) h1 hq (by omega) h2)
        cases x with
        | false =>
          clear hS hA hT hn hZ hq hPn hx hl
          go_enter Tryd.func8, Tryd.ntmps8
          go_wp2_with fail
          refine (AW.out _ HI.out).mono ?_
          rintro e w1 ⟨rfl, b⟩
          have HI := Lib.hid (HI.out.trans (b.mono HI.out.size))
          clear b
          go_wp2_with fail
          refine (OW.out _ HI.out).mono ?_
          rintro e w2 ⟨A2, c2, rfl, ho, b⟩
          have HO := Lib.hid (ho.down HI.out.size)
          have HI := Lib.hid (HI.out.trans (b.mono HI.out.size))
          clear b ho
          have hz3 := KZ.out _ HI.out
          obtain ⟨A3, c3, w3, hr3, ho, b⟩ := fresh16 _ P d q zs HQ.out.1 (by have := HQ.out; omega) hz3 HQ.out.2.2
          have HR3 := Lib.hid hr3
          have HO := Lib.hid (HO.out.below b)
          have HAp := Lib.hid (ho.down HI.out.size)
          have HI := Lib.hid (HI.out.trans (b.mono HI.out.size))
          clear b ho hr3 hz3
          go_wp2_with (at_builtin; refine wpList_unguardP (by first | rfl | kernel_rfl) ?_; refine wpList_append_plain rfl _ _ 24 _ _ rfl rfl rfl HR3.out ?_)
          refine (KR.out _ _ _ _ _ HI.out HO.out.shps HAp.out.ints).mono ?_
          rintro e w4 ⟨rfl, b⟩
          have HI := Lib.hid (HI.out.trans (b.mono HI.out.size))
          clear b HO HAp
          go_wp2_with fail
          refine (AW.out _ HI.out).mono ?_
          rintro e w5 ⟨rfl, b⟩
          have HI := Lib.hid (HI.out.trans (b.mono HI.out.size))
          clear b
          go_wp2
          go_ret
          exact ⟨rfl, HI.out⟩
        | true =>
          have hR := hx.mp rfl
          have hqn : q = n := by have := hR.len; omega
          subst hqn
          have KR2 := Lib.hid (fun A1 c1 A2 c2 W (b : Below w.heap.size w W) (h1 : Shps W W.heap.size A1 es) (h2 : Ints W W.heap.size A2 zs) => right_any (c := c1) (d := c2) true (m + 1) ⟨fun _ => hR.more hm8, fun _ => rfl⟩ W (hT.via b) hn (by omega) h1 hq (by omega) h2)
          by_cases hk0 : k < 0 ∨ (q : Int) ≤ k
          · have hcases : k < 0 ∨ (¬ k < 0 ∧ (q : Int) ≤ k) := by omega
            clear hS hA hT hn hZ hq hPn hx hl hR hk0
            rcases hcases with h1 | ⟨h1, h2⟩
            · go_enter Tryd.func8, Tryd.ntmps8
              go_wp2_with fail
              refine (AW.out _ HI.out).mono ?_
              rintro e w1 ⟨rfl, b⟩
              have HI := Lib.hid (HI.out.trans (b.mono HI.out.size))
              clear b
              go_wp2_with fail
              refine (OW.out _ HI.out).mono ?_
              rintro e w2 ⟨A2, c2, rfl, ho, b⟩
              have HO := Lib.hid (ho.down HI.out.size)
              have HI := Lib.hid (HI.out.trans (b.mono HI.out.size))
              clear b ho
              have hz3 := KZ.out _ HI.out
              obtain ⟨A3, c3, w3, hr3, ho, b⟩ := fresh16 _ P d q zs HQ.out.1 (by have := HQ.out; omega) hz3 HQ.out.2.2
              have HR3 := Lib.hid hr3
              have HO := Lib.hid (HO.out.below b)
              have HAp := Lib.hid (ho.down HI.out.size)
              have HI := Lib.hid (HI.out.trans (b.mono HI.out.size))
              clear b ho hr3 hz3
              go_wp2_with (at_builtin; refine wpList_unguardP (by first | rfl | kernel_rfl) ?_; refine wpList_append_plain rfl _ _ 24 _ _ rfl rfl rfl HR3.out ?_)
              refine (KR.out _ _ _ _ _ HI.out HO.out.shps HAp.out.ints).mono ?_
              rintro e w4 ⟨rfl, b⟩
              have HI := Lib.hid (HI.out.trans (b.mono HI.out.size))
              clear b HO HAp
              go_wp2_with fail
              refine (OW.out _ HI.out).mono ?_
              rintro e w5 ⟨A5, c5, rfl, ho, b⟩
              have HO := Lib.hid (ho.down HI.out.size)
              have HI := Lib.hid (HI.out.trans (b.mono HI.out.size))
              clear b ho
              have hz6 := KZ.out _ HI.out
              obtain ⟨A6, c6, w6, hr6, ho, b⟩ := fresh16 _ P d q zs HQ.out.1 (by have := HQ.out; omega) hz6 HQ.out.2.2
              have HR6 := Lib.hid hr6
              have HO := Lib.hid (HO.out.below b)
              have HAp := Lib.hid (ho.down HI.out.size)
              have HI := Lib.hid (HI.out.trans (b.mono HI.out.size))
              clear b ho hr6 hz6
              go_wp2_with (at_builtin; refine wpList_append_plain rfl _ _ 24 _ _ rfl rfl rfl HR6.out ?_)
              refine (KR2.out _ _ _ _ _ HI.out HO.out.shps HAp.out.ints).mono ?_
              rintro e w7 ⟨rfl, b⟩
              have HI := Lib.hid (HI.out.trans (b.mono HI.out.size))
              clear b HO HAp
              go_wp2
              go_ret
              exact ⟨rfl, HI.out⟩
            · go_enter Tryd.func8, Tryd.ntmps8
              go_wp2_with fail
              refine (AW.out _ HI.out).mono ?_
              rintro e w1 ⟨rfl, b⟩
              have HI := Lib.hid (HI.out.trans (b.mono HI.out.size))
              clear b
              go_wp2_with fail
              refine (OW.out _ HI.out).mono ?_
              rintro e w2 ⟨A2, c2, rfl, ho, b⟩
              have HO := Lib.hid (ho.down HI.out.size)
              have HI := Lib.hid (HI.out.trans (b.mono HI.out.size))
              clear b ho
              have hz3 := KZ.out _ HI.out
              obtain ⟨A3, c3, w3, hr3, ho, b⟩ := fresh16 _ P d q zs HQ.out.1 (by have := HQ.out; omega) hz3 HQ.out.2.2
              have HR3 := Lib.hid hr3
              have HO := Lib.hid (HO.out.below b)
              have HAp := Lib.hid (ho.down HI.out.size)
              have HI := Lib.hid (HI.out.trans (b.mono HI.out.size))
              clear b ho hr3 hz3
              go_wp2_with (at_builtin; refine wpList_unguardP (by first | rfl | kernel_rfl) ?_; refine wpList_append_plain rfl _ _ 24 _ _ rfl rfl rfl HR3.out ?_)
              refine (KR.out _ _ _ _ _ HI.out HO.out.shps HAp.out.ints).mono ?_
              rintro e w4 ⟨rfl, b⟩
              have HI := Lib.hid (HI.out.trans (b.mono HI.out.size))
              clear b HO HAp
              go_wp2_with fail
              refine (OW.out _ HI.out).mono ?_
              rintro e w5 ⟨A5, c5, rfl, ho, b⟩
              have HO := Lib.hid (ho.down HI.out.size)
              have HI := Lib.hid (HI.out.trans (b.mono HI.out.size))
              clear b ho
              have hz6 := KZ.out _ HI.out
              obtain ⟨A6, c6, w6, hr6, ho, b⟩ := fresh16 _ P d q zs HQ.out.1 (by have := HQ.out; omega) hz6 HQ.out.2.2
              have HR6 := Lib.hid hr6
              have HO := Lib.hid (HO.out.below b)
              have HAp := Lib.hid (ho.down HI.out.size)
              have HI := Lib.hid (HI.out.trans (b.mono HI.out.size))
              clear b ho hr6 hz6
              go_wp2_with (at_builtin; refine wpList_append_plain rfl _ _ 24 _ _ rfl rfl rfl HR6.out ?_)
              refine (KR2.out _ _ _ _ _ HI.out HO.out.shps HAp.out.ints).mono ?_
              rintro e w7 ⟨rfl, b⟩
              have HI := Lib.hid (HI.out.trans (b.mono HI.out.size))
              clear b HO HAp
              go_wp2
              go_ret
              exact ⟨rfl, HI.out⟩
          · obtain ⟨kn, hkn⟩ : ∃ kn : Nat, k = kn := ⟨k.toNat, by omega⟩
            subst hkn
            have hkq : kn < q := by omega
            have KR3 := Lib.hid (fun A1 c1 A2 c2 W (b : Below w.heap.size w W) (h1 : Shps W W.heap.size A1 (es.take kn ++ es.drop (kn + 1))) (h2 : Ints W W.heap.size A2 (zs.take kn ++ zs.drop (kn + 1))) => right_any (n := q - 1) (m := q - 1) (c := c1) (d := c2) true m ⟨fun _ => hR.less (by omega), fun _ => rfl⟩ W (hT.via b) (by simp; omega) (by omega) h1 (by simp; omega) (by omega) h2)
            have HNE := Lib.hid (show es.length = q from hn)
            have HKQ := Lib.hid hkq
            clear hS hA hT hn hZ hq hPn hx hl hR hk0
            go_enter Tryd.func8, Tryd.ntmps8
            go_wp2_with fail
            refine (AW.out _ HI.out).mono ?_
            rintro e w1 ⟨rfl, b⟩
            have HI := Lib.hid (HI.out.trans (b.mono HI.out.size))
            clear b
            go_wp2_with fail
            refine (OW.out _ HI.out).mono ?_
            rintro e w2 ⟨A2, c2, rfl, ho, b⟩
            have HO := Lib.hid (ho.down HI.out.size)
            have HI := Lib.hid (HI.out.trans (b.mono HI.out.size))
            clear b ho
            have hz3 := KZ.out _ HI.out
            obtain ⟨A3, c3, w3, hr3, ho, b⟩ := fresh16 _ P d q zs HQ.out.1 (by have := HQ.out; omega) hz3 HQ.out.2.2
            have HR3 := Lib.hid hr3
            have HO := Lib.hid (HO.out.below b)
            have HAp := Lib.hid (ho.down HI.out.size)
            have HI := Lib.hid (HI.out.trans (b.mono HI.out.size))
            clear b ho hr3 hz3
            go_wp2_with (at_builtin; refine wpList_unguardP (by first | rfl | kernel_rfl) ?_; refine wpList_append_plain rfl _ _ 24 _ _ rfl rfl rfl HR3.out ?_)
            refine (KR.out _ _ _ _ _ HI.out HO.out.shps HAp.out.ints).mono ?_
            rintro e w4 ⟨rfl, b⟩
            have HI := Lib.hid (HI.out.trans (b.mono HI.out.size))
            clear b HO HAp
            go_wp2_with fail
            refine (OW.out _ HI.out).mono ?_
            rintro e w5 ⟨A5, c5, rfl, ho, b⟩
            have HO := Lib.hid (ho.down HI.out.size)
            have HI := Lib.hid (HI.out.trans (b.mono HI.out.size))
            clear b ho
            have hz6 := KZ.out _ HI.out
            obtain ⟨A6, c6, w6, hr6, ho, b⟩ := fresh16 _ P d q zs HQ.out.1 (by have := HQ.out; omega) hz6 HQ.out.2.2
            have HR6 := Lib.hid hr6
            have HO := Lib.hid (HO.out.below b)
            have HAp := Lib.hid (ho.down HI.out.size)
            have HI := Lib.hid (HI.out.trans (b.mono HI.out.size))
            clear b ho hr6 hz6
            go_wp2_with (at_builtin; refine wpList_append_plain rfl _ _ 24 _ _ rfl rfl rfl HR6.out ?_)
            refine (KR2.out _ _ _ _ _ HI.out HO.out.shps HAp.out.ints).mono ?_
            rintro e w7 ⟨rfl, b⟩
            have HI := Lib.hid (HI.out.trans (b.mono HI.out.size))
            clear b HO HAp
            go_wp2_with fail
            refine (OW.out _ HI.out).mono ?_
            rintro e w8 ⟨A8, c8, rfl, ho, b⟩
            have HO := Lib.hid (ho.down HI.out.size)
            have HI := Lib.hid (HI.out.trans (b.mono HI.out.size))
            clear b ho
            have hz9 := KZ.out _ HI.out
            obtain ⟨A9, c9, w9, hr9, ho, b⟩ := fresh16 _ P d q zs HQ.out.1 (by have := HQ.out; omega) hz9 HQ.out.2.2
            have HR9 := Lib.hid hr9
            have HO := Lib.hid (HO.out.below b)
            have HAp := Lib.hid (ho.down HI.out.size)
            have HI := Lib.hid (HI.out.trans (b.mono HI.out.size))
            clear b ho hr9 hz9
            obtain ⟨g1, rfl, hc1⟩ := own_some16 HO.out (by have := HNE.out; omega)
            obtain ⟨g2, rfl, hc2⟩ := own_someI HAp.out (by have := HQ.out; omega)
            have s1 := fun W => cutP_h g1 q c8 kn (by omega) hc1 W
            have s2 : ∀ W, _ := fun W => cutP_l g1 q c8 (kn + 1) (by omega) hc1 W
            have s3 := fun W => cutQ_h g2 q c9 kn (by omega) hc2 W
            have s4 : ∀ W, _ := fun W => cutQ_l g2 q c9 (kn + 1) (by omega) hc2 W
            have e1 : ((kn + 1 : Nat) : Int) = (kn : Int) + 1 := by omega
            rw [e1] at s2 s4
            clear e1
            have hwr : IntKind.i64.wrap ((kn : Int) + 1) = (kn : Int) + 1 := by rw [IntKind.wrap_i64]; omega
            have HC := Lib.hid (show q ≤ c8 ∧ q ≤ c9 from ⟨hc1, hc2⟩)
            go_wp2_with (at_builtin; refine wpList_append_plain rfl _ _ 24 _ _ rfl rfl rfl HR9.out ?_)
            go_upto_region 8 with fail
            have HOd := Lib.hid (HO.out.below (Below.refl _ _).drew)
            have HAd := Lib.hid (HAp.out.below (Below.refl _ _).drew)
            have HId := Lib.hid (HI.out.drew)
            clear HO HAp HI
            go_region_law (first | (refine step_pullS rfl (.tmp 68) (.tmp 72) rfl rfl w.heap.size g1 q c8 kn es HNE.out HXS.out HKQ.out (by omega) HC.out.1 HIb.out.size (by simp [Act.eval, Act.put]) (by simp [Act.eval, Act.put]) ?_; intro F1 d1 wa ho hr; (have HS1 := Lib.hid ho); (have HT1 := Lib.hid (hr.own HT1.out (by decide))); (have HIc := Lib.hid (HIb.out.trans (hr.below HIb.out.size))); clear ho hr) | (refine step_pullI rfl (.tmp 76) (.tmp 80) rfl rfl w.heap.size g2 q c9 kn zs HQ.out.1 HXI.out HKQ.out (by omega) HC.out.2 HIa.out.size (by simp [Act.eval, Act.put]) (by simp [Act.eval, Act.put]) ?_; intro F2 d2 wb ho hr; (have HT1 := Lib.hid ho); (have HS1 := Lib.hid (hr.own HS1.out (by decide))); (have HIc := Lib.hid (HIa.out.trans (hr.below HIa.out.size))); clear ho hr) | (refine step_pullS rfl (.tmp 68) (.tmp 72) rfl rfl w.heap.size g1 q c8 kn es HNE.out HOd.out HKQ.out (by omega) HC.out.1 HId.out.size (by simp [Act.eval, Act.put]) (by simp [Act.eval, Act.put]) ?_; intro F1 d1 wa ho hr; (have HS1 := Lib.hid ho); (have HXI := Lib.hid (hr.own HAd.out (by decide))); (have HIa := Lib.hid (HId.out.trans (hr.below HId.out.size))); clear ho hr) | (refine step_pullI rfl (.tmp 76) (.tmp 80) rfl rfl w.heap.size g2 q c9 kn zs HQ.out.1 HAd.out HKQ.out (by omega) HC.out.2 HId.out.size (by simp [Act.eval, Act.put]) (by simp [Act.eval, Act.put]) ?_; intro F2 d2 wb ho hr; (have HT1 := Lib.hid ho); (have HXS := Lib.hid (hr.own HOd.out (by decide))); (have HIb := Lib.hid (HId.out.trans (hr.below HId.out.size))); clear ho hr))
            all_goals
              simp only [Act.put, List.getElem_toArray, List.getElem_cons_succ, List.getElem_cons_zero, List.setIfInBounds_toArray, List.set_cons_succ, List.set_cons_zero]
              have HS2 : Hid (OwnS _ w.heap.size (.slice F1 (q - 1) d1) (es.take kn ++ es.drop (kn + 1))) := HS1
              have HT2 : Hid (OwnI _ w.heap.size (.slice F2 (q - 1) d2) (zs.take kn ++ zs.drop (kn + 1))) := HT1
              go_wp2_with fail
              refine (KR3.out _ _ _ _ _ HIc.out HS2.out.shps HT2.out.ints).mono ?_
              rintro e w20 ⟨rfl, b⟩
              have HI := Lib.hid (HIc.out.trans (b.mono HIc.out.size))
              clear b
              go_wp2
              go_ret
              exact ⟨rfl, HI.out⟩
      · clear hS hA hT hn hZ hq hPn
        have hm9 : 8 ≤ m := by omega
        go_enter Tryd.func8, Tryd.ntmps8
        go_wp2_with fail
        refine (AW.out _ HI.out).mono ?_
        rintro e w1 ⟨rfl, b⟩
        have HI := Lib.hid (HI.out.trans (b.mono HI.out.size))
        clear b
        go_wp2_with fail
        refine (AW.out _ HI.out).mono ?_
        rintro e w2 ⟨rfl, b⟩
        have HI := Lib.hid (HI.out.trans (b.mono HI.out.size))
        clear b
        go_wp2
        go_ret
        exact ⟨rfl, HI.out⟩
    · clear hS hA hT hn hZ hq hPn
      have hq21 : 20 < q := by omega
      go_enter Tryd.func8, Tryd.ntmps8
      go_wp2_with fail
      refine (AW.out _ HI.out).mono ?_
      rintro e w1 ⟨rfl, b⟩
      have HI := Lib.hid (HI.out.trans (b.mono HI.out.size))
      clear b
      go_wp2_with fail
      refine (AW.out _ HI.out).mono ?_
      rintro e w2 ⟨rfl, b⟩
      have HI := Lib.hid (HI.out.trans (b.mono HI.out.size))
      clear b
      go_wp2
      go_ret
      exact ⟨rfl, HI.out⟩
  · clear hS hA hT hn hZ hq hPn
    have hl21 : 20 < n := by omega
    go_enter Tryd.func8, Tryd.ntmps8
    go_wp2_with fail
    refine (AW.out _ HI.out).mono ?_
    rintro e w1 ⟨rfl, b⟩
    have HI := Lib.hid (HI.out.trans (b.mono HI.out.size))
    clear b
    go_wp2_with fail
    refine (AW.out _ HI.out).mono ?_
    rintro e w2 ⟨rfl, b⟩
    have HI := Lib.hid (HI.out.trans (b.mono HI.out.size))
    clear b
    go_wp2
    go_ret
    exact ⟨rfl, HI.out⟩
end Go.Proofs.YtngdbbligebcbaaDoor
