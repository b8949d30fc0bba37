/- The walk of the law EdfLess, in the seat YtohgdeddepfanaaDoor (printed by edf/mk_less.py). No statement is proved here. -/
import Derived.Test.YtohgdeddepfanaaDoorEdfCut
set_option linter.unusedVariables false
set_option linter.unusedSimpArgs false
namespace Go.Proofs.YtohgdeddepfanaaDoor
open Go Go.RowKit

def PhiLs (w0 : World) (b off n c k : Nat) (es : List Shp) : Nat → Value → World → Prop
  | 0, v, w => v = (.slice (some ⟨b, off, none⟩) n c)
  | 1, v, w => v = .int .i64 (k : Int)
  | 2, v, w => v = .slice (some ⟨b, off, none⟩) k c
  | 3, v, w => ∃ A1 c1, v = .slice A1 k c1 ∧ OwnS w w0.heap.size (.slice A1 k c1) (es.take k)
  | 4, v, w => v = (.slice (some ⟨b, off, none⟩) n c)
  | 5, v, w => v = .int .i64 (k : Int)
  | 6, v, w => v = .int .i64 ((k : Int) + 1)
  | 7, v, w => v = .slice (some (cutA b off c (k + 1))) (n - (k + 1)) (c - (k + 1))
  | _, _, _ => True
theorem phiLs_below (w0 : World) (b off n c k : Nat) (es : List Shp) : ∀ kq v w w', PhiLs w0 b off n c k es kq v w → Below w.heap.size w w' → PhiLs w0 b off n c k es kq v w' := by
  intro kq v w w' h hb
  match kq, h with
  | 0, h => exact h
  | 1, h => exact h
  | 2, h => exact h
  | 3, h => exact (by obtain ⟨A1, c1, e, ho⟩ := h; exact ⟨A1, c1, e, OwnS.below ho hb⟩)
  | 4, h => exact h
  | 5, h => exact h
  | 6, h => exact h
  | 7, h => exact h
  | kq + 8, h => exact trivial
set_option maxRecDepth 100000 in
set_option maxHeartbeats 32000000 in
theorem law_EdfLess {A : Option Addr} {n c : Nat} {es : List Shp} (at_ : Int) (w0 : World) (hT : DTab w0) (hn : es.length = n) (hS : Shps w0 w0.heap.size A es) (hA : A = none → n = 0 ∧ c = 0) (hc : n ≤ c) :
    Calls Tryd.prog 6 #[.slice A n c, .int .i64 at_] w0 fun e w' => e = .returned (.bool true) ∧ Below w0.heap.size w0 w' := by
  have TT := Lib.hid (fun W (b : Below w0.heap.size w0 W) => (hT.via b : DTab W))
  have AW := Lib.hid (fun W (b : Below w0.heap.size w0 W) => awake15_any W (TT.out W b))
  have HI := Lib.hid (Below.refl w0.heap.size w0)
  by_cases hl20 : n ≤ 20
  · have hl : n ≤ 1000 := by omega
    have OW := Lib.hid (fun W (b : Below w0.heap.size w0 W) => own15n (c := c) W hn hl (hS.via b) hA)
    by_cases hF : FitE es
    · have KF := Lib.hid (fun A1 c1 W (b : Below w0.heap.size w0 W) (h2 : Shps W W.heap.size A1 es) => efits_any (c := c1) true ⟨fun _ => hF, fun _ => rfl⟩ W (hT.via b) hn hl h2)
      by_cases h0 : at_ < 0
      · clear hF hS hA hT hn
        go_enter Tryd.func6, Tryd.ntmps6
        go_wp2_with fail
        refine (AW.out _ HI.out).mono ?_
        rintro e w1 ⟨rfl, b1⟩
        have HI := Lib.hid (HI.out.trans (b1.mono HI.out.size))
        clear b1
        go_wp2_with fail
        refine (OW.out _ HI.out).mono ?_
        rintro e w2 ⟨A1, c1, rfl, ho, b2⟩
        have HO := Lib.hid ho
        have HI := Lib.hid (HI.out.trans (b2.mono HI.out.size))
        clear b2 ho
        go_wp2_with fail
        refine (KF.out _ _ _ HI.out HO.out.shps).mono ?_
        rintro e w3 ⟨rfl, b3⟩
        have HI := Lib.hid (HI.out.trans (b3.mono HI.out.size))
        clear b3 HO KF OW
        go_wp2_with fail
        refine (AW.out _ HI.out).mono ?_
        rintro e w4 ⟨rfl, b4⟩
        have HI := Lib.hid (HI.out.trans (b4.mono HI.out.size))
        clear b4
        go_wp2
        go_ret
        exact ⟨rfl, HI.out⟩
      · by_cases h1 : (n : Int) ≤ at_
        · clear hF hS hA hT hn
          go_enter Tryd.func6, Tryd.ntmps6
          go_wp2_with fail
          refine (AW.out _ HI.out).mono ?_
          rintro e w1 ⟨rfl, b1⟩
          have HI := Lib.hid (HI.out.trans (b1.mono HI.out.size))
          clear b1
          go_wp2_with fail
          refine (OW.out _ HI.out).mono ?_
          rintro e w2 ⟨A1, c1, rfl, ho, b2⟩
          have HO := Lib.hid ho
          have HI := Lib.hid (HI.out.trans (b2.mono HI.out.size))
          clear b2 ho
          go_wp2_with fail
          refine (KF.out _ _ _ HI.out HO.out.shps).mono ?_
          rintro e w3 ⟨rfl, b3⟩
          have HI := Lib.hid (HI.out.trans (b3.mono HI.out.size))
          clear b3 HO KF OW
          go_wp2_with fail
          refine (AW.out _ HI.out).mono ?_
          rintro e w4 ⟨rfl, b4⟩
          have HI := Lib.hid (HI.out.trans (b4.mono HI.out.size))
          clear b4
          go_wp2
          go_ret
          exact ⟨rfl, HI.out⟩
        · obtain ⟨k, rfl⟩ : ∃ k : Nat, at_ = (k : Int) := ⟨at_.toNat, by omega⟩
          have hk : k < n := by omega
          obtain ⟨b, off, t, l, m, d, p, rfl, hbg, hek, d1, d2, d3, d4, d5⟩ := hS.at_ (k := k) (by omega)
          have hsplit : es = es.take k ++ ⟨t, l, m, d, p⟩ :: es.drop (k + 1) := by
            have e1 : es[k]'(by omega) = ⟨t, l, m, d, p⟩ := by
              have := List.getElem?_eq_getElem (l := es) (i := k) (by omega)
              rw [hek] at this
              exact (Option.some.inj this).symm
            conv => lhs; rw [← List.take_append_drop k es]
            congr 1
            rw [List.drop_eq_getElem_cons (by omega), e1]
          have hF2 := hF
          rw [hsplit] at hF2
          have hlt : (es.take k).length = k := by rw [List.length_take]; omega
          have hld : (es.drop (k + 1)).length = n - (k + 1) := by rw [List.length_drop]; omega
          have hlc : (es.take k ++ es.drop (k + 1)).length = n - 1 := by rw [List.length_append, hlt, hld]; omega
          have OWK := Lib.hid (fun W (b : Below w0.heap.size w0 W) => own15n (c := c) W hlt (by omega) ((hS.cutH).via b) (fun e => by cases e))
          have CH := Lib.hid (fun W => cut_h b off n c k (by omega) hc W)
          have CL : Hid (∀ W, (Instr.sliceAt 22 (.slice (some ⟨b, off, none⟩) n c) (some (.int .i64 ((k : Int) + 1))) none none).run Tryd.prog W = .ok (.slice (some (cutA b off c (k + 1))) (n - (k + 1)) (c - (k + 1))) W) := Lib.hid (fun W => cut_l b off n c (k + 1) (by omega) hc W)
          have NB := Lib.hid (show IntKind.i64.wrap ((k : Int) + 1) = (k : Int) + 1 from IntWalk.i64_in _ (by omega))
          have AP := Lib.hid (fun W (b' : Below w0.heap.size w0 W) v (ho : OwnS W w0.heap.size v (es.take k)) => app_shps (m := n - (k + 1)) (c := c - (k + 1)) ho b'.size hld (by rw [hlt]; omega) ((hS.cutL hn hc).via b'))
          have KM := Lib.hid (fun A1 c1 W (b : Below w0.heap.size w0 W) (h2 : Shps W W.heap.size A1 (es.take k ++ es.drop (k + 1))) => efits_any (c := c1) (n := n - 1) true ⟨fun _ => fit_cut hF2, fun _ => rfl⟩ W (hT.via b) hlc (by omega) h2)
          have K1 := Lib.hid (fun A1 c1 W (b : Below w0.heap.size w0 W) (h2 : Shps W W.heap.size A1 [⟨t, l, m, d, p⟩]) => efits_any (c := c1) (n := 1) true ⟨fun _ => fit_one hF2, fun _ => rfl⟩ W (hT.via b) rfl (by decide) h2)
          have KX := Lib.hid (fun A1 c1 W (b : Below w0.heap.size w0 W) (h2 : Shps W W.heap.size A1 (⟨t, l, m, d, p⟩ :: (es.take k ++ es.drop (k + 1)))) => efits_any (c := c1) (n := n) true ⟨fun _ => fit_front hF2, fun _ => rfl⟩ W (hT.via b) (by rw [List.length_cons, hlc]; omega) hl h2)
          have CC := Lib.hid (fun W (b' : Below w0.heap.size w0 W) => (⟨⟨(b'.cell hbg).trans d1, (b'.cell hbg).trans d2⟩, (b'.cell hbg).trans d3, (b'.cell hbg).trans d4, (b'.cell hbg).trans d5⟩ : (W.cell? ⟨b, off + k * 5, none⟩ = some (.int .i64 t) ∧ W.cell? ⟨b, off + k * 5 + 1, none⟩ = some (.int .i64 l)) ∧ W.cell? ⟨b, off + k * 5 + 2, none⟩ = some (.int .i64 m) ∧ W.cell? ⟨b, off + k * 5 + 3, none⟩ = some (.int .i64 d) ∧ W.cell? ⟨b, off + k * 5 + 4, none⟩ = some (.int .i64 p)))
          have HLC := Lib.hid hlc
          have HBG := Lib.hid hbg
          clear hF hF2 hS hA hT hn hek d1 d2 d3 d4 d5 hsplit hlt hld hlc
          go_enter Tryd.func6, Tryd.ntmps6
          go_wp2_with fail
          refine (AW.out _ HI.out).mono ?_
          rintro e w1 ⟨rfl, b1⟩
          have HI := Lib.hid (HI.out.trans (b1.mono HI.out.size))
          clear b1
          go_wp2_with fail
          refine (OW.out _ HI.out).mono ?_
          rintro e w2 ⟨A1, c1, rfl, ho, b2⟩
          have HO := Lib.hid ho
          have HI := Lib.hid (HI.out.trans (b2.mono HI.out.size))
          clear b2 ho
          go_wp2_with fail
          refine (KF.out _ _ _ HI.out HO.out.shps).mono ?_
          rintro e w3 ⟨rfl, b3⟩
          have HI := Lib.hid (HI.out.trans (b3.mono HI.out.size))
          clear b3 HO KF OW
          go_wp2_with fail
          refine wp_region_pushed [30, 31, 32, 33, 34, 35, 36, 37] 38 5 (by kernel_rfl) (by kernel_rfl) (by intro d hd; simp at hd ⊢; omega) ⟨_, rfl, fun ρ w => by simp [execOp, go_sem]⟩ (fun z => Below w0.heap.size w0 z) (PhiLs w0 b off n c k es) (fun v z => OwnS z w0.heap.size v (es.take k ++ es.drop (k + 1)) ∧ Below w0.heap.size w0 z)
            (fun z z' h hb => h.trans (hb.mono h.size)) (phiLs_below w0 b off n c k es) (HI.out.drew) ?hstep ?hpush ?hend
          case hstep =>
            intro kq o hkl ho a w hI hA hd K hK
            obtain ⟨ρ, hρ⟩ : ∃ ρ, a.eval = ρ := ⟨_, rfl⟩
            rw [hρ] at hA hd
            match kq, hkl, ho with
            | 0, _, ho =>
              have hoo := Option.some.inj ho
              subst hoo
              exact fx_val hK hρ ((.slice (some ⟨b, off, none⟩) n c)) (by have h := hA.tmp 0 (by decide); simp [execOp, h, go_sem]) rfl
            | 1, _, ho =>
              have hoo := Option.some.inj ho
              subst hoo
              exact fx_val hK hρ (.int .i64 (k : Int)) (by have h := hA.tmp 1 (by decide); simp [execOp, h, go_sem]) rfl
            | 2, _, ho =>
              have hoo := Option.some.inj ho
              subst hoo
              have f0 : (ρ (.tmp 30)) = (.slice (some ⟨b, off, none⟩) n c) := hd ⟨0, .data⟩ (by simp) (by rfl)
              have f1 : (ρ (.tmp 31)) = .int .i64 (k : Int) := hd ⟨1, .data⟩ (by simp) (by rfl)
              have e := CH.out w
              exact fx_val hK hρ (.slice (some ⟨b, off, none⟩) k c) (by simp [execOp, f0, f1, e, go_sem]) rfl
            | 3, _, ho =>
              have hoo := Option.some.inj ho
              subst hoo
              have f2 : (ρ (.tmp 32)) = .slice (some ⟨b, off, none⟩) k c := hd ⟨2, .data⟩ (by simp) (by rfl)
              exact fx_call hK hρ 11 _ _ #[.slice (some ⟨b, off, none⟩) k c] rfl (by simp only [List.map_toArray, List.map_cons, List.map_nil, hA.const, f2]) (eg_of Tryd.func11 (by kernel_rfl) rfl) ((OWK.out w hI).mono fun e w' ⟨A1, c1, he, ho, hb⟩ => ⟨_, he, ⟨A1, c1, rfl, OwnS.down ho hI.size⟩, hb⟩)
            | 4, _, ho =>
              have hoo := Option.some.inj ho
              subst hoo
              exact fx_val hK hρ ((.slice (some ⟨b, off, none⟩) n c)) (by have h := hA.tmp 0 (by decide); simp [execOp, h, go_sem]) rfl
            | 5, _, ho =>
              have hoo := Option.some.inj ho
              subst hoo
              exact fx_val hK hρ (.int .i64 (k : Int)) (by have h := hA.tmp 1 (by decide); simp [execOp, h, go_sem]) rfl
            | 6, _, ho =>
              have hoo := Option.some.inj ho
              subst hoo
              have f5 : (ρ (.tmp 35)) = .int .i64 (k : Int) := hd ⟨5, .data⟩ (by simp) (by rfl)
              have e := NB.out
              exact fx_val hK hρ (.int .i64 ((k : Int) + 1)) (by simp [execOp, f5, e, hA.const, go_sem]) rfl
            | 7, _, ho =>
              have hoo := Option.some.inj ho
              subst hoo
              have f4 : (ρ (.tmp 34)) = (.slice (some ⟨b, off, none⟩) n c) := hd ⟨4, .data⟩ (by simp) (by rfl)
              have f6 : (ρ (.tmp 36)) = .int .i64 ((k : Int) + 1) := hd ⟨6, .data⟩ (by simp) (by rfl)
              have e := CL.out w
              exact fx_val hK hρ (.slice (some (cutA b off c (k + 1))) (n - (k + 1)) (c - (k + 1))) (by simp [execOp, f4, f6, e, go_sem]) rfl
            | kq + 8, hkl, _ => exact absurd hkl (by simp)
          case hpush =>
            intro o ho ρ w hI hA hF
            have hoo := Option.some.inj ho
            subst hoo
            have fo : ∃ A1 c1, ρ (.tmp 33) = .slice A1 k c1 ∧ OwnS w w0.heap.size (.slice A1 k c1) (es.take k) := hF 3 (by decide)
            have fx : ρ (.tmp 37) = .slice (some (cutA b off c (k + 1))) (n - (k + 1)) (c - (k + 1)) := hF 7 (by decide)
            obtain ⟨A1, c1, e1, ho⟩ := fo
            obtain ⟨v', w', hr, ho2, hb2⟩ := AP.out w hI _ ho
            exact ⟨v', w', by simp [execOp, resolve, invoke, builtin, e1, fx, hr, Result.andThen], ho2, hI.trans hb2⟩
          case hend =>
            intro vals xw hT2 e5
            obtain ⟨ho, hb⟩ := hT2
            obtain ⟨vm, hvm⟩ : ∃ vm, vm = vals 38 := ⟨_, rfl⟩
            rw [← hvm] at ho e5
            simp only [e5, List.cons_append, List.nil_append, fillA, fillL, List.contains_cons, List.contains_nil, Nat.reduceBEq, Bool.or_false, Bool.false_or, Bool.or_true, Bool.true_or, cond_true, cond_false, Nat.zero_add, Nat.reduceAdd]
            try rw [← hvm]
            obtain ⟨Am, cm, rfl, hsm, hnm⟩ := ho.slice
            rw [HLC.out] at hnm ho ⊢
            have HO := Lib.hid ho
            have HI := Lib.hid hb
            have HSM := Lib.hid hsm
            have HNM := Lib.hid hnm
            clear ho hb hsm hnm hvm e5
            go_wp2_with fail
            refine (KM.out _ _ _ HI.out HSM.out).mono ?_
            rintro e w4 ⟨rfl, b4⟩
            have HSM := Lib.hid (HSM.out.via b4)
            have HI := Lib.hid (HI.out.trans (b4.mono HI.out.size))
            clear b4
            obtain ⟨⟨c0, c1⟩, c2, c3, c4⟩ := CC.out _ HI.out
            have hbg : b < w4.heap.size := Nat.lt_of_lt_of_le HBG.out HI.out.size
            obtain ⟨w5, hw5⟩ : ∃ w5, w5 = w4.alloc (.cells #[.int .i64 t, .int .i64 l, .int .i64 m, .int .i64 d, .int .i64 p] 34) := ⟨_, rfl⟩
            have b5 : Below w4.heap.size w4 w5 := by rw [hw5]; exact below_alloc _
            have S5 := Lib.hid (Shps.of_row (es := [⟨t, l, m, d, p⟩]) (show RowV w4.heap.size 34 (flatS [⟨t, l, m, d, p⟩]) w5 by rw [hw5]; exact RowV.new w4 _ _))
            have HI := Lib.hid (HI.out.trans (b5.mono HI.out.size))
            have HSM := Lib.hid (HSM.out.via b5)
            have HW5 := Lib.hid hw5
            clear b5 hw5
            go_wp2_with fail
            rw [← HW5.out]
            clear c0 c1 c2 c3 c4 hbg
            refine (K1.out _ _ _ HI.out S5.out).mono ?_
            rintro e w6 ⟨rfl, b6⟩
            have HSM := Lib.hid (HSM.out.via b6)
            have HI := Lib.hid (HI.out.trans (b6.mono HI.out.size))
            clear b6 S5 HW5
            obtain ⟨⟨c0, c1⟩, c2, c3, c4⟩ := CC.out _ HI.out
            have hbg : b < w6.heap.size := Nat.lt_of_lt_of_le HBG.out HI.out.size
            obtain ⟨w7, hw7⟩ : ∃ w7, w7 = w6.alloc (.cells #[] 34) := ⟨_, rfl⟩
            obtain ⟨w8, hw8⟩ : ∃ w8, w8 = w7.alloc (.cells #[.int .i64 t, .int .i64 l, .int .i64 m, .int .i64 d, .int .i64 p] 34) := ⟨_, rfl⟩
            have b7 : Below w6.heap.size w6 w7 := by rw [hw7]; exact below_alloc _
            have b8 : Below w7.heap.size w7 w8 := by rw [hw8]; exact below_alloc _
            have hs7 : w7.heap.size = w6.heap.size + 1 := by rw [hw7]; simp
            have N7 : NewS w8 w6.heap.size (.slice (some ⟨w6.heap.size, 0, none⟩) 0 0) := NewS.below (w := w7) ⟨w6.heap.size, rfl, by rw [hw7]; exact heap_alloc_new w6 _, Nat.le_refl _⟩ b8
            have b68 : Below w6.heap.size w6 w8 := b7.trans (b8.mono b7.size)
            have S8 : Shps w8 w8.heap.size (some ⟨w6.heap.size + 1, 0, none⟩) [⟨t, l, m, d, p⟩] := by rw [← hs7]; exact Shps.of_row (es := [⟨t, l, m, d, p⟩]) (show RowV w7.heap.size 34 (flatS [⟨t, l, m, d, p⟩]) w8 by rw [hw8]; exact RowV.new w7 _ _)
            obtain ⟨A9, c9, w9, hr9, ho9, hb9⟩ := fresh_shps (c := 1) (n := 1) N7 b68.size rfl (by decide) S8 (fun e => by cases e)
            have b69 : Below w6.heap.size w6 w9 := b68.trans (hb9.mono b68.size)
            have S9 := HSM.out.via b69
            have R10 : ∃ v10 w10, (Builtin.append_ #[22, 22] 22 #[.slice A9 1 c9, .slice Am (n - 1) cm]).run Tryd.prog w9 = .ok v10 w10 ∧ OwnS w10 w6.heap.size v10 (⟨t, l, m, d, p⟩ :: (es.take k ++ es.drop (k + 1))) ∧ Below w6.heap.size w6 w10 := by
              cases Am with
              | some am =>
                obtain ⟨v10, w10, hr, ho, hb⟩ := app_shps (c := cm) ho9 b69.size HLC.out (by show 1 + _ ≤ _; omega) S9
                exact ⟨v10, w10, hr, ho, b69.trans hb⟩
              | none =>
                obtain ⟨e1, e2⟩ := HNM.out rfl
                have he : es.take k ++ es.drop (k + 1) = [] := S9.none_nil
                obtain ⟨i0, hi, hz0, hz1, hz2⟩ := shape_info
                have hr := run_append_owned_none (P := Tryd.prog) w9 w6.heap.size 22 22 34 i0 5 Tryd.underlying22 hi (.slice A9 1 c9) 1 (flatS [⟨t, l, m, d, p⟩]) ho9
                refine ⟨.slice A9 1 c9, w9, ?_, ?_, b69⟩
                · rw [e1, e2]; exact hr
                · rw [he]; exact ho9
            obtain ⟨v10, w10, hr10, ho10, hb10⟩ := R10
            obtain ⟨A10, c10, rfl, hs10, _⟩ := ho10.slice
            have hl10 : (⟨t, l, m, d, p⟩ :: (es.take k ++ es.drop (k + 1)) : List Shp).length = n := by rw [List.length_cons, HLC.out]; omega
            rw [hl10] at hr10
            have HS10 := Lib.hid hs10
            have HI := Lib.hid (HI.out.trans (hb10.mono HI.out.size))
            rw [hw8, hw7] at hr9
            clear hw7 hw8 b7 b8 hs7 N7 b68 S8 ho9 hb9 b69 S9 ho10 hs10 hl10 hb10 HSM HNM HO
            go_wp2_with (first
              | (at_builtin; refine wpList_unguardS (by first | rfl | kernel_rfl) ?_; refine wpList_append_plainS rfl _ _ 22 _ _ rfl rfl rfl hr9 ?_)
              | (at_builtin; refine wpList_unguardS (by first | rfl | kernel_rfl) ?_; refine wpList_append_plainS rfl _ _ 22 _ _ rfl rfl rfl hr10 ?_)
              | (go_at_call 19; refine (KX.out _ _ _ HI.out HS10.out).mono ?_; rintro e w11 ⟨rfl, b11⟩; have HI := Lib.hid (HI.out.trans (b11.mono HI.out.size)); clear b11))
            go_ret
            exact ⟨rfl, HI.out⟩
    · have KF := Lib.hid (fun A1 c1 W (b : Below w0.heap.size w0 W) (h2 : Shps W W.heap.size A1 es) => efits_any (c := c1) false ⟨fun q => Bool.noConfusion q, fun q => absurd q hF⟩ W (hT.via b) hn hl h2)
      clear hF hS hA hT hn
      go_enter Tryd.func6, Tryd.ntmps6
      go_wp2_with fail
      refine (AW.out _ HI.out).mono ?_
      rintro e w1 ⟨rfl, b1⟩
      have HI := Lib.hid (HI.out.trans (b1.mono HI.out.size))
      clear b1
      go_wp2_with fail
      refine (OW.out _ HI.out).mono ?_
      rintro e w2 ⟨A1, c1, rfl, ho, b2⟩
      have HO := Lib.hid ho
      have HI := Lib.hid (HI.out.trans (b2.mono HI.out.size))
      clear b2 ho
      go_wp2_with fail
      refine (KF.out _ _ _ HI.out HO.out.shps).mono ?_
      rintro e w3 ⟨rfl, b3⟩
      have HI := Lib.hid (HI.out.trans (b3.mono HI.out.size))
      clear b3 HO KF OW
      go_wp2_with fail
      refine (AW.out _ HI.out).mono ?_
      rintro e w4 ⟨rfl, b4⟩
      have HI := Lib.hid (HI.out.trans (b4.mono HI.out.size))
      clear b4
      go_wp2
      go_ret
      exact ⟨rfl, HI.out⟩
  · clear hS hA hT hn
    have hl : 20 < n := by omega
    go_enter Tryd.func6, Tryd.ntmps6
    go_wp2_with fail
    refine (AW.out _ HI.out).mono ?_
    rintro e w1 ⟨rfl, b⟩
    have HI := Lib.hid (HI.out.trans (b.mono HI.out.size))
    clear b
    go_wp2_with fail
    refine (AW.out _ HI.out).mono ?_
    rintro e w4 ⟨rfl, b4⟩
    have HI := Lib.hid (HI.out.trans (b4.mono HI.out.size))
    clear b4
    go_wp2
    go_ret
    exact ⟨rfl, HI.out⟩
end Go.Proofs.YtohgdeddepfanaaDoor
