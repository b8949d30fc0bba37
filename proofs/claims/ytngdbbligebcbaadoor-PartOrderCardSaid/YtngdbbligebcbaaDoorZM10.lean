/- What the laws of layer 16 want: the chapter's example, numbers of one's own memory, rows of integers, in the seat YtngdbbligebcbaaDoor.
   awake of trefoillaw16, in the seat YtngdbbligebcbaaDoor: its contract.
   No statement is proved here. -/
import Derived.Test.YtngdbbligebcbaaDoorZM9
set_option linter.unusedSimpArgs false
set_option linter.unusedVariables false
set_option linter.unusedSimpArgs false
namespace Go.Proofs.YtngdbbligebcbaaDoor
open Go Go.RowKit

/-- 'append([]int{}, l...)'. -/
theorem fresh16 (W : World) (A : Option Addr) (c n : Nat) (zs : List Int) (hn : zs.length = n) (hl : n ≤ 1000) (hI : Ints W W.heap.size A zs) (hA : A = none → n = 0 ∧ c = 0) :
    ∃ A' c' w', (Builtin.append_ #[24, 24] 24 #[.slice (some ⟨W.heap.size, 0, none⟩) 0 0, .slice A n c]).run Tryd.prog (W.alloc (.cells #[] 3)) = .ok (.slice A' n c') w' ∧ OwnI w' W.heap.size (.slice A' n c') zs ∧ Below W.heap.size W w' := by
  subst hn
  obtain ⟨v', w', hr, hO, hB⟩ := new_ints8 W 24 A c zs hl hI hA
  obtain ⟨A', c', rfl, _⟩ := hO.slice
  exact ⟨A', c', w', hr, hO, hB⟩
theorem OwnI.non16 {w : World} {base n c : Nat} {A : Option Addr} {zs : List Int} (h : OwnI w base (.slice A n c) zs) : A = none → n = 0 ∧ c = 0 := fun e => by
  subst e
  have hn := h.len_eq
  rcases h.2 with ⟨e, h0⟩ | ⟨g', cap, cur, e, _⟩
  · injection e with _ e2 e3
    exact ⟨by omega, e3⟩
  · injection e with e1 _ _; cases e1
theorem rints16 (A1 A2 : Option Addr) (n1 c1 n2 c2 : Nat) (xs ys : List Int) (w : World) (h1 : xs.length = n1) (h2 : ys.length = n2) (hx : n1 ≤ 1000) (hy : n2 ≤ 1000) (i1 : Ints w w.heap.size A1 xs) (i2 : Ints w w.heap.size A2 ys) :
    Calls Tryd.prog 16 #[.slice A1 n1 c1, .slice A2 n2 c2] w fun e w' => e = .returned (.bool (decide (xs = ys))) ∧ Below w.heap.size w w' := by
  subst h1 h2
  refine (ints_any w.heap.size A1 A2 c1 c2 xs ys w hx hy i1 i2).mono ?_
  rintro e w' ⟨rfl, N, rfl⟩
  exact ⟨rfl, below_drewN (Below.refl _ _) N⟩
theorem wpList_unguardP {P : Program} {ops : Array Oper} {rest : List Oper} {o : Oper} {a : Act} {w : World} {Q : Exit → Act → World → Prop} (hw : Region.wanted o (yielded ops a.tmps) = true) (h : wpList P ops Q ({ o with guard := none } :: rest) a w) : wpList P ops Q (o :: rest) a w := by
  unfold wpList at h ⊢
  rw [if_pos hw]
  rw [if_pos (by simp [Region.wanted])] at h
  exact h
theorem OwnI.inn {w : World} {base n c : Nat} {A : Option Addr} {zs : List Int} (h : OwnI w base (.slice A n c) zs) : Ints w w.heap.size A zs := h.ints
/-! The chapter's example -/
def exS (t : Int) : Shp := ⟨t, 1, 1, 4, 4⟩
def exP : List Shp := [exS 2, exS 3, exS 2]
theorem exP_may : MayE exP := by decide
theorem hor4 {L : List Shp} (h : horE L = 4) (hm : MayE L) (h4 : ∀ t : Fin 5, 1 ≤ t.val → demE L (t.val : Int) = 0 ∨ demE L (t.val : Int) + blkE L (t.val : Int) ≤ (t.val : Int)) : FitE L := ⟨hm, fun t h1 h2 => by
  rw [h] at h2
  have := h4 ⟨t.toNat, by omega⟩ (by show 1 ≤ t.toNat; omega)
  have e : ((t.toNat : Nat) : Int) = t := by omega
  simp only [e] at this
  exact this⟩
theorem fit_3 : FitE [exS 3] := hor4 (by decide) (by decide) (by decide)
theorem fit_2 : FitE [exS 2] := hor4 (by decide) (by decide) (by decide)
theorem fit_22 : FitE [exS 2, exS 2] := hor4 (by decide) (by decide) (by decide)
theorem fit_32 : ¬ FitE [exS 3, exS 2] := fun h => by
  have := h.2 4 (by decide) (by decide)
  unfold AtE at this
  revert this
  decide
theorem fit_23 : ¬ FitE [exS 2, exS 3] := fun h => by
  have := h.2 4 (by decide) (by decide)
  unfold AtE at this
  revert this
  decide
theorem exP_ord : ordP exP = [1, 0, 2] := by decide
theorem fitP_yes {es : List Shp} {P : List Int} {i c : Nat} {s : Shp} {L : List Shp} (h1 : es[i]? = some s) (h2 : onP es P (c : Int) ++ [s] = L) (h3 : FitE L) : FitP es P i c := ⟨s, h1, by rw [h2]; exact h3⟩
theorem fitP_no {es : List Shp} {P : List Int} {i c : Nat} {s : Shp} {L : List Shp} (h1 : es[i]? = some s) (h2 : onP es P (c : Int) ++ [s] = L) (h3 : ¬ FitE L) : ¬ FitP es P i c := fun ⟨s', h4, h5⟩ => by
  rw [h1] at h4
  rw [← Option.some.inj h4, h2] at h5
  exact h3 h5
theorem exP_two : PlcP exP 2 (some [1, 0, 1]) := by
  unfold PlcP
  rw [exP_ord]
  refine .next (c := 0) ⟨by decide, fitP_yes rfl rfl fit_3, fun k hk => by omega⟩ (.next (c := 1) ⟨by decide, fitP_yes rfl rfl fit_2, fun k hk => ?_⟩ (.next (c := 1) ⟨by decide, fitP_yes rfl rfl fit_22, fun k hk => ?_⟩ (.done _)))
  · obtain rfl : k = 0 := by omega
    exact fitP_no rfl rfl fit_32
  · obtain rfl : k = 0 := by omega
    exact fitP_no rfl rfl fit_32
theorem exP_one : PlcP exP 1 none := by
  unfold PlcP
  rw [exP_ord]
  refine .next (c := 0) ⟨by decide, fitP_yes rfl rfl fit_3, fun k hk => by omega⟩ (.full fun k hk => ?_)
  obtain rfl : k = 0 := by omega
  exact fitP_no rfl rfl fit_32
theorem exP_right : RightP exP [1, 0, 1] 2 := Plc.right exP_two (by decide) rfl (plcP_ok exP 2)
theorem exP_wrong : ¬ RightP exP [0, 0, 1] 2 := fun h => fit_23 (h.fit 0 (by decide) (by decide))
theorem exP_on : onP exP [1, 0, 1] 1 = [exS 2, exS 2] := rfl
end Go.Proofs.YtngdbbligebcbaaDoor
set_option linter.unusedVariables false
set_option linter.unusedSimpArgs false
namespace Go.Proofs.YtngdbbligebcbaaDoor
open Go Go.RowKit

theorem lit16 (w : World) (zs : List Int) (cs : Array Value) (h : cs = (zs.map (Value.int .i64)).toArray) (hl : zs.length ≤ 1000) : Ints (w.alloc (.cells cs 3)) (w.alloc (.cells cs 3)).heap.size (some ⟨w.heap.size, 0, none⟩) zs := by
  have h1 : OwnI (w.alloc (.cells cs 3)) w.heap.size (.slice (some ⟨w.heap.size, 0, none⟩) zs.length zs.length) zs :=
    ⟨by simp, .inr ⟨w.heap.size, zs.length, cs, rfl, Nat.le_refl _, heap_alloc_new w _, Nat.le_refl _, by unfold maxLen; omega, by rw [h]; simp, by rw [h, List.toList_toArray, Nat.mul_one, List.take_of_length_le (by simp)]⟩⟩
  exact h1.ints
set_option maxRecDepth 100000 in
set_option maxHeartbeats 16000000 in
theorem awake16_any (w : World) (hT : DTab w) : Calls Tryd.prog 9 #[] w fun e w' => e = .returned (.bool true) ∧ Below w.heap.size w w' := by
  have P2 : PlcA exP 2 [1, 0, 1] 0 := .inr ⟨exP_may, by decide, by decide, _, exP_two, rfl, rfl⟩
  have P1 : PlcA exP 1 [] 161 := .inr ⟨exP_may, by decide, by decide, _, exP_one, rfl, rfl⟩
  obtain ⟨w1, hw1⟩ : ∃ w1, w1 = w.alloc (.cells #[.int .i64 2, .int .i64 1, .int .i64 1, .int .i64 4, .int .i64 4, .int .i64 3, .int .i64 1, .int .i64 1, .int .i64 4, .int .i64 4, .int .i64 2, .int .i64 1, .int .i64 1, .int .i64 4, .int .i64 4] 38) := ⟨_, rfl⟩
  have r1 : RowV w.heap.size 38 (flatS exP) w1 := by rw [hw1]; exact RowV.new w 38 (flatS exP)
  have b1 : Below w.heap.size w w1 := by rw [hw1]; exact below_alloc _
  have TT := Lib.hid (fun W (b : Below w1.heap.size w1 W) => (hT.via (b1.trans (b.mono b1.size)) : DTab W))
  have L1 := Lib.hid (fun W (b : Below w1.heap.size w1 W) => r1.shps_via b)
  have B1 := Lib.hid b1
  have KP2 := Lib.hid (fun A c W h1 (h2 : Shps W W.heap.size A exP) => place_any (A := A) (n := 3) (c := c) 2 P2 W h1 rfl (by decide) h2)
  have KP1 := Lib.hid (fun A c W h1 (h2 : Shps W W.heap.size A exP) => place_any (A := A) (n := 3) (c := c) 1 P1 W h1 rfl (by decide) h2)
  have KO := Lib.hid (fun A c W (h2 : Shps W W.heap.size A exP) => order_any (A := A) (n := 3) (c := c) W rfl (by decide) h2)
  have KN := Lib.hid (fun A c A2 c2 W (h2 : Shps W W.heap.size A exP) (h3 : Ints W W.heap.size A2 [1, 0, 1]) => on_any (A := A) (P := A2) (n := 3) (c := c) (m := 3) (d := c2) (es := exP) (at_ := [1, 0, 1]) 1 W rfl (by decide) h2 rfl (by decide) h3)
  have KR1 := Lib.hid (fun A c A2 c2 W h1 (h2 : Shps W W.heap.size A exP) (h3 : Ints W W.heap.size A2 [1, 0, 1]) => right_any (A := A) (P := A2) (n := 3) (c := c) (m := 3) (d := c2) (es := exP) (at_ := [1, 0, 1]) true 2 ⟨fun _ => exP_right, fun _ => rfl⟩ W h1 rfl (by decide) h2 rfl (by decide) h3)
  have KR2 := Lib.hid (fun A c A2 c2 W h1 (h2 : Shps W W.heap.size A exP) (h3 : Ints W W.heap.size A2 [0, 0, 1]) => right_any (A := A) (P := A2) (n := 3) (c := c) (m := 3) (d := c2) (es := exP) (at_ := [0, 0, 1]) false 2 ⟨fun q => Bool.noConfusion q, fun q => absurd q exP_wrong⟩ W h1 rfl (by decide) h2 rfl (by decide) h3)
  rw [show ordO (totE exP) 3 = [1, 0, 2] from exP_ord] at KO
  rw [exP_on] at KN
  have HW : Hid (w1 = w.alloc (.cells #[.int .i64 2, .int .i64 1, .int .i64 1, .int .i64 4, .int .i64 4, .int .i64 3, .int .i64 1, .int .i64 1, .int .i64 4, .int .i64 4, .int .i64 2, .int .i64 1, .int .i64 1, .int .i64 4, .int .i64 4] 38)) := Lib.hid hw1
  clear hw1 r1 b1 hT P2 P1
  have BB := Lib.hid (Below.refl w1.heap.size w1)
  go_enter Tryd.func9, Tryd.ntmps9
  go_wp2_with fail
  rw [← HW.out]
  refine (KP2.out _ _ _ (TT.out _ BB.out) (L1.out _ BB.out)).mono ?_
  rintro e w2 ⟨A1, n1, c1, rfl, hn1, ho, b⟩
  obtain rfl : 3 = n1 := hn1
  have HO := Lib.hid ho
  have BB := Lib.hid (BB.out.trans (b.mono BB.out.size))
  clear ho b KP2
  go_wp2_with fail
  refine (KP1.out _ _ _ (TT.out _ BB.out) (L1.out _ BB.out)).mono ?_
  rintro e w3 ⟨A2, n2, c2, rfl, hn2, _, b⟩
  have HO := Lib.hid (HO.out.below b)
  have BB := Lib.hid (BB.out.trans (b.mono BB.out.size))
  clear b KP1 hn2
  go_wp2_with fail
  refine (rints16 _ _ 3 _ 3 _ [1, 0, 1] [1, 0, 1] _ rfl rfl (by decide) (by decide) (HO.out.alloc _).ints (lit16 w3 [1, 0, 1] _ rfl (by decide))).mono ?_
  rintro e w4 ⟨rfl, b⟩
  have HO := Lib.hid ((HO.out.alloc _).below b)
  have BB := Lib.hid (BB.out.trans (((below_alloc _).trans (b.mono (by simp))).mono BB.out.size))
  clear b
  go_wp2_with fail
  refine (KO.out _ _ _ (L1.out _ BB.out)).mono ?_
  rintro e w5 ⟨g5, rfl, ho5, b⟩
  have HO5 := Lib.hid ho5
  have HO := Lib.hid (HO.out.below b)
  have BB := Lib.hid (BB.out.trans (b.mono BB.out.size))
  clear ho5 b KO
  go_wp2_with fail
  refine (rints16 _ _ 3 _ 3 _ [1, 0, 2] [1, 0, 2] _ rfl rfl (by decide) (by decide) (HO5.out.alloc _).ints (lit16 w5 [1, 0, 2] _ rfl (by decide))).mono ?_
  rintro e w6 ⟨rfl, b⟩
  have HO := Lib.hid ((HO.out.alloc _).below b)
  have BB := Lib.hid (BB.out.trans (((below_alloc _).trans (b.mono (by simp))).mono BB.out.size))
  clear b HO5
  go_wp2_with fail
  refine (KN.out _ _ _ _ _ (L1.out _ BB.out) HO.out.ints).mono ?_
  rintro e w7 ⟨A7, c7, rfl, _, b⟩
  have HO := Lib.hid (HO.out.below b)
  have BB := Lib.hid (BB.out.trans (b.mono BB.out.size))
  clear b KN
  go_wp2_with fail
  refine (KR1.out _ _ _ _ _ (TT.out _ BB.out) (L1.out _ BB.out) HO.out.ints).mono ?_
  rintro e w8 ⟨rfl, b⟩
  have BB := Lib.hid (BB.out.trans (b.mono BB.out.size))
  clear b KR1 HO
  have ba := below_alloc (w := w8) (.cells #[.int .i64 0, .int .i64 0, .int .i64 1] 3)
  have BA := Lib.hid (BB.out.trans (ba.mono BB.out.size))
  clear ba
  go_wp2_with fail
  refine (KR2.out _ _ _ _ _ (TT.out _ BA.out) (L1.out _ BA.out) (lit16 w8 [0, 0, 1] _ rfl (by decide))).mono ?_
  rintro e w9 ⟨rfl, b⟩
  have BA := Lib.hid (BA.out.trans (b.mono BA.out.size))
  clear b KR2
  go_wp2
  go_ret
  exact ⟨rfl, B1.out.trans (BA.out.mono B1.out.size)⟩
end Go.Proofs.YtngdbbligebcbaaDoor
