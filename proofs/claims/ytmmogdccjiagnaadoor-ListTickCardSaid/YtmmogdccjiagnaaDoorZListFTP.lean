/- list.Fill and list.Tick in the seat YtmmogdccjiagnaaDoor: their contracts. No statement is proved here. -/
import Derived.Test.YtmmogdccjiagnaaDoorZM26
set_option linter.unusedSimpArgs false
set_option linter.unusedVariables false
set_option linter.unusedSimpArgs false
namespace Go.Proofs.YtmmogdccjiagnaaDoor
open Go Go.RowKit

theorem results_cell_two {fn : Func} {p u t : Tmp} {ty : TypeId} (h : fn.results = #[.cell p ty, .tmp u, .tmp t]) (tmps : Array Value) (P : Program) (w : World) :
    (results fn tmps).run P w =
      ((asAddr (tmps.getD p undef)).run P w).andThen fun a w₁ => ((loadVar ty a).run P w₁).andThen fun v w₂ => .ok (.tuple #[v, tmps.getD u undef, tmps.getD t undef]) w₂ := by
  simp only [results, h]
  simp [Sem.run_bind, Result.andThen]
/-- The boxes of Fill and of Tick: the graph, the crew, the result. -/
structure BxF (wf : World) (A : Option Addr) (n c : Nat) (F : Option Addr) (m d : Nat) (W : List Int) (E : List (Int × Int)) (u1 v1 : Value) (w : World) : Prop where
  bel : Below wf.heap.size wf w
  d0 : w.cell? ⟨wf.heap.size, 0, none⟩ = some (.slice A n c)
  d1 : w.cell? ⟨wf.heap.size, 1, none⟩ = some (.slice F m d)
  r1 : w.heap[wf.heap.size + 1]? = some (.cells #[u1, v1] 27 (0, 0))
  r2 : w.heap[wf.heap.size + 1 + 1]? = some (.cells #[.slice none 0 0, .slice none 0 0] 27 (0, 0))
  g0 : IsG wf A n c F m d W E
section
variable {A : Option Addr} {n c : Nat} {F : Option Addr} {m d : Nat} {W : List Int} {E : List (Int × Int)} {A' : Option Addr} {n' c' : Nat} {F' : Option Addr} {m' d' : Nat} {O L : List Int} {wf w w' : World} {u1 v1 : Value}
theorem BxF.g (h : BxF wf A n c F m d W E u1 v1 w) : IsG w A n c F m d W E := h.g0.below h.bel
theorem BxF.lt (h : BxF wf A n c F m d W E u1 v1 w) : wf.heap.size + 1 + 1 < w.heap.size := (Array.getElem?_eq_some_iff.1 h.r2).1
theorem BxF.later (h : BxF wf A n c F m d W E u1 v1 w) (hb : Below (wf.heap.size + 1 + 1 + 1) w w') : BxF wf A n c F m d W E u1 v1 w' :=
  ⟨h.bel.trans (hb.mono (by omega)), (hb.cell (show wf.heap.size < wf.heap.size + 1 + 1 + 1 by omega)).trans h.d0, (hb.cell (show wf.heap.size < wf.heap.size + 1 + 1 + 1 by omega)).trans h.d1, (hb.block _ (by omega)).trans h.r1, (hb.block _ (by omega)).trans h.r2, h.g0⟩
theorem BxF.next (h : BxF wf A n c F m d W E u1 v1 w) (hb : Below w.heap.size w w') : BxF wf A n c F m d W E u1 v1 w' := h.later (hb.mono h.lt)
theorem BxF.set1 (h : BxF wf A n c F m d W E u1 v1 w) (a b : Value) : BxF wf A n c F m d W E a b ((w.setCell ⟨wf.heap.size + 1, 0, none⟩ a).setCell ⟨wf.heap.size + 1, 1, none⟩ b) := by
  have hoth := other_setC w (wf.heap.size + 1) a b
  have hb : Below (wf.heap.size + 1) w ((w.setCell ⟨wf.heap.size + 1, 0, none⟩ a).setCell ⟨wf.heap.size + 1, 1, none⟩ b) := below_setC (Nat.le_refl _) _ _
  exact ⟨h.bel.trans (hb.mono (by omega)), (hb.cell (show wf.heap.size < wf.heap.size + 1 by omega)).trans h.d0, (hb.cell (show wf.heap.size < wf.heap.size + 1 by omega)).trans h.d1, row_setC h.r1 _ _, by rw [hoth _ (by omega)]; exact h.r2, h.g0⟩
theorem BxF.start (hg : IsG w A n c F m d W E) (A' : Option Addr) (n' c' : Nat) (F' : Option Addr) (m' d' : Nat) : BxF w A n c F m d W E (.slice A' n' c') (.slice F' m' d') (((w.alloc (.cells #[.slice A n c, .slice F m d] 25)).alloc (.cells #[.slice A' n' c', .slice F' m' d'] 27)).alloc (.cells #[.slice none 0 0, .slice none 0 0] 27)) := by
  obtain ⟨w0, hw0⟩ : ∃ w0, w0 = w.alloc (.cells #[.slice A n c, .slice F m d] 25) := ⟨_, rfl⟩
  have s0 : w0.heap.size = w.heap.size + 1 := by rw [hw0]; simp
  have b0 : Below w.heap.size w w0 := by rw [hw0]; exact below_alloc _
  have d0 : ∀ j u, (#[.slice A n c, .slice F m d] : Array Value)[j]? = some u → w0.cell? ⟨w.heap.size, j, none⟩ = some u := fun j u hu => by rw [hw0, World.cell?_alloc_at _ _ _ _ rfl]; exact hu
  rw [← hw0]
  clear hw0
  obtain ⟨w1, hw1⟩ : ∃ w1, w1 = w0.alloc (.cells #[.slice A' n' c', .slice F' m' d'] 27) := ⟨_, rfl⟩
  have s1 : w1.heap.size = w.heap.size + 1 + 1 := by rw [hw1]; simp [s0]
  have b1 : Below w0.heap.size w0 w1 := by rw [hw1]; exact below_alloc _
  have r1 : w1.heap[w.heap.size + 1]? = some (.cells #[.slice A' n' c', .slice F' m' d'] 27 (0, 0)) := by rw [hw1, ← s0]; exact heap_alloc_new _ _
  rw [← hw1]
  clear hw1
  obtain ⟨w2, hw2⟩ : ∃ w2, w2 = w1.alloc (.cells #[.slice none 0 0, .slice none 0 0] 27) := ⟨_, rfl⟩
  have b2 : Below w1.heap.size w1 w2 := by rw [hw2]; exact below_alloc _
  have r2 : w2.heap[w.heap.size + 1 + 1]? = some (.cells #[.slice none 0 0, .slice none 0 0] 27 (0, 0)) := by rw [hw2, ← s1]; exact heap_alloc_new _ _
  rw [← hw2]
  refine ⟨b0.trans ((b1.mono (by omega)).trans (b2.mono (by omega))), ?_, ?_, ?_, r2, hg⟩
  · rw [b2.cell (show w.heap.size < w1.heap.size by omega), b1.cell (show w.heap.size < w0.heap.size by omega)]; exact d0 0 _ rfl
  · rw [b2.cell (show w.heap.size < w1.heap.size by omega), b1.cell (show w.heap.size < w0.heap.size by omega)]; exact d0 1 _ rfl
  · rw [b2.block _ (by omega)]; exact r1
theorem RowsC.other {B gO : Nat} {FL : Option Addr} {n m cO cL : Nat} {O L : List Int} {w w' : World} {g : Nat} {cs : Array Value} (h : RowsC B gO FL n m cO cL O L w) (hg : w.heap[g]? = some (.cells cs 27 (0, 0))) (hk : ∀ k, k ≠ g → w'.heap[k]? = w.heap[k]?) : RowsC B gO FL n m cO cL O L w' :=
  ⟨other_ownC h.rO hg (by decide) hk, other_ownC h.rL hg (by decide) hk, h.ne⟩
theorem RowsC.down {B B' gO : Nat} {FL : Option Addr} {n m cO cL : Nat} {O L : List Int} {w : World} (h : RowsC B gO FL n m cO cL O L w) (hB : B' ≤ B) : RowsC B' gO FL n m cO cL O L w := ⟨h.rO.down hB, h.rL.down hB, h.ne⟩
set_option maxRecDepth 100000 in
set_option maxHeartbeats 8000000 in
theorem cfill_any (w : World) (hg : IsG w A n c F m d W E) (hk : IsC w A' n' c' F' m' d' O L) :
    Calls Tryd.prog 11 #[.agg #[.slice A n c, .slice F m d], .agg #[.slice A' n' c', .slice F' m' d']] w fun e w' => ∃ v, e = .returned (.tuple #[v, .int .i64 (crewE W E O L)]) ∧ GotCrew (fillOc W E O L) (fillLc W E O L) v w' ∧ Below w.heap.size w w' := by
  obtain ⟨w0, hw0⟩ : ∃ w0, w0 = ((w.alloc (.cells #[.slice A n c, .slice F m d] 25)).alloc (.cells #[.slice A' n' c', .slice F' m' d'] 27)).alloc (.cells #[.slice none 0 0, .slice none 0 0] 27) := ⟨_, rfl⟩
  have B0 : Hid (BxF w A n c F m d W E (.slice A' n' c') (.slice F' m' d') w0) := Lib.hid (by rw [hw0]; exact BxF.start hg _ _ _ _ _ _)
  have HW := Lib.hid hw0
  have CK := Lib.hid (ccheck_any w0 B0.out.g (hk.below B0.out.bel))
  obtain ⟨z, hz⟩ : ∃ z, z = crewE W E O L := ⟨_, rfl⟩
  rw [← hz] at CK ⊢
  have HZ := Lib.hid hz
  have HK := Lib.hid hk
  have HG := Lib.hid hg
  have ln := hk.ln
  have lm := hk.lm
  clear hw0 hg hk hz
  have p0 := B0.out.d0
  have p1 := B0.out.d1
  have q0 := cell_of_row _ _ 0 _ _ _ B0.out.r1
  have q1 := cell_of_row _ _ 1 _ _ _ B0.out.r1
  simp at q0 q1
  by_cases he : z = 0
  · subst he
    obtain ⟨hM, hC⟩ := crewE_zero.mp HZ.out.symm
    have hn0 : 0 < n' := by have := hC.lo; have := HK.out.hn; omega
    have hm' := HK.out.hm
    have HV : Hid (fillOc W E O L = fillC m' E L O ∧ fillLc W E O L = L) := Lib.hid (by
      unfold fillOc fillLc
      rw [if_pos HZ.out.symm, if_pos HZ.out.symm, ← hC.ln, hm']
      exact ⟨rfl, rfl⟩)
    have CC := Lib.hid (fun W' (h : IsC W' A' n' c' F' m' d' O L) => copied_any W' h hn0)
    have CF := Lib.hid (fun W' gO cO FL cL (hb : Below w.heap.size w W') (hr : RowsC w.heap.size gO FL n' m' cO cL O L W') => pfill_any w W' HG.out hb hr hM.fits hM.nodes hC.ln ln)
    clear hM hC hm'
    go_enter Tryd.func11, Tryd.ntmps11
    go_wp2_with fail
    rw [← HW.out]
    refine CK.out.mono ?_
    rintro e w1 ⟨rfl, b1⟩
    have B1 := Lib.hid (B0.out.next b1)
    clear b1 B0 CK p0 p1 q0 q1 HW
    have q0 := cell_of_row _ _ 0 _ _ _ B1.out.r1
    have q1 := cell_of_row _ _ 1 _ _ _ B1.out.r1
    simp at q0 q1
    go_wp2_with fail
    refine (CC.out w1 (HK.out.below B1.out.bel)).mono ?_
    rintro e w2 ⟨gO, cO, FL, cL, rfl, hr2, b2⟩
    have B2 := Lib.hid (B1.out.next b2)
    have HR2 := Lib.hid hr2
    have HSZ : Hid (w.heap.size + 1 + 1 < w1.heap.size) := Lib.hid B1.out.lt
    clear hr2 b2 B1 CC q0 q1
    have q0 := cell_of_row _ _ 0 _ _ _ B2.out.r1
    have q1 := cell_of_row _ _ 1 _ _ _ B2.out.r1
    have z0 := frozen_of_row w2 (w.heap.size + 1) 0 _ _ B2.out.r1
    have z1 := frozen_of_row w2 (w.heap.size + 1) 1 _ _ B2.out.r1
    have B3 := Lib.hid (B2.out.set1 (.slice (some ⟨gO, 0, none⟩) n' cO) (.slice FL m' cL))
    have HR3 := Lib.hid (HR2.out.other B2.out.r1 (other_setC w2 (w.heap.size + 1) (.slice (some ⟨gO, 0, none⟩) n' cO) (.slice FL m' cL)))
    have p0 := B3.out.d0
    have p1 := B3.out.d1
    have u0 := cell_of_row _ _ 0 _ _ _ B3.out.r1
    have u1 := cell_of_row _ _ 1 _ _ _ B3.out.r1
    have l2 : w.heap.size + 1 < w2.heap.size := by have := B2.out.lt; omega
    simp at q0 q1 u0 u1
    go_wp2_with fail
    refine (CF.out _ gO cO FL cL B3.out.bel (HR3.out.down (by have := HSZ.out; omega))).mono ?_
    rintro e w4 ⟨rfl, hr4, ht4⟩
    have hgO : w1.heap.size ≤ gO := by obtain ⟨cur, _, h, _⟩ := HR2.out.rO.blockC; exact h
    have B4 := Lib.hid (B3.out.later (ht4.below (by have := B3.out.lt; omega) (by have := HSZ.out; omega) (by have := HSZ.out; omega)))
    have HR4 := Lib.hid hr4
    clear hr4 ht4 hgO B3 B2 HR2 HR3 p0 p1 q0 q1 z0 z1 u0 u1 l2 CF HSZ
    have q0 := cell_of_row _ _ 0 _ _ _ B4.out.r1
    have q1 := cell_of_row _ _ 1 _ _ _ B4.out.r1
    have r0 := cell_of_row _ _ 0 _ _ _ B4.out.r2
    have r1 := cell_of_row _ _ 1 _ _ _ B4.out.r2
    have z0 := frozen_of_row w4 (w.heap.size + 1 + 1) 0 _ _ B4.out.r2
    have z1 := frozen_of_row w4 (w.heap.size + 1 + 1) 1 _ _ B4.out.r2
    simp at q0 q1 r0 r1
    have HF2 := Lib.hid (row_setC B4.out.r2 (.slice (some ⟨gO, 0, none⟩) n' cO) (.slice FL m' cL))
    have HB5 : Hid (Below w.heap.size w ((w4.setCell ⟨w.heap.size + 1 + 1, 0, none⟩ (.slice (some ⟨gO, 0, none⟩) n' cO)).setCell ⟨w.heap.size + 1 + 1, 1, none⟩ (.slice FL m' cL))) := Lib.hid (B4.out.bel.trans (below_setC (by omega) _ _))
    have HI5 := Lib.hid ((HR4.out.other B4.out.r2 (other_setC w4 (w.heap.size + 1 + 1) (.slice (some ⟨gO, 0, none⟩) n' cO) (.slice FL m' cL))).isC ln lm)
    go_wp2
    refine bodyPost_ret (v := .tuple #[.agg #[.slice (some ⟨gO, 0, none⟩) n' cO, .slice FL m' cL], .int .i64 0]) ?_ rfl ⟨_, rfl, ⟨_, _, _, _, _, _, rfl, by rw [HV.out.1, HV.out.2]; exact HI5.out⟩, HB5.out⟩
    rw [results_cell_tmp rfl]
    simp [asAddr, run_loadVar_row _ (w.heap.size + 1 + 1) _ _ _ _ _ HF2.out Tryd.underlying27 rfl (by kernel_rfl), Result.andThen]
  · have heb : (z != 0) = true := bne_iff_ne.mpr he
    have HV : Hid (fillOc W E O L = [] ∧ fillLc W E O L = []) := Lib.hid (by
      unfold fillOc fillLc
      rw [if_neg (by rw [← HZ.out]; exact he), if_neg (by rw [← HZ.out]; exact he)]
      exact ⟨rfl, rfl⟩)
    clear he
    go_enter Tryd.func11, Tryd.ntmps11
    go_wp2_with fail
    rw [← HW.out]
    refine CK.out.mono ?_
    rintro e w1 ⟨rfl, b1⟩
    have B1 := Lib.hid (B0.out.next b1)
    clear b1 B0 CK p0 p1 q0 q1
    have r0 := cell_of_row _ _ 0 _ _ _ B1.out.r2
    have r1 := cell_of_row _ _ 1 _ _ _ B1.out.r2
    have z0 := frozen_of_row w1 (w.heap.size + 1 + 1) 0 _ _ B1.out.r2
    have z1 := frozen_of_row w1 (w.heap.size + 1 + 1) 1 _ _ B1.out.r2
    simp at r0 r1
    have HF2 := Lib.hid (row_setC B1.out.r2 (.slice none 0 0) (.slice none 0 0))
    have HB5 : Hid (Below w.heap.size w ((w1.setCell ⟨w.heap.size + 1 + 1, 0, none⟩ (.slice none 0 0)).setCell ⟨w.heap.size + 1 + 1, 1, none⟩ (.slice none 0 0))) := Lib.hid (B1.out.bel.trans (below_setC (by omega) _ _))
    go_wp2
    refine bodyPost_ret (v := .tuple #[.agg #[.slice none 0 0, .slice none 0 0], .int .i64 z]) ?_ rfl ⟨_, rfl, ⟨_, _, _, _, _, _, rfl, by rw [HV.out.1, HV.out.2]; exact noC _⟩, HB5.out⟩
    rw [results_cell_tmp rfl]
    simp [asAddr, run_loadVar_row _ (w.heap.size + 1 + 1) _ _ _ _ _ HF2.out Tryd.underlying27 rfl (by kernel_rfl), Result.andThen]
set_option maxRecDepth 100000 in
set_option maxHeartbeats 8000000 in
theorem ctick_any (w : World) (hg : IsG w A n c F m d W E) (hk : IsC w A' n' c' F' m' d' O L) :
    Calls Tryd.prog 14 #[.agg #[.slice A n c, .slice F m d], .agg #[.slice A' n' c', .slice F' m' d']] w fun e w' => ∃ v u, e = .returned (.tuple #[v, u, .int .i64 (crewE W E O L)]) ∧ GotCrew (tickO W E O L) (tickL W E O L) v w' ∧ GotL (tickD W E O L) u w' ∧ Below w.heap.size w w' := by
  obtain ⟨w0, hw0⟩ : ∃ w0, w0 = ((w.alloc (.cells #[.slice A n c, .slice F m d] 25)).alloc (.cells #[.slice A' n' c', .slice F' m' d'] 27)).alloc (.cells #[.slice none 0 0, .slice none 0 0] 27) := ⟨_, rfl⟩
  have B0 : Hid (BxF w A n c F m d W E (.slice A' n' c') (.slice F' m' d') w0) := Lib.hid (by rw [hw0]; exact BxF.start hg _ _ _ _ _ _)
  have HW := Lib.hid hw0
  have CK := Lib.hid (ccheck_any w0 B0.out.g (hk.below B0.out.bel))
  obtain ⟨z, hz⟩ : ∃ z, z = crewE W E O L := ⟨_, rfl⟩
  rw [← hz] at CK ⊢
  have HZ := Lib.hid hz
  have HK := Lib.hid hk
  have HG := Lib.hid hg
  have ln := hk.ln
  have lm := hk.lm
  clear hw0 hg hk hz
  have p0 := B0.out.d0
  have p1 := B0.out.d1
  have q0 := cell_of_row _ _ 0 _ _ _ B0.out.r1
  have q1 := cell_of_row _ _ 1 _ _ _ B0.out.r1
  simp at q0 q1
  by_cases he : z = 0
  · subst he
    obtain ⟨hM, hC⟩ := crewE_zero.mp HZ.out.symm
    have hn0 : 0 < n' := by have := hC.lo; have := HK.out.hn; omega
    have HV : Hid (tickO W E O L = onT O L ∧ tickL W E O L = leftT O L ∧ tickD W E O L = nums (doneT O L)) := Lib.hid (by
      unfold tickO tickL tickD
      rw [if_pos HZ.out.symm, if_pos HZ.out.symm, if_pos HZ.out.symm]
      exact ⟨rfl, rfl, rfl⟩)
    have CC := Lib.hid (fun W' (h : IsC W' A' n' c' F' m' d' O L) => copied_any W' h hn0)
    have CF := Lib.hid (fun W' gO cO FL cL (hr : RowsC (w.heap.size + 1 + 1 + 1) gO FL n' m' cO cL O L W') => ptick_any (w.heap.size + 1 + 1 + 1) W' hr (fun x hx => (hC.on x hx).imp id fun q => ⟨q.1.1, by rw [hC.ln]; exact q.1.2⟩) hC.once hC.left ln lm)
    clear hM hC
    go_enter Tryd.func14, Tryd.ntmps14
    go_wp2_with fail
    rw [← HW.out]
    refine CK.out.mono ?_
    rintro e w1 ⟨rfl, b1⟩
    have B1 := Lib.hid (B0.out.next b1)
    clear b1 B0 CK p0 p1 q0 q1 HW
    have q0 := cell_of_row _ _ 0 _ _ _ B1.out.r1
    have q1 := cell_of_row _ _ 1 _ _ _ B1.out.r1
    simp at q0 q1
    go_wp2_with fail
    refine (CC.out w1 (HK.out.below B1.out.bel)).mono ?_
    rintro e w2 ⟨gO, cO, FL, cL, rfl, hr2, b2⟩
    have B2 := Lib.hid (B1.out.next b2)
    have HR2 := Lib.hid (hr2.down B1.out.lt)
    clear hr2 b2 B1 CC q0 q1
    have q0 := cell_of_row _ _ 0 _ _ _ B2.out.r1
    have q1 := cell_of_row _ _ 1 _ _ _ B2.out.r1
    have z0 := frozen_of_row w2 (w.heap.size + 1) 0 _ _ B2.out.r1
    have z1 := frozen_of_row w2 (w.heap.size + 1) 1 _ _ B2.out.r1
    have B3 := Lib.hid (B2.out.set1 (.slice (some ⟨gO, 0, none⟩) n' cO) (.slice FL m' cL))
    have HR3 := Lib.hid (HR2.out.other B2.out.r1 (other_setC w2 (w.heap.size + 1) (.slice (some ⟨gO, 0, none⟩) n' cO) (.slice FL m' cL)))
    have u0 := cell_of_row _ _ 0 _ _ _ B3.out.r1
    have u1 := cell_of_row _ _ 1 _ _ _ B3.out.r1
    have l2 : w.heap.size + 1 < w2.heap.size := by have := B2.out.lt; omega
    simp at q0 q1 u0 u1
    go_wp2_with fail
    refine (CF.out _ gO cO FL cL HR3.out).mono ?_
    rintro e w4 ⟨A5, k5, c5, gL, rfl, hd, hkd, hr4, _, hgL, ht4⟩
    have hgO : w.heap.size + 1 + 1 + 1 ≤ gO := by obtain ⟨cur, _, h, _⟩ := HR2.out.rO.blockC; exact h
    have B4 : Hid (BxF w A n c F m d W E (.slice (some ⟨gO, 0, none⟩) n' cO) (.slice FL m' cL) w4) := Lib.hid (B3.out.later (ht4.below (by have := B3.out.lt; omega) (by omega) (by omega)))
    have HR4 := Lib.hid hr4
    have HD4 := Lib.hid hd
    clear hr4 ht4 hgO B3 B2 HR2 HR3 q0 q1 z0 z1 u0 u1 l2 CF hd
    have q0 := cell_of_row _ _ 0 _ _ _ B4.out.r1
    have q1 := cell_of_row _ _ 1 _ _ _ B4.out.r1
    have r0 := cell_of_row _ _ 0 _ _ _ B4.out.r2
    have r1 := cell_of_row _ _ 1 _ _ _ B4.out.r2
    have z0 := frozen_of_row w4 (w.heap.size + 1 + 1) 0 _ _ B4.out.r2
    have z1 := frozen_of_row w4 (w.heap.size + 1 + 1) 1 _ _ B4.out.r2
    simp at q0 q1 r0 r1
    have HF2 := Lib.hid (row_setC B4.out.r2 (.slice (some ⟨gO, 0, none⟩) n' cO) (.slice FL m' cL))
    have hb5 : Below (w.heap.size + 1 + 1) w4 ((w4.setCell ⟨w.heap.size + 1 + 1, 0, none⟩ (.slice (some ⟨gO, 0, none⟩) n' cO)).setCell ⟨w.heap.size + 1 + 1, 1, none⟩ (.slice FL m' cL)) := below_setC (Nat.le_refl _) _ _
    have HB5 := Lib.hid (B4.out.bel.trans (hb5.mono (by omega)))
    have HI5 := Lib.hid ((HR4.out.other B4.out.r2 (other_setC w4 (w.heap.size + 1 + 1) (.slice (some ⟨gO, 0, none⟩) n' cO) (.slice FL m' cL))).isC ln lm)
    have HD5 := Lib.hid ((other_ownC HD4.out B4.out.r2 (by decide) (other_setC w4 (w.heap.size + 1 + 1) (.slice (some ⟨gO, 0, none⟩) n' cO) (.slice FL m' cL))))
    have HDI := Lib.hid (OwnI.ints (show OwnI _ _ (.slice A5 k5 c5) (nums (doneT O L)) from HD5.out))
    have HK5 := Lib.hid hkd
    clear hb5 hkd
    go_wp2
    refine bodyPost_ret (v := .tuple #[.agg #[.slice (some ⟨gO, 0, none⟩) n' cO, .slice FL m' cL], .slice A5 k5 c5, .int .i64 0]) ?_ rfl ⟨_, _, rfl, ⟨_, _, _, _, _, _, rfl, by rw [HV.out.1, HV.out.2.1]; exact HI5.out⟩, ⟨A5, c5, by rw [HV.out.2.2, HK5.out], by rw [HV.out.2.2]; exact HDI.out⟩, HB5.out⟩
    rw [results_cell_two rfl]
    simp [asAddr, run_loadVar_row _ (w.heap.size + 1 + 1) _ _ _ _ _ HF2.out Tryd.underlying27 rfl (by kernel_rfl), Result.andThen]
  · have heb : (z != 0) = true := bne_iff_ne.mpr he
    have HV : Hid (tickO W E O L = [] ∧ tickL W E O L = [] ∧ tickD W E O L = []) := Lib.hid (by
      unfold tickO tickL tickD
      rw [if_neg (by rw [← HZ.out]; exact he), if_neg (by rw [← HZ.out]; exact he), if_neg (by rw [← HZ.out]; exact he)]
      exact ⟨rfl, rfl, rfl⟩)
    clear he
    go_enter Tryd.func14, Tryd.ntmps14
    go_wp2_with fail
    rw [← HW.out]
    refine CK.out.mono ?_
    rintro e w1 ⟨rfl, b1⟩
    have B1 := Lib.hid (B0.out.next b1)
    clear b1 B0 CK p0 p1 q0 q1
    have r0 := cell_of_row _ _ 0 _ _ _ B1.out.r2
    have r1 := cell_of_row _ _ 1 _ _ _ B1.out.r2
    have z0 := frozen_of_row w1 (w.heap.size + 1 + 1) 0 _ _ B1.out.r2
    have z1 := frozen_of_row w1 (w.heap.size + 1 + 1) 1 _ _ B1.out.r2
    simp at r0 r1
    have HF2 := Lib.hid (row_setC B1.out.r2 (.slice none 0 0) (.slice none 0 0))
    have HB5 : Hid (Below w.heap.size w ((w1.setCell ⟨w.heap.size + 1 + 1, 0, none⟩ (.slice none 0 0)).setCell ⟨w.heap.size + 1 + 1, 1, none⟩ (.slice none 0 0))) := Lib.hid (B1.out.bel.trans (below_setC (by omega) _ _))
    go_wp2
    refine bodyPost_ret (v := .tuple #[.agg #[.slice none 0 0, .slice none 0 0], .slice none 0 0, .int .i64 z]) ?_ rfl ⟨_, _, rfl, ⟨_, _, _, _, _, _, rfl, by rw [HV.out.1, HV.out.2.1]; exact noC _⟩, ⟨none, 0, by rw [HV.out.2.2]; rfl, by rw [HV.out.2.2]; exact Ints.nil_ _ _ _⟩, HB5.out⟩
    rw [results_cell_two rfl]
    simp [asAddr, run_loadVar_row _ (w.heap.size + 1 + 1) _ _ _ _ _ HF2.out Tryd.underlying27 rfl (by kernel_rfl), Result.andThen]
end
end Go.Proofs.YtmmogdccjiagnaaDoor
