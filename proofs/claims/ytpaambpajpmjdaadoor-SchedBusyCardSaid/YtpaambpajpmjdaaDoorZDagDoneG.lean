/- dag.Long in the seat YtpaambpajpmjdaaDoor: its contract. No statement is proved here. -/
import Derived.Test.YtpaambpajpmjdaaDoorZM9
import Derived.Deep.RegionWith
set_option linter.unusedSimpArgs false
set_option linter.unusedVariables false
namespace Go.Proofs.YtpaambpajpmjdaaDoor
open Go.RowKit

section
variable {A : Option Addr} {n c : Nat} {F : Option Addr} {m d : Nat} {W : List Int} {E : List (Int × Int)}
theorem preds_far {ps : List Nat} {us : List Int} {out : List Nat} (hO : Ordered n E out) (hP : PredsOf n E ps) (hn : n ≤ 64) (hF : Fits n E) {j x : Nat} (hx : out[j]? = some x) (hu : ∀ y ∈ out.take j, us.getD y 0 = farAt W E y) :
    ((bitsL (ps.getD x 0)).map fun p => us.getD p 0) = (bitsL (ps.getD x 0)).map (farAt W E) := by
  apply List.map_congr_left
  intro p hp
  have hxn : x < n := hO.lt x (List.mem_of_getElem? hx)
  have he : ed E p x := of_decide_eq_true ((hP.bit x hxn p).symm.trans (mem_bitsL.mp hp).2)
  obtain ⟨hj, e⟩ := List.getElem?_eq_some_iff.mp hx
  exact hu p (hO.behind j hj p (by rw [e]; exact he))
theorem mem_preds {ps : List Nat} (hP : PredsOf n E ps) (hn : n ≤ 64) (hF : Fits n E) {x : Nat} (hx : x < n) (a : Nat) : a ∈ bitsL (ps.getD x 0) ↔ ed E a x := by
  rw [mem_bitsL, hP.bit x hx a, decide_eq_true_iff]
  constructor
  · exact And.right
  · intro h
    have := ed_lt hF h
    exact ⟨by omega, h⟩
theorem StL.start {b0 g n c : Nat} {A A' : Option Addr} {c' : Nat} {W ol : List Int} {ps : List Nat} {w1 : World} (hb : b0 < w1.heap.size) (h0 : w1.cell? ⟨b0, 0, none⟩ = some (.slice A n c)) (hr : RowN g ps w1) (hi : Ints w1 w1.heap.size A W) (ho : Ints w1 w1.heap.size A' ol) (hT : Tab64 w1) :
    StL b0 w1.heap.size (w1.heap.size + 1 + 1) (w1.heap.size + 1) g n c A A' W ol ps (List.replicate n 0) (((w1.alloc (.cells #[.slice (some ⟨g, 0, none⟩) n n, .slice A' n c'] 72)).alloc (.cells (Array.replicate n (Value.int .i64 0)) 3)).alloc (.cells #[.slice (some ⟨w1.heap.size + 1, 0, none⟩) n n] 22)) := by
  obtain ⟨w2, h2⟩ : ∃ w2, w2 = w1.alloc (.cells #[.slice (some ⟨g, 0, none⟩) n n, .slice A' n c'] 72) := ⟨_, rfl⟩
  obtain ⟨w3, h3⟩ : ∃ w3, w3 = w2.alloc (.cells (Array.replicate n (Value.int .i64 0)) 3) := ⟨_, rfl⟩
  obtain ⟨w4, h4⟩ : ∃ w4, w4 = w3.alloc (.cells #[.slice (some ⟨w1.heap.size + 1, 0, none⟩) n n] 22) := ⟨_, rfl⟩
  rw [← h2, ← h3, ← h4]
  have s2 : w2.heap.size = w1.heap.size + 1 := by rw [h2]; simp
  have s3 : w3.heap.size = w1.heap.size + 1 + 1 := by rw [h3]; simp [s2]
  have s4 : w4.heap.size = w1.heap.size + 1 + 1 + 1 := by rw [h4]; simp [s3]
  have b3 : Below w3.heap.size w3 w4 := by rw [h4]; exact below_alloc _
  have b2 : Below w2.heap.size w2 w4 := (by rw [h3]; exact below_alloc _ : Below w2.heap.size w2 w3).trans (b3.mono (by omega))
  have b1 : Below w1.heap.size w1 w4 := (by rw [h2]; exact below_alloc _ : Below w1.heap.size w1 w2).trans (b2.mono (by omega))
  have hu : RowV (w1.heap.size + 1) 3 (intsV (List.replicate n 0)) w3 := by
    have e : (intsV (List.replicate n 0)).toArray = Array.replicate n (Value.int .i64 0) := by simp [intsV]
    unfold RowV
    rw [e, h3, ← s2]
    exact heap_alloc_new w2 _
  have := hT.lt
  have := hr.lt
  refine ⟨(b1.cell hb).trans h0, ?_, ?_, hr.below b1 hr.lt, hu.below b3 (by omega), (hi.below b1).more (by omega), (ho.below b1).more (by omega), hT.via b1, by omega, by omega, by omega, by omega, by omega⟩
  · refine (b2.cell (by show w1.heap.size < _; omega)).trans ?_
    rw [h2, World.cell?_alloc_at _ _ _ _ rfl]; rfl
  · rw [h4, World.cell?_alloc_at _ _ _ _ s3.symm]; rfl
set_option maxRecDepth 100000 in
set_option maxHeartbeats 8000000 in
theorem long_done (w : World) (h : IsG w A n c F m d W E) :
    Calls Tryd.prog 27 #[.agg #[.slice A n c, .slice F m d]] w fun e w' => e = .returned (.int .i64 (longV W E)) ∧ Below w.heap.size w w' := by
  have H := Lib.hid h
  by_cases hM : May W E
  · have C := Lib.hid (fun w' (h : IsG w' A n c F m d W E) => read_ok w' h hM)
    have hF : Fits n E := by rw [← h.hn]; exact hM.fits
    have hn64 : n ≤ 64 := by rw [← h.hn]; exact hM.nodes
    have HF := Lib.hid hF
    have HN := Lib.hid h.hn
    have HM := Lib.hid hM
    have HORD := Lib.hid (ordK_ordered hF n)
    have HOL := Lib.hid (show (ord n E).length = n from ordK_length hF hM.acyc n (Nat.le_refl _))
    have hmk := fun W' => make_ints n (by omega) W'
    have HT := Lib.hid (show longV W E = most ((ord n E).map (farAt W E)) by
      unfold longV
      rw [if_pos hM, long_order]
      intro x
      rw [h.hn]
      exact ⟨(ordK_ordered hF n).lt x, fun hx => (ordK_ordered hF n).all (ordK_length hF hM.acyc n (Nat.le_refl _)) x hx⟩)
    obtain ⟨r, hr⟩ : ∃ r, r = longV W E := ⟨_, rfl⟩
    rw [← hr] at HT ⊢
    clear h hM hr hF
    go_enter Tryd.func27, Tryd.ntmps27
    go_wp2_with fail
    refine (C.out _ (H.out.below (below_alloc _))).mono ?_
    rintro e w1 ⟨g, A', c', rfl, hR⟩
    have HB := Lib.hid ((below_alloc (w := w) (.cells #[.slice A n c, .slice F m d] 25)).trans (hR.bel.mono (by simp)))
    have HR := Lib.hid hR
    have HG := Lib.hid ((H.out.below (below_alloc (.cells #[.slice A n c, .slice F m d] 25))).below hR.bel)
    have hs1 : w.heap.size < w1.heap.size := by have := hR.bel.size; simp at this; exact this
    have hbox0 : w1.cell? ⟨w.heap.size, 0, none⟩ = some (.slice A n c) := (hR.bel.cell (by simp)).trans (by rw [World.cell?_alloc_at _ _ _ _ rfl]; rfl)
    clear hR
    go_wp2
    obtain ⟨ps, hV, hPS⟩ := HR.out.row
    have HPS := Lib.hid hPS
    have H0 := Lib.hid (StL.start (c' := c') hs1 hbox0 hV HG.out.ints HR.out.ints HG.out.tab)
    have HB0 := Lib.hid (((below_alloc (w := w1) (.cells #[.slice (some ⟨g, 0, none⟩) n n, .slice A' n c'] 72)).alloc (by simp) (.cells (Array.replicate n (Value.int .i64 0)) 3)).alloc (by simp; omega) (.cells #[.slice (some ⟨w1.heap.size + 1, 0, none⟩) n n] 22))
    have HBND := Lib.hid (fun x (hx : x < n) => far_bound (by rw [HN.out]; exact HF.out) HM.out.acyc HM.out.work (x := x) (by rw [HN.out]; exact hx))
    obtain ⟨b0, hb0⟩ : ∃ b0, b0 = w.heap.size := ⟨_, rfl⟩
    obtain ⟨gb, hgb⟩ : ∃ gb, gb = w1.heap.size := ⟨_, rfl⟩
    clear hV hPS hbox0
    go_loopw [7, 25] (fun s i wr => ∃ (j : Nat) (v : Int) (us : List Int), j ≤ n ∧ i = .int .i64 j ∧ 0 ≤ v ∧ v ≤ 64000 ∧ s = .int .i64 v ∧ Hid (v = most (((ord n E).map (farAt W E)).take j)) ∧ Hid (us.length = n) ∧ Hid (∀ y, y < n → 0 ≤ us.getD y 0 ∧ us.getD y 0 ≤ 64000) ∧ Hid (∀ y ∈ (ord n E).take j, us.getD y 0 = farAt W E y) ∧ Hid (StL w.heap.size w1.heap.size (w1.heap.size + 1 + 1) (w1.heap.size + 1) g n c A A' W (nums (ord n E)) ps us wr) ∧ Hid (Below w1.heap.size w1 wr)) (fun _ i _ => n - (intOf i).toNat)
    case atStart => exact ⟨0, 0, _, Nat.zero_le _, rfl, by omega, by omega, rfl, Lib.hid rfl, Lib.hid (by simp), Lib.hid (fun y hy => by simp [List.getD_eq_getElem?_getD, hy]), Lib.hid (fun y hy => by simp at hy), H0, HB0⟩
    case round =>
      obtain ⟨j, v, us, hj, rfl, hv0, hv1, rfl, hve, HUL, HUB, HUF, HS, HB1⟩ := hrel
      clear H0 HB0
      by_cases hlt : j < n
      · obtain ⟨bk, o, z, rfl, hbg, hzj, hc1⟩ := HS.out.out.at_ (k := j) (by rw [nums_length, HOL.out]; exact hlt)
        obtain ⟨x, rfl, hx⟩ := nums_get hzj
        have hxn : x < n := HORD.out.lt x (List.mem_of_getElem? hx)
        have hv := preds_far HORD.out HPS.out hn64 HF.out hx HUF.out
        have hfs := far_step (by rw [HN.out]; exact HF.out) HM.out.acyc (x := x) (by rw [HN.out]; exact hxn) (l := bitsL (ps.getD x 0)) (mem_preds HPS.out hn64 HF.out hxn)
        have C2 := Lib.hid (fun W' (hs : StL w.heap.size w1.heap.size (w1.heap.size + 1 + 1) (w1.heap.size + 1) g n c A (some ⟨bk, o, none⟩) W (nums (ord n E)) ps us W') => sum_any x W' HN.out hn64 hxn HF.out HM.out.work HPS.out HUL.out HUB.out hs)
        simp only [hv, ← hfs] at C2
        have hfb := HBND.out x hxn
        have hfj : ((ord n E).map (farAt W E))[j]? = some (farAt W E x) := by rw [List.getElem?_map, hx]; rfl
        have HMS := Lib.hid (most_snoc hfj)
        have HTK := Lib.hid (take_snoc' hx)
        obtain ⟨fx, hfx⟩ : ∃ fx, fx = farAt W E x := ⟨_, rfl⟩
        have HFX := Lib.hid hfx
        rw [← hfx] at hfb HMS
        simp only [← hfx] at C2
        rw [HN.out] at hfb
        have hxu : x < us.length := by rw [HUL.out]; exact hxn
        have HU2 : Hid (∀ y, y < n → 0 ≤ (us.set x fx).getD y 0 ∧ (us.set x fx).getD y 0 ≤ 64000) := Lib.hid (fun y hy => by
          rw [getD_set]
          split
          · omega
          · exact HUB.out y hy)
        have HF2 : Hid (∀ y ∈ (ord n E).take (j + 1), (us.set x fx).getD y 0 = farAt W E y) := Lib.hid (fun y hy => by
          rw [getD_set]
          split
          · rename_i k
            rw [← k.1]
            exact HFX.out
          · rename_i k
            rw [HTK.out] at hy
            rcases List.mem_append.mp hy with hy | hy
            · exact HUF.out y hy
            · obtain rfl : y = x := by simpa using hy
              exact absurd ⟨rfl, hxu⟩ k)
        clear hzj hx hv hfs hfj hfx hxu
        obtain ⟨c1, c2, c3⟩ := HS.out.cells
        go_wp2_with fail
        go_region_with (go_at_call 47; refine (C2.out _ (HS.out.next ((Below.refl _ _).drew))).mono ?_; rintro e w5 ⟨rfl, b⟩; have HS5 := Lib.hid ((HS.out.next ((Below.refl _ _).drew)).next b); have HB5 := Lib.hid b; have d3 := HS5.out.v0; have hul5 := HS5.out.up.lt; have hfr5 := HS5.out.up.frozen x; have hcx5 := HS5.out.up.cell (intsV_at (l := us) (j := x) (by rw [HUL.out]; exact hxn)); clear b)
        all_goals
          have HS6 := Lib.hid (HS5.out.store x fx)
          have e3 := HS6.out.v0
          have hgx : (us.set x fx).getD x 0 = fx := by rw [getD_set, if_pos ⟨rfl, by rw [HUL.out]; exact hxn⟩]
          have e4 := HS6.out.up.cell (intsV_at (l := us.set x fx) (j := x) (by rw [List.length_set, HUL.out]; exact hxn))
          rw [hgx] at e4
          clear hgx d3 hcx5
          by_cases hvz : v < fx
          · have HMX := Lib.hid (show fx = most (((ord n E).map (farAt W E)).take (j + 1)) by rw [HMS.out, ← hve.out, Int.max_eq_right (by omega)])
            go_wp2
            go_roundw
            case rel => exact ⟨j + 1, fx, us.set x fx, by omega, by go_num, by omega, by omega, rfl, HMX, Lib.hid (by rw [List.length_set]; exact HUL.out), HU2, HF2, HS6, Lib.hid ((HB1.out.trans (((Below.refl _ _).drew.trans HB5.out).mono HB1.out.size)).setCell (by show w1.heap.size ≤ w1.heap.size + 1; omega) _)⟩
            case measure => simp [intOf]; omega
          · have HMX := Lib.hid (show v = most (((ord n E).map (farAt W E)).take (j + 1)) by rw [HMS.out, ← hve.out, Int.max_eq_left (by omega)])
            go_wp2
            go_roundw
            case rel => exact ⟨j + 1, v, us.set x fx, by omega, by go_num, by omega, by omega, rfl, HMX, Lib.hid (by rw [List.length_set]; exact HUL.out), HU2, HF2, HS6, Lib.hid ((HB1.out.trans (((Below.refl _ _).drew.trans HB5.out).mono HB1.out.size)).setCell (by show w1.heap.size ≤ w1.heap.size + 1; omega) _)⟩
            case measure => simp [intOf]; omega
      · obtain rfl : j = n := by omega
        have hl2 : ((ord j E).map (farAt W E)).take j = (ord j E).map (farAt W E) := List.take_of_length_le (by rw [List.length_map, HOL.out]; exact Nat.le_refl _)
        rw [hl2] at hve
        go_wp2
        go_ret
        exact ⟨by rw [HT.out, ← hve.out]; rfl, HB.out.trans (HB1.out.mono HB.out.size)⟩
  · have C := Lib.hid (fun w' (h : IsG w' A n c F m d W E) => read_not w' h hM)
    have HO : longV W E = 0 := by unfold longV; rw [if_neg hM]
    rw [HO]
    have hc : (chkE W E != 0) = true := by
      rw [bne_iff_ne]
      exact fun q => hM (chkE_zero.mp q)
    obtain ⟨r, hr⟩ : ∃ r, r = chkE W E := ⟨_, rfl⟩
    rw [← hr] at C hc
    clear h hM hr HO
    go_enter Tryd.func27, Tryd.ntmps27
    go_wp2_with fail
    refine (C.out _ (H.out.below (below_alloc _))).mono ?_
    rintro e w1 ⟨rfl, b⟩
    have HB := Lib.hid ((below_alloc _).trans (b.mono (by simp)))
    clear b
    go_wp2
    go_ret
    exact ⟨rfl, HB.out.alloc HB.out.size _⟩
end
end Go.Proofs.YtpaambpajpmjdaaDoor
