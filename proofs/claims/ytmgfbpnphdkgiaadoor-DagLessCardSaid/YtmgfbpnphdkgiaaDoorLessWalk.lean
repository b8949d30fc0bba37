/- The walk of DagLess in the seat YtmgfbpnphdkgiaaDoor, given what the program's functions answer. No statement is proved here. -/
import Derived.Test.YtmgfbpnphdkgiaaDoorPullBox
import Derived.Test.YtmgfbpnphdkgiaaDoorLongWalk
import Derived.Deep.RegionLaw
set_option linter.unusedVariables false
namespace Go.Proofs.YtmgfbpnphdkgiaaDoor
open Go.RowKit

section
variable {A : Option Addr} {n c : Nat} {F : Option Addr} {m d : Nat} {W : List Int} {E : List (Int × Int)}
/-- Two graphs with the same works: one as it came, one in a box of the call's own. -/
structure BxP (w : World) (A : Option Addr) (n c : Nat) (F : Option Addr) (m d : Nat) (W : List Int) (E : List (Int × Int)) (g : Nat) (A' : Option Addr) (c' : Nat) (F' : Option Addr) (m' d' : Nat) (E' : List (Int × Int)) (w' : World) : Prop where
  b : Bx1 w A n c F m d W E w'
  x : BxG g A' n c' F' m' d' W E' w'
variable {g : Nat} {A' : Option Addr} {c' : Nat} {F' : Option Addr} {m' d' : Nat} {E' : List (Int × Int)}
theorem BxP.next {w w1 w2 : World} (h : BxP w A n c F m d W E g A' c' F' m' d' E' w1) (hb : Below w1.heap.size w1 w2) : BxP w A n c F m d W E g A' c' F' m' d' E' w2 := ⟨h.b.next hb, h.x.next hb⟩
theorem BxP.cells {w w' : World} (h : BxP w A n c F m d W E g A' c' F' m' d' E' w') : w'.cell? ⟨w.heap.size, 0, none⟩ = some (.slice A n c) ∧ w'.cell? ⟨w.heap.size, 1, none⟩ = some (.slice F m d) ∧ w'.cell? ⟨g, 0, none⟩ = some (.slice A' n c') ∧ w'.cell? ⟨g, 1, none⟩ = some (.slice F' m' d') := ⟨h.b.p0, h.b.p1, h.x.p0, h.x.p1⟩
theorem bp_g {z : Prop} {w x : World} (h : z ∧ Hid (BxP w A n c F m d W E g A' c' F' m' d' E' x)) : IsG x A n c F m d W E := h.2.out.b.g
theorem bp_x {z : Prop} {w x : World} (h : z ∧ Hid (BxP w A n c F m d W E g A' c' F' m' d' E' x)) : IsG x A' n c' F' m' d' W E' := h.2.out.x.g
theorem bp_n {z : Prop} {w x y : World} (h : z ∧ Hid (BxP w A n c F m d W E g A' c' F' m' d' E' x)) (b : Below x.heap.size x y) : BxP w A n c F m d W E g A' c' F' m' d' E' y := h.2.out.next b
set_option maxHeartbeats 2000000 in
theorem less_many (K : DagOk) (w : World) (hT : Tab64 w) (a : Int) (k1 : n ≤ 9223372036854775807) (k2 : m ≤ 9223372036854775807) (h : ¬ (n ≤ 70 ∧ m ≤ 300)) :
    Calls Tryd.prog 9 #[.agg #[.slice A n c, .slice F m d], .int .i64 a] w fun e w' => e = .returned (.bool true) ∧ Below w.heap.size w w' := by
  have HK := Lib.hid K
  have HTB := Lib.hid hT
  clear hT
  have B0 := Lib.hid (Cx1.start w A n c F m d)
  have F1 := Lib.hid (fun W => few_no A F n c m d W k1 k2 h)
  clear K h k1 k2
  go_enter Tryd.func9, Tryd.ntmps9
  go_wp2_with fail
  refine (awake_any HK.out _ (HTB.out.via B0.out.bel)).mono ?_
  rintro e w1 ⟨rfl, b1⟩
  have B1 := Lib.hid (B0.out.next b1)
  clear b1
  obtain ⟨c1, c2⟩ := B1.out.cells
  go_wp2_with fail
  refine (F1.out _).mono ?_
  rintro e w2 ⟨rfl, b2⟩
  have B2 := Lib.hid (B1.out.next b2)
  clear b2 c1 c2
  go_wp2_with fail
  refine (awake_any HK.out _ (HTB.out.via B2.out.bel)).mono ?_
  rintro e w4 ⟨rfl, b4⟩
  have B4 := Lib.hid (B2.out.next b4)
  clear b4
  go_wp2_with fail
  go_ret
  exact ⟨rfl, B4.out.bel⟩
set_option maxHeartbeats 2000000 in
theorem less_not (K : DagOk) (w : World) (a : Int) (h : IsG w A n c F m d W E) (l1 : n ≤ 70) (l2 : m ≤ 300) (hM : ¬ May W E) :
    Calls Tryd.prog 9 #[.agg #[.slice A n c, .slice F m d], .int .i64 a] w fun e w' => e = .returned (.bool true) ∧ Below w.heap.size w w' := by
  have HK := Lib.hid K
  have HTB := Lib.hid h.tab
  have B0 := Lib.hid (Bx1.start h)
  have F1 := Lib.hid (fun W => few_yes A F n c m d W l1 l2)
  have hc : (chkE W E != 0) = true := by
    rw [bne_iff_ne]
    exact fun q => hM (chkE_zero.mp q)
  clear K h l1 l2 hM
  go_enter Tryd.func9, Tryd.ntmps9
  go_wp2_with fail
  refine (awake_any HK.out _ (HTB.out.via B0.out.bel)).mono ?_
  rintro e w1 ⟨rfl, b1⟩
  have B1 := Lib.hid (B0.out.next b1)
  clear b1
  obtain ⟨c1, c2⟩ := B1.out.cells
  go_wp2_with fail
  refine (F1.out _).mono ?_
  rintro e w2 ⟨rfl, b2⟩
  have B2 := Lib.hid (B1.out.next b2)
  clear b2 c1 c2
  obtain ⟨c1, c2⟩ := B2.out.cells
  go_wp2_with fail
  refine (own_g B2.out.g).mono ?_
  rintro e w4 ⟨Aa, ca, Fa, da, rfl, hg, b⟩
  have B4 := Lib.hid (B2.out.next b)
  have HG := Lib.hid hg
  clear b c1 c2 hg
  obtain ⟨c1, c2⟩ := B4.out.cells
  go_wp2_with fail
  refine (HK.out.check _ HG.out).mono ?_
  rintro e w5 ⟨rfl, b⟩
  have B5 := Lib.hid (B4.out.next b)
  clear b c1 c2 HG
  go_wp2_with fail
  refine (awake_any HK.out _ (HTB.out.via B5.out.bel)).mono ?_
  rintro e w6 ⟨rfl, b⟩
  have B6 := Lib.hid (B5.out.next b)
  clear b
  go_wp2_with fail
  go_ret
  exact ⟨rfl, B6.out.bel⟩
set_option maxRecDepth 100000 in
set_option maxHeartbeats 4000000 in
/-- The other guards. -/
theorem less_out (K : DagOk) (w : World) (a : Int) (h : IsG w A n c F m d W E) (l1 : n ≤ 70) (l2 : m ≤ 300) (hM : May W E) (hx : a < 0 ∨ (0 ≤ a ∧ m ≤ a)) :
    Calls Tryd.prog 9 #[.agg #[.slice A n c, .slice F m d], .int .i64 a] w fun e w' => e = .returned (.bool true) ∧ Below w.heap.size w w' := by
  have HK := Lib.hid K
  have HTB := Lib.hid h.tab
  have B0 := Lib.hid (Bx1.start h)
  have F1 := Lib.hid (fun W => few_yes A F n c m d W l1 l2)
  have hc : chkE W E = 0 := chkE_zero.mpr hM
  have K0 := Lib.hid (fun (A : Option Addr) (n c : Nat) (F : Option Addr) (m d : Nat) (w' : World) (h : IsG w' A n c F m d W E) => K.check w' h)
  simp only [hc] at K0
  clear K h hM hc
  rcases hx with h | ⟨h, h2⟩
  all_goals
    go_enter Tryd.func9, Tryd.ntmps9
    go_wp2_with fail
    refine (awake_any HK.out _ (HTB.out.via B0.out.bel)).mono ?_
    rintro e w1 ⟨rfl, b1⟩
    have B1 := Lib.hid (B0.out.next b1)
    clear b1
    obtain ⟨c1, c2⟩ := B1.out.cells
    go_wp2_with fail
    refine (F1.out _).mono ?_
    rintro e w2 ⟨rfl, b2⟩
    have B2 := Lib.hid (B1.out.next b2)
    clear b2 c1 c2
    obtain ⟨c1, c2⟩ := B2.out.cells
    go_wp2_with fail
    refine (own_g B2.out.g).mono ?_
    rintro e w4 ⟨Aa, ca, Fa, da, rfl, hg, b⟩
    have B4 := Lib.hid (B2.out.next b)
    have HG := Lib.hid hg
    clear b c1 c2 hg
    obtain ⟨c1, c2⟩ := B4.out.cells
    go_wp2_with fail
    refine (K0.out _ _ _ _ _ _ _ HG.out).mono ?_
    rintro e w5 ⟨rfl, b⟩
    have B5 := Lib.hid (B4.out.next b)
    clear b c1 c2 HG
    obtain ⟨c1, c2⟩ := B5.out.cells
    go_wp2_with fail
    refine (awake_any HK.out _ (HTB.out.via B5.out.bel)).mono ?_
    rintro e w6 ⟨rfl, b⟩
    have B6 := Lib.hid (B5.out.next b)
    clear b
    go_wp2_with fail
    go_ret
    exact ⟨rfl, B6.out.bel⟩
set_option maxRecDepth 1000000 in
set_option maxHeartbeats 8000000 in
theorem less_in (K : DagOk) (w : World) (k : Nat) (h : IsG w A n c F m d W E) (l1 : n ≤ 70) (l2 : m ≤ 300) (hM : May W E) (hk : k < m) :
    Calls Tryd.prog 9 #[.agg #[.slice A n c, .slice F m d], .int .i64 k] w fun e w' => e = .returned (.bool true) ∧ Below w.heap.size w w' := by
  obtain ⟨j0, hj0, hy0, hy1, hy2⟩ := info_parts edge_cell_info
  have HK := Lib.hid K
  have HTB := Lib.hid h.tab
  have HWN := Lib.hid h.hn
  have HEM := Lib.hid h.hm
  have B0 := Lib.hid (Bx1.start h)
  have F1 := Lib.hid (fun W => few_yes A F n c m d W l1 l2)
  have hc : chkE W E = 0 := chkE_zero.mpr hM
  have K0 := Lib.hid (fun (A : Option Addr) (n c : Nat) (F : Option Addr) (m d : Nat) (w' : World) (h : IsG w' A n c F m d W E) => K.check w' h)
  simp only [hc] at K0
  clear K h hc
  go_enter Tryd.func9, Tryd.ntmps9
  go_wp2_with fail
  refine (awake_any HK.out _ (HTB.out.via B0.out.bel)).mono ?_
  rintro e w1 ⟨rfl, b1⟩
  have B1 := Lib.hid (B0.out.next b1)
  clear b1
  obtain ⟨c1, c2⟩ := B1.out.cells
  go_wp2_with fail
  refine (F1.out _).mono ?_
  rintro e w2 ⟨rfl, b2⟩
  have B2 := Lib.hid (B1.out.next b2)
  clear b2 c1 c2
  obtain ⟨c1, c2⟩ := B2.out.cells
  go_wp2_with fail
  refine (own_g B2.out.g).mono ?_
  rintro e w4 ⟨Aa, ca, Fa, da, rfl, hg, b⟩
  have B4 := Lib.hid (B2.out.next b)
  have HG := Lib.hid hg
  clear b c1 c2 hg
  obtain ⟨c1, c2⟩ := B4.out.cells
  go_wp2_with fail
  refine (K0.out _ _ _ _ _ _ _ HG.out).mono ?_
  rintro e w5 ⟨rfl, b⟩
  have B5 := Lib.hid (B4.out.next b)
  clear b c1 c2 HG
  obtain ⟨c1, c2⟩ := B5.out.cells
  go_wp2_with fail
  refine (own_any A F n c m d W E w5 HWN.out (by omega) HEM.out (by omega) B5.out.g.ints B5.out.g.pairs B5.out.g.hA B5.out.g.hF).mono ?_
  rintro e w6 ⟨u, v, rfl, hu, hv, b⟩
  obtain ⟨Au, cu, rfl, _⟩ := hu.slice
  rcases hv.2 with ⟨_, h0⟩ | ⟨g, cap, cur, rfl, hge, hgg, hmc, hcm, hcs, htk⟩
  · exact absurd h0 (by rw [HEM.out]; omega)
  have HV := Lib.hid hv
  have HU := Lib.hid hu
  have HS := Lib.hid b
  have hs5 := b.size
  rw [HWN.out] at HU
  rw [HEM.out] at hmc htk HV
  rw [HWN.out, HEM.out]
  have hgl := (Array.getElem?_eq_some_iff.1 hgg).1
  obtain ⟨wb, hwb⟩ : ∃ wb, wb = w6.alloc (.cells #[.slice Au n cu, .slice (some ⟨g, 0, none⟩) m cap] 25) := ⟨_, rfl⟩
  have hbg : wb.heap[g]? = w6.heap[g]? := by rw [hwb]; exact (below_alloc _).block g hgl
  have hbr : wb.heap[w6.heap.size]? = some (.cells #[.slice Au n cu, .slice (some ⟨g, 0, none⟩) m cap] 25 (0, 0)) := by rw [hwb]; exact heap_alloc_new w6 _
  have hb0 := cell_of_row wb _ 0 _ _ _ hbr
  have hb1 := cell_of_row wb _ 1 _ _ _ hbr
  have hb2 := frozen_of_row wb _ 0 _ _ hbr
  have hb3 := frozen_of_row wb _ 1 _ _ hbr
  obtain ⟨AD, hAD, hnews⟩ := pull_news (k := k) hgg htk HEM.out hk hmc
  have s0 := Lib.hid (hnews wb.drew hbg)
  have s1 : Hid ((flatE (E.drop (k + 1))).length = (m - (k + 1)) * 2) := Lib.hid (by rw [flatE_length, List.length_drop, HEM.out])
  have s2 := Lib.hid (flatE_one (E.drop (k + 1)))
  have s3 := Lib.hid (pull_spare hgg HEM.out hk hmc hcs wb.drew hbg)
  obtain ⟨w7, hw7⟩ : ∃ w7, w7 = wb.drew.setCells g (0 + k * 2) (flatE (E.drop (k + 1))) := ⟨_, rfl⟩
  have HW7 := Lib.hid hw7
  obtain ⟨m', hm'⟩ : ∃ m', m' = m - 1 := ⟨_, rfl⟩
  have hmm : k + (m - (k + 1)) = m' := by omega
  have HP := Lib.hid (pull_after HS.out HU.out HV.out hge hgg htk HEM.out hk hmc hcm hcs w7 (w7.setCell ⟨w6.heap.size, 1, none⟩ (.slice (some ⟨g, 0, none⟩) (m - 1) cap)) (by rw [hw7, hwb, Nat.zero_add]) rfl)
  rw [← hm'] at HP
  have HMM := Lib.hid hmm
  have HM1 := Lib.hid hm'
  have h7r := HP.out.1
  have hq0 := cell_of_row w7 _ 0 _ _ _ h7r
  have hq1 := cell_of_row w7 _ 1 _ _ _ h7r
  have hq2 := frozen_of_row w7 _ 1 _ _ h7r
  simp only [List.getElem?_toArray, List.getElem?_cons_succ, List.getElem?_cons_zero] at hq0 hq1 hb0 hb1
  have hic : k ≤ cap := by omega
  have hwr : IntKind.i64.wrap ((k : Int) + 1) = (k : Int) + 1 := by rw [IntKind.wrap_i64]; omega
  have hp0 : (0 : Int) ≤ (k : Int) + 1 := by omega
  have hp1 : (k : Int) + 1 ≤ (m : Int) := by omega
  have hp2 : ((k : Int) + 1).toNat = k + 1 := by omega
  have HWB := Lib.hid hwb
  have hmx : cap ≤ 9223372036854775807 := by have := hcm; unfold maxLen at this; omega
  clear b hu hv hgg hcm hcs htk hbg hbr hnews h7r hw7 hwb c1 c2 B0 B1 B2 B4 hs5 hgl hmm hm'
  go_wp2_with fail
  rw [← HWB.out]
  go_region_law (refine step_append_room rfl (.tmp 36) (.tmp 41) 23 rfl 40 j0 2 Tryd.underlying23 hj0 hy1 g 0 k cap (by simp [Act.eval, Act.put]) AD (m - (k + 1)) (cap - (k + 1)) (flatE (E.drop (k + 1))) (by simp [Act.eval, Act.put]) s1.out s0.out s2.out (by omega) s3.out ?_; rw [← HW7.out, HMM.out])
  all_goals
    obtain ⟨bS, hu8, hv8, q0, q1⟩ := HP.out.2
    obtain ⟨E', hE'⟩ : ∃ z, z = E.eraseIdx k := ⟨_, rfl⟩
    rw [← hE'] at hv8
    have hlen : E'.length = m' := by rw [hE', List.length_eraseIdx, if_pos (by rw [HEM.out]; exact hk), HEM.out, HM1.out]
    have hm1 : m' ≤ 300 := by have := HM1.out; omega
    have hM' : May W E' := by rw [hE']; exact hM.erase k
    have K1 := Lib.hid (fun (A : Option Addr) (n c : Nat) (F : Option Addr) (m d : Nat) (w' : World) (h : IsG w' A n c F m d W E') => HK.out.check w' h)
    simp only [chkE_zero.mpr hM'] at K1
    have KLx := Lib.hid (fun (A : Option Addr) (n c : Nat) (F : Option Addr) (m d : Nat) (w' : World) (h : IsG w' A n c F m d W E') => HK.out.long w' h)
    have KLd := Lib.hid (fun (A : Option Addr) (n c : Nat) (F : Option Addr) (m d : Nat) (w' : World) (h : IsG w' A n c F m d W E) => HK.out.long w' h)
    have KTx := Lib.hid (fun (A : Option Addr) (n c : Nat) (F : Option Addr) (m d : Nat) (w' : World) (h : IsG w' A n c F m d W E') => HK.out.total w' h)
    have KTd := Lib.hid (fun (A : Option Addr) (n c : Nat) (F : Option Addr) (m d : Nat) (w' : World) (h : IsG w' A n c F m d W E) => HK.out.total w' h)
    have hne : decide (W = W ∧ E' = E) = false := by
      refine decide_eq_false fun q => ?_
      have := congrArg List.length q.2
      rw [hlen, HEM.out] at this
      have := HM1.out
      omega
    have KS := Lib.hid (fun (A : Option Addr) (n c : Nat) (F : Option Addr) (m d : Nat) (A' : Option Addr) (n' c' : Nat) (F' : Option Addr) (m' d' : Nat) (w' : World) (h : IsG w' A n c F m d W E') (h' : IsG w' A' n' c' F' m' d' W E) => by
      have q := HK.out.same w' h h'
      rwa [hne] at q)
    simp only [totalV_is hM'] at KTx
    simp only [totalV_is hM] at KTd
    have hLL : longV W E' ≤ longV W E := by rw [hE']; exact longV_erase hM k
    obtain ⟨T, hT⟩ : ∃ z, z = W.sum := ⟨_, rfl⟩
    obtain ⟨L', hL'⟩ : ∃ z, z = longV W E' := ⟨_, rfl⟩
    obtain ⟨L, hL⟩ : ∃ z, z = longV W E := ⟨_, rfl⟩
    simp only [← hT] at KTx KTd
    simp only [← hL'] at KLx hLL
    simp only [← hL] at KLd hLL
    have P8 := Lib.hid (BxP.mk (B5.out.next bS) (BxG.mk q0 q1 (own_isG2 (HTB.out.via (B5.out.next bS).bel) hu8 hv8 HWN.out hlen (by omega) (by omega))))
    have P8d := Lib.hid (P8.out.next (Below.refl _ _).drew)
    clear bS hu8 hv8 q0 q1 HP B5 hE' hlen hM' hne hT hL' hL HV HU HS hb0 hb1 hb2 hb3 hAD s0 s1 s2 s3 HW7 HWB HMM HM1 hq0 hq1 hq2 hic hwr hp0 hp1 hp2 hmx hge hmc
    go_wp2_with fail
    go_region_held3 (fun x => (x.cell? ⟨w.heap.size, 0, none⟩ = some (.slice A n c) ∧ x.cell? ⟨w.heap.size, 1, none⟩ = some (.slice F m d) ∧ x.cell? ⟨w6.heap.size, 0, none⟩ = some (.slice Au n cu) ∧ x.cell? ⟨w6.heap.size, 1, none⟩ = some (.slice (some ⟨g, 0, none⟩) m' cap)) ∧ Hid (BxP w A n c F m d W E w6.heap.size Au cu (some ⟨g, 0, none⟩) m' cap E' x))
      (first | exact ⟨P8d.out.cells, P8d⟩ | exact ⟨HB.out.cells, HB⟩)
      (first
        | (go_at_call 13; refine (own_g (bp_g (by assumption))).mono ?_; rintro e x1 ⟨Aa, ca, Fa, da, rfl, hga, b⟩; have HB := Lib.hid (bp_n (by assumption) b); have HGa := Lib.hid hga; clear b hga)
        | (go_at_call 13; refine (own_g (bp_x (by assumption))).mono ?_; rintro e x1 ⟨Aa, ca, Fa, da, rfl, hga, b⟩; have HB := Lib.hid (bp_n (by assumption) b); have HGa := Lib.hid hga; clear b hga)
        | (go_at_call 12; refine (K1.out _ _ _ _ _ _ _ HGa.out).mono ?_; rintro e x1 ⟨rfl, b⟩; have HB := Lib.hid (bp_n (by assumption) b); clear b)
        | (go_at_call 19; refine (KLx.out _ _ _ _ _ _ _ HGa.out).mono ?_; rintro e x1 ⟨rfl, b⟩; have HB := Lib.hid (bp_n (by assumption) b); clear b)
        | (go_at_call 19; refine (KLd.out _ _ _ _ _ _ _ HGa.out).mono ?_; rintro e x1 ⟨rfl, b⟩; have HB := Lib.hid (bp_n (by assumption) b); clear b)
        | (go_at_call 18; refine (KTx.out _ _ _ _ _ _ _ HGa.out).mono ?_; rintro e x1 ⟨rfl, b⟩; have HB := Lib.hid (bp_n (by assumption) b); clear b)
        | (go_at_call 18; refine (KTd.out _ _ _ _ _ _ _ HGa.out).mono ?_; rintro e x1 ⟨rfl, b⟩; have HB := Lib.hid (bp_n (by assumption) b); clear b)
        | (go_at_call 15; refine (KS.out _ _ _ _ _ _ _ _ _ _ _ _ _ (bp_x (by assumption)) (bp_g (by assumption))).mono ?_; rintro e x1 ⟨rfl, b⟩; have HB := Lib.hid (bp_n (by assumption) b); clear b))
    go_wp2
    go_ret
    exact ⟨rfl, HB.out.b.bel⟩
theorem walk_DagLess (K : DagOk) (w : World) (hT : Tab64 w) (h : InG w A n c F m d W E) (a : Int) (ha : (Lit.int .i64 a).wf = true) :
    Calls Tryd.prog 9 #[.agg #[.slice A n c, .slice F m d], .int .i64 a] w fun e w' => e = .returned (.bool true) ∧ Below w.heap.size w w' := by
  by_cases h1 : n ≤ 70 ∧ m ≤ 300
  · obtain ⟨l1, l2⟩ := h1
    have h := h.isG hT l1 l2
    by_cases hM : May W E
    · by_cases hx : a < 0 ∨ (0 ≤ a ∧ m ≤ a)
      · exact less_out K w a h l1 l2 hM hx
      · obtain ⟨k, rfl⟩ := Int.eq_ofNat_of_zero_le (a := a) (by omega)
        exact less_in K w k h l1 l2 hM (by omega)
    · exact less_not K w a h l1 l2 hM
  · exact less_many K w hT a h.ln h.lm h1
end
end Go.Proofs.YtmgfbpnphdkgiaaDoor
