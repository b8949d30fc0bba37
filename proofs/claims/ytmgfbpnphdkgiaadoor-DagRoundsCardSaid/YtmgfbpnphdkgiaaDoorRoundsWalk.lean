/- The walk of DagRounds in the seat YtmgfbpnphdkgiaaDoor, given what the program's functions answer. No statement is proved here. -/
import Derived.Test.YtmgfbpnphdkgiaaDoorPushBox
set_option linter.unusedVariables false
namespace Go.Proofs.YtmgfbpnphdkgiaaDoor
open Go.RowKit

section
variable {A : Option Addr} {n c : Nat} {F : Option Addr} {m d : Nat} {W : List Int} {E : List (Int × Int)}
set_option maxHeartbeats 2000000 in
theorem rounds_many (K : DagOk) (w : World) (hT : Tab64 w) (a b : Int) (k1 : n ≤ 9223372036854775807) (k2 : m ≤ 9223372036854775807) (h : ¬ (n ≤ 70 ∧ m ≤ 300)) :
    Calls Tryd.prog 8 #[.agg #[.slice A n c, .slice F m d], .int .i64 a, .int .i64 b] w fun e w' => e = .returned (.bool true) ∧ Below w.heap.size w w' := by
  have HK := Lib.hid K
  have HTB := Lib.hid hT
  clear hT
  have B0 := Lib.hid (Cx1.start w A n c F m d)
  have F1 := Lib.hid (fun W => few_no A F n c m d W k1 k2 h)
  clear K h k1 k2
  go_enter Tryd.func8, Tryd.ntmps8
  go_wp2_with fail
  refine (awake_any HK.out _ (HTB.out.via B0.out.bel)).mono ?_
  rintro e w1 ⟨rfl, b1⟩
  have B1 := Lib.hid (B0.out.next b1)
  clear b1
  obtain ⟨c1, c2⟩ := B1.out.cells
  go_wp2_with fail
  refine (F1.out _).mono ?_
  rintro e w2 ⟨rfl, b2⟩
  have B2 := Lib.hid (B1.out.next b2)
  clear b2 c1 c2
  go_wp2_with fail
  refine (awake_any HK.out _ (HTB.out.via B2.out.bel)).mono ?_
  rintro e w4 ⟨rfl, b4⟩
  have B4 := Lib.hid (B2.out.next b4)
  clear b4
  go_wp2_with fail
  go_ret
  exact ⟨rfl, B4.out.bel⟩
set_option maxHeartbeats 2000000 in
theorem rounds_not (K : DagOk) (w : World) (a b : Int) (h : IsG w A n c F m d W E) (l1 : n ≤ 70) (l2 : m ≤ 300) (hM : ¬ May W E) :
    Calls Tryd.prog 8 #[.agg #[.slice A n c, .slice F m d], .int .i64 a, .int .i64 b] w fun e w' => e = .returned (.bool true) ∧ Below w.heap.size w w' := by
  have HK := Lib.hid K
  have HTB := Lib.hid h.tab
  have B0 := Lib.hid (Bx1.start h)
  have F1 := Lib.hid (fun W => few_yes A F n c m d W l1 l2)
  have hc : (chkE W E != 0) = true := by
    rw [bne_iff_ne]
    exact fun q => hM (chkE_zero.mp q)
  clear K h l1 l2 hM
  go_enter Tryd.func8, Tryd.ntmps8
  go_wp2_with fail
  refine (awake_any HK.out _ (HTB.out.via B0.out.bel)).mono ?_
  rintro e w1 ⟨rfl, b1⟩
  have B1 := Lib.hid (B0.out.next b1)
  clear b1
  obtain ⟨c1, c2⟩ := B1.out.cells
  go_wp2_with fail
  refine (F1.out _).mono ?_
  rintro e w2 ⟨rfl, b2⟩
  have B2 := Lib.hid (B1.out.next b2)
  clear b2 c1 c2
  obtain ⟨c1, c2⟩ := B2.out.cells
  go_wp2_with fail
  refine (own_g B2.out.g).mono ?_
  rintro e w4 ⟨Aa, ca, Fa, da, rfl, hg, b⟩
  have B4 := Lib.hid (B2.out.next b)
  have HG := Lib.hid hg
  clear b c1 c2 hg
  obtain ⟨c1, c2⟩ := B4.out.cells
  go_wp2_with fail
  refine (HK.out.check _ HG.out).mono ?_
  rintro e w5 ⟨rfl, b⟩
  have B5 := Lib.hid (B4.out.next b)
  clear b c1 c2 HG
  go_wp2_with fail
  refine (awake_any HK.out _ (HTB.out.via B5.out.bel)).mono ?_
  rintro e w6 ⟨rfl, b⟩
  have B6 := Lib.hid (B5.out.next b)
  clear b
  go_wp2_with fail
  go_ret
  exact ⟨rfl, B6.out.bel⟩
set_option maxRecDepth 100000 in
set_option maxHeartbeats 4000000 in
/-- The other guards. -/
theorem rounds_out (K : DagOk) (w : World) (a b : Int) (h : IsG w A n c F m d W E) (l1 : n ≤ 70) (l2 : m ≤ 300) (hM : May W E) (hx : 256 ≤ m ∨ (m < 256 ∧ a < 0) ∨ (m < 256 ∧ 0 ≤ a ∧ b < 0) ∨ (m < 256 ∧ 0 ≤ a ∧ 0 ≤ b ∧ n ≤ a) ∨ (m < 256 ∧ 0 ≤ a ∧ 0 ≤ b ∧ a < n ∧ n ≤ b)) :
    Calls Tryd.prog 8 #[.agg #[.slice A n c, .slice F m d], .int .i64 a, .int .i64 b] w fun e w' => e = .returned (.bool true) ∧ Below w.heap.size w w' := by
  have HK := Lib.hid K
  have HTB := Lib.hid h.tab
  have B0 := Lib.hid (Bx1.start h)
  have F1 := Lib.hid (fun W => few_yes A F n c m d W l1 l2)
  have hc : chkE W E = 0 := chkE_zero.mpr hM
  have K0 := Lib.hid (fun (A : Option Addr) (n c : Nat) (F : Option Addr) (m d : Nat) (w' : World) (h : IsG w' A n c F m d W E) => K.check w' h)
  simp only [hc] at K0
  clear K h hM hc
  rcases hx with h | ⟨h, h2⟩ | ⟨h, h2, h3⟩ | ⟨h, h2, h3, h4⟩ | ⟨h, h2, h3, h4, h5⟩
  all_goals
    go_enter Tryd.func8, Tryd.ntmps8
    go_wp2_with fail
    refine (awake_any HK.out _ (HTB.out.via B0.out.bel)).mono ?_
    rintro e w1 ⟨rfl, b1⟩
    have B1 := Lib.hid (B0.out.next b1)
    clear b1
    obtain ⟨c1, c2⟩ := B1.out.cells
    go_wp2_with fail
    refine (F1.out _).mono ?_
    rintro e w2 ⟨rfl, b2⟩
    have B2 := Lib.hid (B1.out.next b2)
    clear b2 c1 c2
    obtain ⟨c1, c2⟩ := B2.out.cells
    go_wp2_with fail
    refine (own_g B2.out.g).mono ?_
    rintro e w4 ⟨Aa, ca, Fa, da, rfl, hg, b⟩
    have B4 := Lib.hid (B2.out.next b)
    have HG := Lib.hid hg
    clear b c1 c2 hg
    obtain ⟨c1, c2⟩ := B4.out.cells
    go_wp2_with fail
    refine (K0.out _ _ _ _ _ _ _ HG.out).mono ?_
    rintro e w5 ⟨rfl, b⟩
    have B5 := Lib.hid (B4.out.next b)
    clear b c1 c2 HG
    obtain ⟨c1, c2⟩ := B5.out.cells
    go_wp2_with fail
    refine (awake_any HK.out _ (HTB.out.via B5.out.bel)).mono ?_
    rintro e w6 ⟨rfl, b⟩
    have B6 := Lib.hid (B5.out.next b)
    clear b
    go_wp2_with fail
    go_ret
    exact ⟨rfl, B6.out.bel⟩
/-- What the law answers once the edge is there. -/
inductive RCase (x y : Nat) (ce : Int) (near back : Bool) : Prop
  | same : x = y → ce = 42 → RCase x y ce near back
  | near : x ≠ y → near = true → ce = 42 → RCase x y ce near back
  | round : x ≠ y → near = false → ce = 43 → back = true → RCase x y ce near back
  | fine : x ≠ y → near = false → ce = 0 → back = false → RCase x y ce near back
theorem rcase (hM : May W E) (hl : E.length < 256) (x y : Nat) (hx : x < W.length) (hy : y < W.length) : RCase x y (chkE W (E ++ [((x : Int), (y : Int))])) (decide (((x : Int), (y : Int)) ∈ E)) (beforeV W E y x) := by
  by_cases h1 : x = y
  · exact .same h1 (chk_more_bad hM hl x y hx hy (.inl h1))
  · by_cases h2 : ((x : Int), (y : Int)) ∈ E
    · exact .near h1 (decide_eq_true h2) (chk_more_bad hM hl x y hx hy (.inr h2))
    · by_cases hw : Way E y x
      · exact .round h1 (decide_eq_false h2) (chk_more_round hM hl x y hx hy h1 h2 hw) ((beforeV_iff hM y x).mpr ⟨by omega, by omega, by simpa using hw⟩)
      · refine .fine h1 (decide_eq_false h2) (chk_more_ok hM hl x y hx hy h1 h2 hw) ?_
        rw [← Bool.not_eq_true, beforeV_iff hM]
        rintro ⟨_, _, q⟩
        exact hw (by simpa using q)
theorem near_g {w : World} (h : IsG w A n c F m d W E) (a b : Int) :
    Calls Tryd.prog 30 #[.agg #[.slice A n c, .slice F m d], .int .i64 a, .int .i64 b] w fun e w' => e = .returned (.bool (decide ((a, b) ∈ E))) ∧ Below w.heap.size w w' :=
  near_any A F n c m d E a b w h.hm (by have := h.lm; omega) h.pairs
set_option maxRecDepth 100000 in
set_option maxHeartbeats 8000000 in
theorem rounds_in (K : DagOk) (w : World) (x y : Nat) (h : IsG w A n c F m d W E) (l1 : n ≤ 70) (hM : May W E) (l2 : m < 256) (hx : x < n) (hy : y < n) :
    Calls Tryd.prog 8 #[.agg #[.slice A n c, .slice F m d], .int .i64 x, .int .i64 y] w fun e w' => e = .returned (.bool true) ∧ Below w.heap.size w w' := by
  have HK := Lib.hid K
  have HTB := Lib.hid h.tab
  have HWN := Lib.hid h.hn
  have HEM := Lib.hid h.hm
  have B0 := Lib.hid (Bx1.start h)
  have F1 := Lib.hid (fun W => few_yes A F n c m d W l1 (by omega))
  have hc : chkE W E = 0 := chkE_zero.mpr hM
  have K0 := Lib.hid (fun (A : Option Addr) (n c : Nat) (F : Option Addr) (m d : Nat) (w' : World) (h : IsG w' A n c F m d W E) => K.check w' h)
  simp only [hc] at K0
  have KM := Lib.hid (fun (A : Option Addr) (n c : Nat) (F : Option Addr) (m d : Nat) (w' : World) (h : IsG w' A n c F m d W (E ++ [((x : Int), (y : Int))])) => K.check w' h)
  have KB := Lib.hid (fun (A : Option Addr) (n c : Nat) (F : Option Addr) (m d : Nat) (w' : World) (h : IsG w' A n c F m d W E) => K.before w' y x (by omega) (by omega) (by omega) (by omega) h)
  have KN := Lib.hid (fun (w' : World) (h : IsG w' A n c F m d W E) => near_g h x y)
  have hrc := rcase hM (by rw [h.hm]; exact l2) x y (by rw [h.hn]; exact hx) (by rw [h.hn]; exact hy)
  obtain ⟨ce, hce⟩ : ∃ z, z = chkE W (E ++ [((x : Int), (y : Int))]) := ⟨_, rfl⟩
  obtain ⟨near, hnear⟩ : ∃ z, z = decide (((x : Int), (y : Int)) ∈ E) := ⟨_, rfl⟩
  obtain ⟨back, hback⟩ : ∃ z, z = beforeV W E y x := ⟨_, rfl⟩
  rw [← hce] at KM hrc
  rw [← hnear] at KN hrc
  rw [← hback] at KB hrc
  have HRC := Lib.hid hrc
  clear K h hM hc hce hnear hback hrc
  go_enter Tryd.func8, Tryd.ntmps8
  go_wp2_with fail
  refine (awake_any HK.out _ (HTB.out.via B0.out.bel)).mono ?_
  rintro e w1 ⟨rfl, b1⟩
  have B1 := Lib.hid (B0.out.next b1)
  clear b1
  obtain ⟨c1, c2⟩ := B1.out.cells
  go_wp2_with fail
  refine (F1.out _).mono ?_
  rintro e w2 ⟨rfl, b2⟩
  have B2 := Lib.hid (B1.out.next b2)
  clear b2 c1 c2
  obtain ⟨c1, c2⟩ := B2.out.cells
  go_wp2_with fail
  refine (own_g B2.out.g).mono ?_
  rintro e w4 ⟨Aa, ca, Fa, da, rfl, hg, b⟩
  have B4 := Lib.hid (B2.out.next b)
  have HG := Lib.hid hg
  clear b c1 c2 hg
  obtain ⟨c1, c2⟩ := B4.out.cells
  go_wp2_with fail
  refine (K0.out _ _ _ _ _ _ _ HG.out).mono ?_
  rintro e w5 ⟨rfl, b⟩
  have B5 := Lib.hid (B4.out.next b)
  clear b c1 c2 HG
  obtain ⟨c1, c2⟩ := B5.out.cells
  go_wp2_with fail
  refine (own_any A F n c m d W E w5 HWN.out (by omega) HEM.out (by omega) B5.out.g.ints B5.out.g.pairs B5.out.g.hA B5.out.g.hF).mono ?_
  rintro e w6 ⟨u, v, rfl, hu, hv, b⟩
  have B6 := Lib.hid (B5.out.next b)
  obtain ⟨Au, cu, rfl, _⟩ := hu.slice
  obtain ⟨Fv, dv, rfl, _⟩ := hv.slice
  have HU := Lib.hid hu
  have HV := Lib.hid hv
  have hs5 := b.size
  rw [HWN.out] at HU
  rw [HEM.out] at HV
  rw [HWN.out, HEM.out]
  have HS := Lib.hid b
  have HO1 : Hid (OwnE (w6.alloc (.cells #[.slice Au n cu, .slice Fv m dv] 25)) w5.heap.size (.slice Fv m dv) E) := Lib.hid (HV.out.below (below_alloc _))
  have hsz1 : w5.heap.size ≤ (w6.alloc (.cells #[.slice Au n cu, .slice Fv m dv] 25)).heap.size := by simp; omega
  clear b c1 c2 hu hv B0 B1 B2 B4
  obtain ⟨c1, c2⟩ := B6.out.cells
  go_wp2_with (at_builtin; go_loud (refine wpList_pushE rfl _ _ rfl (w6.alloc (.cells #[.slice Au n cu, .slice Fv m dv] 25)) w5.heap.size _ E ((x : Int), (y : Int)) m HEM.out (by omega) HO1.out hsz1 (by simp [Act.eval]) (by simp [Act.eval]) ?_); intro F' d' w' HO' HG'; have hr := push_row HV.out HG'; have HP := Lib.hid (push_after HS.out HU.out HV.out HO' HG'); have hr0 := cell_of_row w' _ 0 _ _ _ hr; have hr1 := cell_of_row w' _ 1 _ _ _ hr; have hr2 := frozen_of_row w' _ 1 _ _ hr; simp only [List.getElem?_toArray, List.getElem?_cons_succ, List.getElem?_cons_zero] at hr0 hr1; clear HO' HG' hr)
  obtain ⟨bS, hu8, hv8, q0, q1⟩ := HP.out
  have B7 := Lib.hid (B5.out.next bS)
  refine (KM.out _ _ _ _ _ _ _ (own_isG2 (HTB.out.via B7.out.bel) hu8 hv8 HWN.out (by rw [List.length_append, List.length_singleton, HEM.out]) (by omega) (by omega))).mono ?_
  rintro e w8 ⟨rfl, b⟩
  have B8 := Lib.hid (B7.out.next b)
  clear b hr0 hr1 hr2 HP bS hu8 hv8 q0 q1 B6 B5 B7 HO1 hsz1 HU HV HS c1 c2
  obtain ⟨c1, c2⟩ := B8.out.cells
  rcases HRC.out with ⟨h1, h2⟩ | ⟨h1, h2, h3⟩ | ⟨h1, h2, h3, h4⟩ | ⟨h1, h2, h3, h4⟩
  · subst h1 h2
    go_wp2_with fail
    go_ret
    exact ⟨rfl, B8.out.bel⟩
  · subst h2 h3
    have h1' : ((x : Int) == (y : Int)) = false := by rw [beq_eq_false_iff_ne]; omega
    go_wp2_with fail
    refine (KN.out _ B8.out.g).mono ?_
    rintro e w9 ⟨rfl, b⟩
    have B9 := Lib.hid (B8.out.next b)
    clear b
    go_wp2_with fail
    go_ret
    exact ⟨rfl, B9.out.bel⟩
  all_goals
    subst h2 h3 h4
    have h1' : ((x : Int) == (y : Int)) = false := by rw [beq_eq_false_iff_ne]; omega
    go_wp2_with fail
    refine (KN.out _ B8.out.g).mono ?_
    rintro e w9 ⟨rfl, b⟩
    have B9 := Lib.hid (B8.out.next b)
    clear b c1 c2
    obtain ⟨c1, c2⟩ := B9.out.cells
    go_wp2_with fail
    refine (own_g B9.out.g).mono ?_
    rintro e w10 ⟨Ab, cb, Fb, db, rfl, hg, b⟩
    have B10 := Lib.hid (B9.out.next b)
    have HG := Lib.hid hg
    clear b hg
    go_wp2_with fail
    refine (KB.out _ _ _ _ _ _ _ HG.out).mono ?_
    rintro e w11 ⟨rfl, b⟩
    have B11 := Lib.hid (B10.out.next b)
    clear b
    go_wp2_with fail
    go_ret
    exact ⟨rfl, B11.out.bel⟩
theorem walk_DagRounds (K : DagOk) (w : World) (hT : Tab64 w) (h : InG w A n c F m d W E) (a : Int) (ha : (Lit.int .i64 a).wf = true) (b : Int) (hb : (Lit.int .i64 b).wf = true) :
    Calls Tryd.prog 8 #[.agg #[.slice A n c, .slice F m d], .int .i64 a, .int .i64 b] w fun e w' => e = .returned (.bool true) ∧ Below w.heap.size w w' := by
  by_cases h1 : n ≤ 70 ∧ m ≤ 300
  · obtain ⟨l1, l2⟩ := h1
    have h := h.isG hT l1 l2
    by_cases hM : May W E
    · by_cases hx : 256 ≤ m ∨ (m < 256 ∧ a < 0) ∨ (m < 256 ∧ 0 ≤ a ∧ b < 0) ∨ (m < 256 ∧ 0 ≤ a ∧ 0 ≤ b ∧ n ≤ a) ∨ (m < 256 ∧ 0 ≤ a ∧ 0 ≤ b ∧ a < n ∧ n ≤ b)
      · exact rounds_out K w a b h l1 l2 hM hx
      · obtain ⟨x, rfl⟩ := Int.eq_ofNat_of_zero_le (a := a) (by omega)
        obtain ⟨y, rfl⟩ := Int.eq_ofNat_of_zero_le (a := b) (by omega)
        exact rounds_in K w x y h l1 hM (by omega) (by omega) (by omega)
    · exact rounds_not K w a b h l1 l2 hM
  · exact rounds_many K w hT a b h.ln h.lm h1
end
end Go.Proofs.YtmgfbpnphdkgiaaDoor
