/- The walk of DagLong in the seat YtmgfbpnphdkgiaaDoor, given what the program's functions answer. No statement is proved here. -/
import Derived.Test.YtmgfbpnphdkgiaaDoorLongMath
set_option linter.unusedVariables false
namespace Go.Proofs.YtmgfbpnphdkgiaaDoor
open Go.RowKit

section
variable {A : Option Addr} {n c : Nat} {F : Option Addr} {m d : Nat} {W : List Int} {E : List (Int × Int)}
/-- A graph and an edge lie in boxes of the call's own (it began in w). -/
structure Cx1e (w : World) (A : Option Addr) (n c : Nat) (F : Option Addr) (m d : Nat) (p q : Int) (w' : World) : Prop where
  bel : Below w.heap.size w w'
  p0 : w'.cell? ⟨w.heap.size, 0, none⟩ = some (.slice A n c)
  p1 : w'.cell? ⟨w.heap.size, 1, none⟩ = some (.slice F m d)
  q0 : w'.cell? ⟨w.heap.size + 1, 0, none⟩ = some (.int .i64 p)
  q1 : w'.cell? ⟨w.heap.size + 1, 1, none⟩ = some (.int .i64 q)
structure Bx1e (w : World) (A : Option Addr) (n c : Nat) (F : Option Addr) (m d : Nat) (p q : Int) (W : List Int) (E : List (Int × Int)) (w' : World) : Prop where
  bx : Cx1e w A n c F m d p q w'
  g : IsG w' A n c F m d W E
variable {p q : Int}
theorem Cx1e.next {w w1 w2 : World} (h : Cx1e w A n c F m d p q w1) (hb : Below w1.heap.size w1 w2) : Cx1e w A n c F m d p q w2 :=
  ⟨h.bel.trans (hb.mono h.bel.size), (hb.cell (World.block_lt_of_cell? _ _ h.p0)).trans h.p0, (hb.cell (World.block_lt_of_cell? _ _ h.p1)).trans h.p1, (hb.cell (World.block_lt_of_cell? _ _ h.q0)).trans h.q0, (hb.cell (World.block_lt_of_cell? _ _ h.q1)).trans h.q1⟩
theorem Bx1e.next {w w1 w2 : World} (h : Bx1e w A n c F m d p q W E w1) (hb : Below w1.heap.size w1 w2) : Bx1e w A n c F m d p q W E w2 := ⟨h.bx.next hb, h.g.below hb⟩
theorem Cx1e.start (w : World) (A : Option Addr) (n c : Nat) (F : Option Addr) (m d : Nat) (p q : Int) :
    Cx1e w A n c F m d p q ((w.alloc (.cells #[.slice A n c, .slice F m d] 25)).alloc (.cells #[.int .i64 p, .int .i64 q] 40)) := by
  obtain ⟨w1, h1⟩ : ∃ w1, w1 = w.alloc (.cells #[.slice A n c, .slice F m d] 25) := ⟨_, rfl⟩
  rw [← h1]
  have s1 : w1.heap.size = w.heap.size + 1 := by rw [h1]; simp
  have b1 : Below w.heap.size w w1 := by rw [h1]; exact below_alloc _
  have b2 := below_alloc (w := w1) (.cells #[.int .i64 p, .int .i64 q] 40)
  refine ⟨b1.trans (b2.mono (by omega)), ?_, ?_, ?_, ?_⟩
  · refine (b2.cell (by show w.heap.size < _; omega)).trans ?_
    rw [h1, World.cell?_alloc_at _ _ _ _ rfl]; rfl
  · refine (b2.cell (by show w.heap.size < _; omega)).trans ?_
    rw [h1, World.cell?_alloc_at _ _ _ _ rfl]; rfl
  · rw [World.cell?_alloc_at _ _ _ _ s1.symm]; rfl
  · rw [World.cell?_alloc_at _ _ _ _ s1.symm]; rfl
theorem Bx1e.start {w : World} (h : IsG w A n c F m d W E) (p q : Int) :
    Bx1e w A n c F m d p q W E ((w.alloc (.cells #[.slice A n c, .slice F m d] 25)).alloc (.cells #[.int .i64 p, .int .i64 q] 40)) :=
  ⟨Cx1e.start w A n c F m d p q, (h.below (below_alloc _)).below (below_alloc _)⟩
theorem Cx1e.cells {w w' : World} (h : Cx1e w A n c F m d p q w') : w'.cell? ⟨w.heap.size, 0, none⟩ = some (.slice A n c) ∧ w'.cell? ⟨w.heap.size, 1, none⟩ = some (.slice F m d) ∧ w'.cell? ⟨w.heap.size + 1, 0, none⟩ = some (.int .i64 p) ∧ w'.cell? ⟨w.heap.size + 1, 1, none⟩ = some (.int .i64 q) := ⟨h.p0, h.p1, h.q0, h.q1⟩
theorem b1e_g {z : Prop} {w x : World} (h : z ∧ Hid (Bx1e w A n c F m d p q W E x)) : IsG x A n c F m d W E := h.2.out.g
theorem b1e_n {z : Prop} {w x y : World} (h : z ∧ Hid (Bx1e w A n c F m d p q W E x)) (b : Below x.heap.size x y) : Bx1e w A n c F m d p q W E y := h.2.out.next b
/-- A graph lies in a block. -/
structure BxG (g : Nat) (A : Option Addr) (n c : Nat) (F : Option Addr) (m d : Nat) (W : List Int) (E : List (Int × Int)) (w' : World) : Prop where
  p0 : w'.cell? ⟨g, 0, none⟩ = some (.slice A n c)
  p1 : w'.cell? ⟨g, 1, none⟩ = some (.slice F m d)
  g : IsG w' A n c F m d W E
theorem BxG.next {g : Nat} {w1 w2 : World} (h : BxG g A n c F m d W E w1) (hb : Below w1.heap.size w1 w2) : BxG g A n c F m d W E w2 :=
  ⟨(hb.cell (World.block_lt_of_cell? _ _ h.p0)).trans h.p0, (hb.cell (World.block_lt_of_cell? _ _ h.p1)).trans h.p1, h.g.below hb⟩
theorem BxG.cells {g : Nat} {w' : World} (h : BxG g A n c F m d W E w') : w'.cell? ⟨g, 0, none⟩ = some (.slice A n c) ∧ w'.cell? ⟨g, 1, none⟩ = some (.slice F m d) := ⟨h.p0, h.p1⟩
set_option maxHeartbeats 2000000 in
theorem long_many (K : DagOk) (w : World) (hT : Tab64 w) (p q : Int) (k1 : n ≤ 9223372036854775807) (k2 : m ≤ 9223372036854775807) (h : ¬ (n ≤ 70 ∧ m ≤ 300)) :
    Calls Tryd.prog 6 #[.agg #[.slice A n c, .slice F m d], .agg #[.int .i64 p, .int .i64 q]] w fun e w' => e = .returned (.bool true) ∧ Below w.heap.size w w' := by
  have HK := Lib.hid K
  have HTB := Lib.hid hT
  clear hT
  have B0 := Lib.hid (Cx1e.start w A n c F m d p q)
  have F1 := Lib.hid (fun W => few_no A F n c m d W k1 k2 h)
  clear K h k1 k2
  go_enter Tryd.func6, Tryd.ntmps6
  go_wp2_with fail
  refine (awake_any HK.out _ (HTB.out.via B0.out.bel)).mono ?_
  rintro e w1 ⟨rfl, b1⟩
  have B1 := Lib.hid (B0.out.next b1)
  clear b1
  obtain ⟨c1, c2, c3, c4⟩ := B1.out.cells
  go_wp2_with fail
  refine (F1.out _).mono ?_
  rintro e w2 ⟨rfl, b2⟩
  have B2 := Lib.hid (B1.out.next b2)
  clear b2 c1 c2 c3 c4
  go_wp2_with fail
  refine (awake_any HK.out _ (HTB.out.via B2.out.bel)).mono ?_
  rintro e w4 ⟨rfl, b4⟩
  have B4 := Lib.hid (B2.out.next b4)
  clear b4
  go_wp2_with fail
  go_ret
  exact ⟨rfl, B4.out.bel⟩
set_option maxHeartbeats 2000000 in
theorem long_not (K : DagOk) (w : World) (p q : Int) (h : IsG w A n c F m d W E) (l1 : n ≤ 70) (l2 : m ≤ 300) (hM : ¬ May W E) :
    Calls Tryd.prog 6 #[.agg #[.slice A n c, .slice F m d], .agg #[.int .i64 p, .int .i64 q]] w fun e w' => e = .returned (.bool true) ∧ Below w.heap.size w w' := by
  have HK := Lib.hid K
  have HTB := Lib.hid h.tab
  have B0 := Lib.hid (Bx1e.start h p q)
  have F1 := Lib.hid (fun W => few_yes A F n c m d W l1 l2)
  have hc : (chkE W E != 0) = true := by
    rw [bne_iff_ne]
    exact fun q => hM (chkE_zero.mp q)
  clear K h l1 l2 hM
  go_enter Tryd.func6, Tryd.ntmps6
  go_wp2_with fail
  refine (awake_any HK.out _ (HTB.out.via B0.out.bx.bel)).mono ?_
  rintro e w1 ⟨rfl, b1⟩
  have B1 := Lib.hid (B0.out.next b1)
  clear b1
  obtain ⟨c1, c2, c3, c4⟩ := B1.out.bx.cells
  go_wp2_with fail
  refine (F1.out _).mono ?_
  rintro e w2 ⟨rfl, b2⟩
  have B2 := Lib.hid (B1.out.next b2)
  clear b2 c1 c2 c3 c4
  obtain ⟨c1, c2, c3, c4⟩ := B2.out.bx.cells
  go_wp2_with fail
  refine (own_g B2.out.g).mono ?_
  rintro e w4 ⟨Aa, ca, Fa, da, rfl, hg, b⟩
  have B4 := Lib.hid (B2.out.next b)
  have HG := Lib.hid hg
  clear b c1 c2 c3 c4 hg
  go_wp2_with fail
  refine (HK.out.check _ HG.out).mono ?_
  rintro e w5 ⟨rfl, b⟩
  have B5 := Lib.hid (B4.out.next b)
  clear b HG
  go_wp2_with fail
  refine (awake_any HK.out _ (HTB.out.via B5.out.bx.bel)).mono ?_
  rintro e w6 ⟨rfl, b⟩
  have B6 := Lib.hid (B5.out.next b)
  clear b
  go_wp2_with fail
  go_ret
  exact ⟨rfl, B6.out.bx.bel⟩
set_option maxRecDepth 100000 in
set_option maxHeartbeats 8000000 in
theorem long_may (K : DagOk) (w : World) (p q : Int) (h : IsG w A n c F m d W E) (l1 : n ≤ 70) (l2 : m ≤ 300) (hM : May W E) :
    Calls Tryd.prog 6 #[.agg #[.slice A n c, .slice F m d], .agg #[.int .i64 p, .int .i64 q]] w fun e w' => e = .returned (.bool true) ∧ Below w.heap.size w w' := by
  have HK := Lib.hid K
  have HTB := Lib.hid h.tab
  have HWN := Lib.hid h.hn
  have HEM := Lib.hid h.hm
  have HW := Lib.hid hM.work
  have HF := Lib.hid (show Fits n E by rw [← h.hn]; exact hM.fits)
  have B0 := Lib.hid (Bx1e.start h p q)
  have F1 := Lib.hid (fun W => few_yes A F n c m d W l1 l2)
  have hc : chkE W E = 0 := chkE_zero.mpr hM
  have K0 := Lib.hid (fun (A : Option Addr) (n c : Nat) (F : Option Addr) (m d : Nat) (w' : World) (h : IsG w' A n c F m d W E) => K.check w' h)
  simp only [hc] at K0
  have KT := Lib.hid (fun (A : Option Addr) (n c : Nat) (F : Option Addr) (m d : Nat) (w' : World) (h : IsG w' A n c F m d W E) => K.total w' h)
  have KL := Lib.hid (fun (A : Option Addr) (n c : Nat) (F : Option Addr) (m d : Nat) (w' : World) (h : IsG w' A n c F m d W E) => K.long w' h)
  have HN := Lib.hid (fun k z => longV_node (k := k) (z := z) hM)
  have HD := Lib.hid (fun x y a b => longV_edge (x := x) (y := y) (a := a) (b := b) hM)
  have hLS := (longV_total hM).1
  have hL0 := (longV_total hM).2
  have hMM := Lib.hid (fun hM' : May W (E ++ [(p, q)]) => longV_mono hM hM' fun e he => List.mem_append_left _ he)
  have hTM := Lib.hid (fun hM' : May W (E ++ [(p, q)]) => totalV_is hM')
  rw [← totalV_is hM] at hLS
  rw [← totalV_is hM] at hTM
  obtain ⟨T, hT⟩ : ∃ z, z = totalV W E := ⟨_, rfl⟩
  obtain ⟨L, hL⟩ : ∃ z, z = longV W E := ⟨_, rfl⟩
  rw [← hT] at KT hLS hTM
  rw [← hL] at KL HN HD hLS hMM hL0
  clear K h hM hc hT hL
  go_enter Tryd.func6, Tryd.ntmps6
  go_wp2_with fail
  refine (awake_any HK.out _ (HTB.out.via B0.out.bx.bel)).mono ?_
  rintro e w1 ⟨rfl, b1⟩
  have B1 := Lib.hid (B0.out.next b1)
  clear b1
  obtain ⟨c1, c2, c3, c4⟩ := B1.out.bx.cells
  go_wp2_with fail
  refine (F1.out _).mono ?_
  rintro e w2 ⟨rfl, b2⟩
  have B2 := Lib.hid (B1.out.next b2)
  clear b2 c1 c2 c3 c4
  obtain ⟨c1, c2, c3, c4⟩ := B2.out.bx.cells
  go_wp2_with fail
  refine (own_g B2.out.g).mono ?_
  rintro e w4 ⟨Aa, ca, Fa, da, rfl, hg, b⟩
  have B4 := Lib.hid (B2.out.next b)
  have HG := Lib.hid hg
  clear b c1 c2 c3 c4 hg
  go_wp2_with fail
  refine (K0.out _ _ _ _ _ _ _ HG.out).mono ?_
  rintro e w5 ⟨rfl, b⟩
  have B5 := Lib.hid (B4.out.next b)
  have B5d := Lib.hid (B5.out.next (Below.refl _ _).drew)
  clear b HG B0 B1 B2 B4
  go_wp2_with fail
  go_region_held3 (fun x => (x.cell? ⟨w.heap.size, 0, none⟩ = some (.slice A n c) ∧ x.cell? ⟨w.heap.size, 1, none⟩ = some (.slice F m d) ∧ x.cell? ⟨w.heap.size + 1, 0, none⟩ = some (.int .i64 p) ∧ x.cell? ⟨w.heap.size + 1, 1, none⟩ = some (.int .i64 q)) ∧ Hid (Bx1e w A n c F m d p q W E x))
    (first | exact ⟨B5d.out.bx.cells, B5d⟩ | exact ⟨HBX.out.bx.cells, HBX⟩)
    (first
      | (go_at_call 13; refine (own_g (b1e_g (by assumption))).mono ?_; rintro e x1 ⟨Aa, ca, Fa, da, rfl, hga, b⟩; have HBX := Lib.hid (b1e_n (by assumption) b); have HGa := Lib.hid hga; clear b hga)
      | (go_at_call 18; refine (KT.out _ _ _ _ _ _ _ HGa.out).mono ?_; rintro e x1 ⟨rfl, b⟩; have HBX := Lib.hid (b1e_n (by assumption) b); clear b)
      | (go_at_call 19; refine (KL.out _ _ _ _ _ _ _ HGa.out).mono ?_; rintro e x1 ⟨rfl, b⟩; have HBX := Lib.hid (b1e_n (by assumption) b); clear b))
  go_wp2
  go_loopw [7] (fun v wr => ∃ k : Nat, k ≤ n ∧ v = .int .i64 k ∧ Hid (Bx1e w A n c F m d p q W E wr)) (fun v _ => n - (intOf v).toNat)
  case atStart => exact ⟨0, Nat.zero_le _, rfl, HBX⟩
  case round =>
    obtain ⟨k, hk, rfl, BR⟩ := hrel
    obtain ⟨c1, c2, c3, c4⟩ := BR.out.bx.cells
    by_cases hlt : k < n
    · obtain ⟨bk, off, z, rfl, hbg, hz, hc1⟩ := BR.out.g.ints.at_ (k := k) (by rw [HWN.out]; exact hlt)
      have hzL := HN.out k z hz
      have hzW := HW.out z (List.mem_of_getElem? hz)
      clear hz
      go_wp2_with fail
      go_roundw
      case rel => exact ⟨k + 1, by omega, by go_num, BR⟩
      case measure => simp [intOf]; omega
    · have e : n = k := by omega
      subst e
      clear hlt hk
      go_wp2_with fail
      go_loopw [8] (fun v wr => ∃ k : Nat, k ≤ m ∧ v = .int .i64 k ∧ Hid (Bx1e w A n c F m d p q W E wr)) (fun v _ => m - (intOf v).toNat)
      case atStart => exact ⟨0, Nat.zero_le _, rfl, BR⟩
      case round =>
        clear BR c1 c2 c3 c4
        obtain ⟨k, hk, rfl, BR⟩ := hrel
        obtain ⟨c1, c2, c3, c4⟩ := BR.out.bx.cells
        by_cases hlt : k < m
        · obtain ⟨bk, off, e, rfl, hbg, hek, hc1, hc2⟩ := BR.out.g.pairs.at_ (k := k) (by rw [HEM.out]; exact hlt)
          obtain ⟨x, y, rfl, hx, hy⟩ := fits_nat HF.out hek
          obtain ⟨bw, of2, zx, rfl, hbw, hzx, hd1⟩ := BR.out.g.ints.at_ (k := x) (by rw [HWN.out]; exact hx)
          obtain ⟨bw', of2', zy, e, _, hzy, hd2⟩ := BR.out.g.ints.at_ (k := y) (by rw [HWN.out]; exact hy)
          injection e with e
          injection e with e1 e2
          subst e1 e2
          have hzL := HD.out x y zx zy (List.mem_of_getElem? hek) hzx hzy
          have hwx := HW.out zx (List.mem_of_getElem? hzx)
          have hwy := HW.out zy (List.mem_of_getElem? hzy)
          simp only at hc1 hc2
          clear hek hzx hzy
          go_wp2_with fail
          go_region
          go_wp2
          go_roundw
          case rel => exact ⟨k + 1, by omega, by go_num, Lib.hid (BR.out.next (below_drewN (Below.refl _ _) _))⟩
          case measure => simp [intOf]; omega
        · have e : m = k := by omega
          subst e
          clear hlt hk
          go_wp2_with fail
          refine (own_any A F n c m d W E wr HWN.out (by omega) HEM.out (by omega) BR.out.g.ints BR.out.g.pairs BR.out.g.hA BR.out.g.hF).mono ?_
          rintro e w6 ⟨u, v, rfl, hu, hv, b⟩
          have B6 := Lib.hid (BR.out.next b)
          obtain ⟨Au, cu, rfl, _⟩ := hu.slice
          obtain ⟨Fv, dv, rfl, _⟩ := hv.slice
          have HU := Lib.hid hu
          have HV := Lib.hid hv
          have hs5 := b.size
          rw [HWN.out] at HU
          rw [HEM.out] at HV
          rw [HWN.out, HEM.out]
          have HS := Lib.hid b
          have HO1 : Hid (OwnE (w6.alloc (.cells #[.slice Au n cu, .slice Fv m dv] 25)) wr.heap.size (.slice Fv m dv) E) := Lib.hid (HV.out.below (below_alloc _))
          have hsz1 : wr.heap.size ≤ (w6.alloc (.cells #[.slice Au n cu, .slice Fv m dv] 25)).heap.size := by simp; omega
          clear b c1 c2 c3 c4 hu hv
          obtain ⟨c1, c2, c3, c4⟩ := B6.out.bx.cells
          have hb3 := World.block_lt_of_cell? _ _ c3
          simp only at hb3
          go_wp2_with (at_builtin; go_loud (refine wpList_pushE rfl _ _ rfl (w6.alloc (.cells #[.slice Au n cu, .slice Fv m dv] 25)) wr.heap.size _ E (p, q) m HEM.out (by omega) HO1.out hsz1 (by simp [Act.eval]) (by simp [Act.eval]) ?_); intro F' d' w' HO' HG'; have hr := push_row HV.out HG'; have HP := Lib.hid (push_after HS.out HU.out HV.out HO' HG'); have hr0 := cell_of_row w' _ 0 _ _ _ hr; have hr1 := cell_of_row w' _ 1 _ _ _ hr; have hr2 := frozen_of_row w' _ 1 _ _ hr; simp only [List.getElem?_toArray, List.getElem?_cons_succ, List.getElem?_cons_zero] at hr0 hr1; clear HO' HG' hr)
          obtain ⟨bS, hu8, hv8, q0, q1⟩ := HP.out
          have HX := Lib.hid (BxG.mk q0 q1 (own_isG2 (HTB.out.via (BR.out.bx.bel.trans (bS.mono BR.out.bx.bel.size))) hu8 hv8 HWN.out (by rw [List.length_append, List.length_singleton, HEM.out]) (by omega) (by omega)))
          have HBL := Lib.hid (BR.out.bx.bel.trans (bS.mono BR.out.bx.bel.size))
          clear hr0 hr1 hr2 HP bS hu8 hv8 q0 q1 B6 HO1 hsz1 HU HV HS c1 c2 c3 c4 BR
          by_cases hM' : May W (E ++ [(p, q)])
          · have K1 := Lib.hid (fun (A : Option Addr) (n c : Nat) (F : Option Addr) (m d : Nat) (w' : World) (h : IsG w' A n c F m d W (E ++ [(p, q)])) => HK.out.check w' h)
            simp only [chkE_zero.mpr hM'] at K1
            have K2 := Lib.hid (fun (A : Option Addr) (n c : Nat) (F : Option Addr) (m d : Nat) (w' : World) (h : IsG w' A n c F m d W (E ++ [(p, q)])) => HK.out.long w' h)
            have K3 := Lib.hid (fun (A : Option Addr) (n c : Nat) (F : Option Addr) (m d : Nat) (w' : World) (h : IsG w' A n c F m d W (E ++ [(p, q)])) => HK.out.total w' h)
            simp only [hTM.out hM'] at K3
            have hLL := hMM.out hM'
            obtain ⟨L', hL'⟩ : ∃ z, z = longV W (E ++ [(p, q)]) := ⟨_, rfl⟩
            rw [← hL'] at K2 hLL
            clear hL' hM' hMM hTM
            refine (own_g HX.out.g).mono ?_
            rintro e w9 ⟨A9, c9, F9, d9, rfl, hg, b⟩
            have X9 := Lib.hid (HX.out.next b)
            have G9 := Lib.hid hg
            have L9 := Lib.hid (HBL.out.trans (b.mono HBL.out.size))
            clear b hg HX HBL
            obtain ⟨c1, c2⟩ := X9.out.cells
            go_wp2_with fail
            refine (K1.out _ _ _ _ _ _ _ G9.out).mono ?_
            rintro e w10 ⟨rfl, b⟩
            have X10 := Lib.hid (X9.out.next b)
            have L10 := Lib.hid (L9.out.trans (b.mono L9.out.size))
            clear b X9 G9 L9 c1 c2
            obtain ⟨c1, c2⟩ := X10.out.cells
            go_wp2_with fail
            refine (own_g X10.out.g).mono ?_
            rintro e w11 ⟨A11, c11, F11, d11, rfl, hg, b⟩
            have X11 := Lib.hid (X10.out.next b)
            have G11 := Lib.hid hg
            have L11 := Lib.hid (L10.out.trans (b.mono L10.out.size))
            clear b hg X10 L10 c1 c2
            obtain ⟨c1, c2⟩ := X11.out.cells
            go_wp2_with fail
            refine (K2.out _ _ _ _ _ _ _ G11.out).mono ?_
            rintro e w12 ⟨rfl, b⟩
            have X12 := Lib.hid (X11.out.next b)
            have L12 := Lib.hid (L11.out.trans (b.mono L11.out.size))
            clear b X11 G11 L11 c1 c2
            obtain ⟨c1, c2⟩ := X12.out.cells
            go_wp2_with fail
            refine (K3.out _ _ _ _ _ _ _ X12.out.g).mono ?_
            rintro e w13 ⟨rfl, b⟩
            have L13 := Lib.hid (L12.out.trans (b.mono L12.out.size))
            clear b X12 L12 c1 c2
            go_wp2_with fail
            go_ret
            exact ⟨rfl, L13.out⟩
          · have hcb : (chkE W (E ++ [(p, q)]) != 0) = true := by
              rw [bne_iff_ne]
              exact fun z => hM' (chkE_zero.mp z)
            clear hM' hMM hTM
            refine (own_g HX.out.g).mono ?_
            rintro e w9 ⟨A9, c9, F9, d9, rfl, hg, b⟩
            have X9 := Lib.hid (HX.out.next b)
            have G9 := Lib.hid hg
            have L9 := Lib.hid (HBL.out.trans (b.mono HBL.out.size))
            clear b hg HX HBL
            obtain ⟨c1, c2⟩ := X9.out.cells
            go_wp2_with fail
            refine (HK.out.check _ G9.out).mono ?_
            rintro e w10 ⟨rfl, b⟩
            have L10 := Lib.hid (L9.out.trans (b.mono L9.out.size))
            clear b X9 G9 L9 c1 c2
            go_wp2_with fail
            go_ret
            exact ⟨rfl, L10.out⟩
theorem walk_DagLong (K : DagOk) (w : World) (hT : Tab64 w) (h : InG w A n c F m d W E) (p : Int) (hp : (Lit.int .i64 p).wf = true) (q : Int) (hq : (Lit.int .i64 q).wf = true) :
    Calls Tryd.prog 6 #[.agg #[.slice A n c, .slice F m d], .agg #[.int .i64 p, .int .i64 q]] w fun e w' => e = .returned (.bool true) ∧ Below w.heap.size w w' := by
  by_cases h1 : n ≤ 70 ∧ m ≤ 300
  · by_cases hM : May W E
    · exact long_may K w p q (h.isG hT h1.1 h1.2) h1.1 h1.2 hM
    · exact long_not K w p q (h.isG hT h1.1 h1.2) h1.1 h1.2 hM
  · exact long_many K w hT p q h.ln h.lm h1
end
end Go.Proofs.YtmgfbpnphdkgiaaDoor
