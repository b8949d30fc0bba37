/- The walk of DagBefore in the seat YtmgfbpnphdkgiaaDoor, given what the program's functions answer. No statement is proved here. -/
import Derived.Test.YtmgfbpnphdkgiaaDoorTellsWalk
set_option linter.unusedVariables false
namespace Go.Proofs.YtmgfbpnphdkgiaaDoor
open Go.RowKit

theorem pair_cells {w : World} {B bk off k : Nat} {E : List (Int × Int)} {x y : Int} (h : Pairs w B (some ⟨bk, off, none⟩) E) (he : E[k]? = some (x, y)) :
    w.cell? ⟨bk, off + k * 2, none⟩ = some (.int .i64 x) ∧ w.cell? ⟨bk, off + k * 2 + 1, none⟩ = some (.int .i64 y) := by
  have hk : 0 < E.length := by
    cases E with
    | nil => simp at he
    | cons _ _ => simp
  obtain ⟨b, o, e, _, hc⟩ := h hk
  injection e with e
  injection e with e1 e2
  subst e1 e2
  exact hc k _ he
section
variable {A : Option Addr} {n c : Nat} {F : Option Addr} {m d : Nat} {W : List Int} {E : List (Int × Int)}
theorem beforeV_iff (hM : May W E) (a b : Int) : beforeV W E a b = true ↔ 0 ≤ a ∧ 0 ≤ b ∧ Way E a.toNat b.toNat := by
  unfold beforeV
  constructor
  · intro h
    split at h
    · rename_i q
      exact q.2
    · cases h
  · intro h
    rw [if_pos ⟨hM, h⟩]
theorem beforeV_trans (hM : May W E) {a b c : Int} (h : beforeV W E a b = true) (k : beforeV W E b c = true) : beforeV W E a c = true := by
  rw [beforeV_iff hM] at h k ⊢
  exact ⟨h.1, k.2.1, h.2.2.trans k.2.2⟩
theorem beforeV_self (hM : May W E) (a : Int) : beforeV W E a a = false := by
  rw [← Bool.not_eq_true, beforeV_iff hM]
  exact fun h => hM.acyc _ h.2.2
theorem beforeV_back (hM : May W E) {a b : Int} (h : beforeV W E a b = true) : beforeV W E b a = false := by
  rw [← Bool.not_eq_true]
  intro k
  have := beforeV_trans hM h k
  rw [beforeV_self hM] at this
  cases this
theorem beforeV_edge (hM : May W E) {x y : Nat} (h : ((x : Int), (y : Int)) ∈ E) : beforeV W E x y = true := by
  rw [beforeV_iff hM]
  exact ⟨by omega, by omega, by simpa using Way.one h⟩
set_option maxHeartbeats 2000000 in
theorem before_many (K : DagOk) (w : World) (hT : Tab64 w) (a b e : Int) (k1 : n ≤ 9223372036854775807) (k2 : m ≤ 9223372036854775807) (h : ¬ (n ≤ 70 ∧ m ≤ 300)) :
    Calls Tryd.prog 7 #[.agg #[.slice A n c, .slice F m d], .int .i64 a, .int .i64 b, .int .i64 e] w fun e w' => e = .returned (.bool true) ∧ Below w.heap.size w w' := by
  have HK := Lib.hid K
  have HTB := Lib.hid hT
  clear hT
  have B0 := Lib.hid (Cx1.start w A n c F m d)
  have F1 := Lib.hid (fun W => few_no A F n c m d W k1 k2 h)
  clear K h k1 k2
  go_enter Tryd.func7, Tryd.ntmps7
  go_wp2_with fail
  refine (awake_any HK.out _ (HTB.out.via B0.out.bel)).mono ?_
  rintro e w1 ⟨rfl, b1⟩
  have B1 := Lib.hid (B0.out.next b1)
  clear b1
  obtain ⟨c1, c2⟩ := B1.out.cells
  go_wp2_with fail
  refine (F1.out _).mono ?_
  rintro e w2 ⟨rfl, b2⟩
  have B2 := Lib.hid (B1.out.next b2)
  clear b2 c1 c2
  go_wp2_with fail
  refine (awake_any HK.out _ (HTB.out.via B2.out.bel)).mono ?_
  rintro e w4 ⟨rfl, b4⟩
  have B4 := Lib.hid (B2.out.next b4)
  clear b4
  go_wp2_with fail
  go_ret
  exact ⟨rfl, B4.out.bel⟩
set_option maxHeartbeats 2000000 in
theorem before_not (K : DagOk) (w : World) (a b e : Int) (h : IsG w A n c F m d W E) (l1 : n ≤ 70) (l2 : m ≤ 300) (hM : ¬ May W E) :
    Calls Tryd.prog 7 #[.agg #[.slice A n c, .slice F m d], .int .i64 a, .int .i64 b, .int .i64 e] w fun e w' => e = .returned (.bool true) ∧ Below w.heap.size w w' := by
  have HK := Lib.hid K
  have HTB := Lib.hid h.tab
  have B0 := Lib.hid (Bx1.start h)
  have F1 := Lib.hid (fun W => few_yes A F n c m d W l1 l2)
  have hc : (chkE W E != 0) = true := by
    rw [bne_iff_ne]
    exact fun q => hM (chkE_zero.mp q)
  clear K h l1 l2 hM
  go_enter Tryd.func7, Tryd.ntmps7
  go_wp2_with fail
  refine (awake_any HK.out _ (HTB.out.via B0.out.bel)).mono ?_
  rintro e w1 ⟨rfl, b1⟩
  have B1 := Lib.hid (B0.out.next b1)
  clear b1
  obtain ⟨c1, c2⟩ := B1.out.cells
  go_wp2_with fail
  refine (F1.out _).mono ?_
  rintro e w2 ⟨rfl, b2⟩
  have B2 := Lib.hid (B1.out.next b2)
  clear b2 c1 c2
  obtain ⟨c1, c2⟩ := B2.out.cells
  go_wp2_with fail
  refine (own_g B2.out.g).mono ?_
  rintro e w4 ⟨Aa, ca, Fa, da, rfl, hg, b⟩
  have B4 := Lib.hid (B2.out.next b)
  have HG := Lib.hid hg
  clear b c1 c2 hg
  obtain ⟨c1, c2⟩ := B4.out.cells
  go_wp2_with fail
  refine (HK.out.check _ HG.out).mono ?_
  rintro e w5 ⟨rfl, b⟩
  have B5 := Lib.hid (B4.out.next b)
  clear b c1 c2 HG
  go_wp2_with fail
  refine (awake_any HK.out _ (HTB.out.via B5.out.bel)).mono ?_
  rintro e w6 ⟨rfl, b⟩
  have B6 := Lib.hid (B5.out.next b)
  clear b
  go_wp2_with fail
  go_ret
  exact ⟨rfl, B6.out.bel⟩
set_option maxRecDepth 100000 in
set_option maxHeartbeats 8000000 in
theorem before_may (K : DagOk) (w : World) (a b z : Int) (a0 : -9223372036854775808 ≤ a) (a1 : a ≤ 9223372036854775807) (b0 : -9223372036854775808 ≤ b) (b1 : b ≤ 9223372036854775807) (z0 : -9223372036854775808 ≤ z) (z1 : z ≤ 9223372036854775807) (h : IsG w A n c F m d W E) (l1 : n ≤ 70) (l2 : m ≤ 300) (hM : May W E) :
    Calls Tryd.prog 7 #[.agg #[.slice A n c, .slice F m d], .int .i64 a, .int .i64 b, .int .i64 z] w fun e w' => e = .returned (.bool true) ∧ Below w.heap.size w w' := by
  have HK := Lib.hid K
  have HTB := Lib.hid h.tab
  have HM := Lib.hid hM
  have HHM := Lib.hid h.hm
  have B0 := Lib.hid (Bx1.start h)
  have F1 := Lib.hid (fun W => few_yes A F n c m d W l1 l2)
  have hc : chkE W E = 0 := chkE_zero.mpr hM
  have K0 := Lib.hid (fun (A : Option Addr) (n c : Nat) (F : Option Addr) (m d : Nat) (w' : World) (h : IsG w' A n c F m d W E) => K.check w' h)
  simp only [hc] at K0
  have K1 := Lib.hid (fun (A : Option Addr) (n c : Nat) (F : Option Addr) (m d : Nat) (w' : World) (h : IsG w' A n c F m d W E) => K.before w' a b a0 a1 b0 b1 h)
  have K2 := Lib.hid (fun (A : Option Addr) (n c : Nat) (F : Option Addr) (m d : Nat) (w' : World) (h : IsG w' A n c F m d W E) => K.before w' b z b0 b1 z0 z1 h)
  have K3 := Lib.hid (fun (A : Option Addr) (n c : Nat) (F : Option Addr) (m d : Nat) (w' : World) (h : IsG w' A n c F m d W E) => K.before w' a z a0 a1 z0 z1 h)
  have K4 := Lib.hid (fun (A : Option Addr) (n c : Nat) (F : Option Addr) (m d : Nat) (w' : World) (h : IsG w' A n c F m d W E) => K.before w' b a b0 b1 a0 a1 h)
  have K5 := Lib.hid (fun (A : Option Addr) (n c : Nat) (F : Option Addr) (m d : Nat) (w' : World) (h : IsG w' A n c F m d W E) => K.before w' a a a0 a1 a0 a1 h)
  simp only [beforeV_self hM] at K5
  have HT := Lib.hid (fun (p1 : beforeV W E a b = true) (p2 : beforeV W E b z = true) => beforeV_trans hM p1 p2)
  have HB := Lib.hid (fun (p1 : beforeV W E a b = true) => beforeV_back hM p1)
  obtain ⟨p, hp⟩ : ∃ p, p = beforeV W E a b := ⟨_, rfl⟩
  obtain ⟨q, hq⟩ : ∃ p, p = beforeV W E b z := ⟨_, rfl⟩
  obtain ⟨r, hr⟩ : ∃ p, p = beforeV W E a z := ⟨_, rfl⟩
  obtain ⟨s, hs⟩ : ∃ p, p = beforeV W E b a := ⟨_, rfl⟩
  rw [← hp] at K1 HT HB
  rw [← hq] at K2 HT
  rw [← hr] at K3 HT
  rw [← hs] at K4 HB
  have KE := Lib.hid (fun (x y : Nat) (hx : x < n) (hy : y < n) (he : ((x : Int), (y : Int)) ∈ E) (A : Option Addr) (n c : Nat) (F : Option Addr) (m d : Nat) (w' : World) (h : IsG w' A n c F m d W E) => by
    have k := K.before w' x y (by omega) (by omega) (by omega) (by omega) h
    rwa [beforeV_edge hM he] at k)
  have HF := Lib.hid (show Fits n E by rw [← h.hn]; exact hM.fits)
  clear K h hM hc hp hq hr hs a0 a1 b0 b1 z0 z1
  go_enter Tryd.func7, Tryd.ntmps7
  go_wp2_with fail
  refine (awake_any HK.out _ (HTB.out.via B0.out.bel)).mono ?_
  rintro e w1 ⟨rfl, b1⟩
  have B1 := Lib.hid (B0.out.next b1)
  clear b1
  obtain ⟨c1, c2⟩ := B1.out.cells
  go_wp2_with fail
  refine (F1.out _).mono ?_
  rintro e w2 ⟨rfl, b2⟩
  have B2 := Lib.hid (B1.out.next b2)
  clear b2 c1 c2
  obtain ⟨c1, c2⟩ := B2.out.cells
  go_wp2_with fail
  refine (own_g B2.out.g).mono ?_
  rintro e w4 ⟨Aa, ca, Fa, da, rfl, hg, b⟩
  have B4 := Lib.hid (B2.out.next b)
  have HG := Lib.hid hg
  clear b c1 c2 hg
  obtain ⟨c1, c2⟩ := B4.out.cells
  go_wp2_with fail
  refine (K0.out _ _ _ _ _ _ _ HG.out).mono ?_
  rintro e w5 ⟨rfl, b⟩
  have B5 := Lib.hid (B4.out.next b)
  have B5d := Lib.hid (B5.out.next (Below.refl _ _).drew)
  clear b c1 c2 HG B0 B1 B2 B4
  go_wp2_with fail
  go_region_held3 (fun x => (x.cell? ⟨w.heap.size, 0, none⟩ = some (.slice A n c) ∧ x.cell? ⟨w.heap.size, 1, none⟩ = some (.slice F m d)) ∧ Hid (Bx1 w A n c F m d W E x))
    (first | exact ⟨B5d.out.cells, B5d⟩ | exact ⟨HBX.out.cells, HBX⟩)
    (first
      | (go_at_call 13; refine (own_g (b1_g (by assumption))).mono ?_; rintro e x1 ⟨Aa, ca, Fa, da, rfl, hga, b⟩; have HBX := Lib.hid (b1_n (by assumption) b); have HGa := Lib.hid hga; clear b hga)
      | (go_at_call_of 22 (Value.int .i64 a); go_at_call_of 22 (Value.int .i64 b); refine (K1.out _ _ _ _ _ _ _ HGa.out).mono ?_; rintro e x1 ⟨rfl, b⟩; have HBX := Lib.hid (b1_n (by assumption) b); clear b)
      | (go_at_call_of 22 (Value.int .i64 b); go_at_call_of 22 (Value.int .i64 z); refine (K2.out _ _ _ _ _ _ _ HGa.out).mono ?_; rintro e x1 ⟨rfl, b⟩; have HBX := Lib.hid (b1_n (by assumption) b); clear b)
      | (go_at_call_of 22 (Value.int .i64 a); go_at_call_of 22 (Value.int .i64 z); refine (K3.out _ _ _ _ _ _ _ HGa.out).mono ?_; rintro e x1 ⟨rfl, b⟩; have HBX := Lib.hid (b1_n (by assumption) b); clear b))
  go_wp2
  go_loopw [12] (fun v wr => ∃ k : Nat, k ≤ m ∧ v = .int .i64 k ∧ Hid (Bx1 w A n c F m d W E wr)) (fun v _ => m - (intOf v).toNat)
  case atStart => exact ⟨0, Nat.zero_le _, rfl, HBX⟩
  case round =>
    obtain ⟨k, hk, rfl, BR⟩ := hrel
    obtain ⟨c1, c2⟩ := BR.out.cells
    by_cases hlt : k < m
    · obtain ⟨bk, off, e, rfl, hbg, hek, hc1, hc2⟩ := BR.out.g.pairs.at_ (k := k) (by rw [HHM.out]; exact hlt)
      obtain ⟨x, y, rfl, hx, hy⟩ := fits_nat HF.out hek
      have HEK := Lib.hid hek
      have KE1 := Lib.hid (KE.out x y hx hy (List.mem_of_getElem? hek))
      have BRd := Lib.hid (BR.out.next (Below.refl _ wr).drew)
      simp only at hc1 hc2
      clear hek
      go_wp2_with fail
      go_region_held3 (fun u => ((u.cell? ⟨w.heap.size, 0, none⟩ = some (.slice A n c) ∧ u.cell? ⟨w.heap.size, 1, none⟩ = some (.slice (some ⟨bk, off, none⟩) m d)) ∧ u.cell? ⟨bk, off + k * 2, none⟩ = some (.int .i64 x) ∧ u.cell? ⟨bk, off + k * 2 + 1, none⟩ = some (.int .i64 y)) ∧ Hid (Bx1 w A n c (some ⟨bk, off, none⟩) m d W E u))
        (first | exact ⟨⟨BRd.out.cells, pair_cells BRd.out.g.pairs HEK.out⟩, BRd⟩ | exact ⟨⟨HBY.out.cells, pair_cells HBY.out.g.pairs HEK.out⟩, HBY⟩)
        (first
          | (go_at_call 13; refine (own_g (b1_g (by assumption))).mono ?_; rintro e x1 ⟨Aa, ca, Fa, da, rfl, hga, b⟩; have HBY := Lib.hid (b1_n (by assumption) b); have HGa := Lib.hid hga; clear b hga)
          | (go_at_call 22; refine (KE1.out _ _ _ _ _ _ _ HGa.out).mono ?_; rintro e x1 ⟨rfl, b⟩; have HBY := Lib.hid (b1_n (by assumption) b); clear b))
      go_wp2
      go_roundw
      case rel => exact ⟨k + 1, by omega, by go_num, HBY⟩
      case measure => simp [intOf]; omega
    · obtain rfl : k = m := by omega
      cases p with
      | true =>
        have hs0 := HB.out rfl
        subst hs0
        cases q with
        | true =>
          have hr1 := HT.out rfl rfl
          subst hr1
          go_wp2_with fail
          refine (own_g BR.out.g).mono ?_
          rintro e w6 ⟨Aa, ca, Fa, da, rfl, hg, b⟩
          have B6 := Lib.hid (BR.out.next b)
          have HG := Lib.hid hg
          clear b c1 c2 hg
          obtain ⟨c1, c2⟩ := B6.out.cells
          go_wp2_with fail
          refine (K4.out _ _ _ _ _ _ _ HG.out).mono ?_
          rintro e w7 ⟨rfl, b⟩
          have B7 := Lib.hid (B6.out.next b)
          clear b c1 c2 HG
          obtain ⟨c1, c2⟩ := B7.out.cells
          go_wp2_with fail
          refine (own_g B7.out.g).mono ?_
          rintro e w8 ⟨Aa, ca, Fa, da, rfl, hg, b⟩
          have B8 := Lib.hid (B7.out.next b)
          have HG := Lib.hid hg
          clear b c1 c2 hg
          obtain ⟨c1, c2⟩ := B8.out.cells
          go_wp2_with fail
          refine (K5.out _ _ _ _ _ _ _ HG.out).mono ?_
          rintro e w9 ⟨rfl, b⟩
          have B9 := Lib.hid (B8.out.next b)
          clear b c1 c2 HG
          go_wp2_with fail
          go_ret
          exact ⟨rfl, B9.out.bel⟩
        | false =>
          go_wp2_with fail
          refine (own_g BR.out.g).mono ?_
          rintro e w6 ⟨Aa, ca, Fa, da, rfl, hg, b⟩
          have B6 := Lib.hid (BR.out.next b)
          have HG := Lib.hid hg
          clear b c1 c2 hg
          obtain ⟨c1, c2⟩ := B6.out.cells
          go_wp2_with fail
          refine (K4.out _ _ _ _ _ _ _ HG.out).mono ?_
          rintro e w7 ⟨rfl, b⟩
          have B7 := Lib.hid (B6.out.next b)
          clear b c1 c2 HG
          obtain ⟨c1, c2⟩ := B7.out.cells
          go_wp2_with fail
          refine (own_g B7.out.g).mono ?_
          rintro e w8 ⟨Aa, ca, Fa, da, rfl, hg, b⟩
          have B8 := Lib.hid (B7.out.next b)
          have HG := Lib.hid hg
          clear b c1 c2 hg
          obtain ⟨c1, c2⟩ := B8.out.cells
          go_wp2_with fail
          refine (K5.out _ _ _ _ _ _ _ HG.out).mono ?_
          rintro e w9 ⟨rfl, b⟩
          have B9 := Lib.hid (B8.out.next b)
          clear b c1 c2 HG
          go_wp2_with fail
          go_ret
          exact ⟨rfl, B9.out.bel⟩
      | false =>
        go_wp2_with fail
        refine (own_g BR.out.g).mono ?_
        rintro e w8 ⟨Aa, ca, Fa, da, rfl, hg, b⟩
        have B8 := Lib.hid (BR.out.next b)
        have HG := Lib.hid hg
        clear b c1 c2 hg
        obtain ⟨c1, c2⟩ := B8.out.cells
        go_wp2_with fail
        refine (K5.out _ _ _ _ _ _ _ HG.out).mono ?_
        rintro e w9 ⟨rfl, b⟩
        have B9 := Lib.hid (B8.out.next b)
        clear b c1 c2 HG
        go_wp2_with fail
        go_ret
        exact ⟨rfl, B9.out.bel⟩
theorem walk_DagBefore (K : DagOk) (w : World) (hT : Tab64 w) (h : InG w A n c F m d W E) (a : Int) (ha : (Lit.int .i64 a).wf = true) (b : Int) (hb : (Lit.int .i64 b).wf = true) (z : Int) (hz : (Lit.int .i64 z).wf = true) :
    Calls Tryd.prog 7 #[.agg #[.slice A n c, .slice F m d], .int .i64 a, .int .i64 b, .int .i64 z] w fun e w' => e = .returned (.bool true) ∧ Below w.heap.size w w' := by
  have ba := i64_bounds ha
  have bb := i64_bounds hb
  have bz := i64_bounds hz
  by_cases hf : n ≤ 70 ∧ m ≤ 300
  · by_cases hM : May W E
    · exact before_may K w a b z ba.1 ba.2 bb.1 bb.2 bz.1 bz.2 (h.isG hT hf.1 hf.2) hf.1 hf.2 hM
    · exact before_not K w a b z (h.isG hT hf.1 hf.2) hf.1 hf.2 hM
  · exact before_many K w hT a b z h.ln h.lm hf
end
end Go.Proofs.YtmgfbpnphdkgiaaDoor
