/- The walk of DagOrder in the seat YtmgfbpnphdkgiaaDoor, given what the program's functions answer. No statement is proved here. -/
import Derived.Test.YtmgfbpnphdkgiaaDoorIntsV
import Derived.Test.YtmgfbpnphdkgiaaDoorBox
set_option linter.unusedVariables false
namespace Go.Proofs.YtmgfbpnphdkgiaaDoor
open Go.RowKit

/-- Where each node stands, one more than its place (0: not yet), behind so many of the order. -/
def plK (n : Nat) (o : List Nat) : Nat → List Int
  | 0 => List.replicate n 0
  | i + 1 => (plK n o i).set (o.getD i 0) ((i : Int) + 1)
theorem plK_length (n : Nat) (o : List Nat) : ∀ i, (plK n o i).length = n
  | 0 => by simp [plK]
  | i + 1 => by
    show ((plK n o i).set _ _).length = n
    rw [List.length_set, plK_length n o i]
theorem plK_zero {n : Nat} {o : List Nat} (hn : o.Nodup) : ∀ i x, i ≤ o.length → x ∉ o.take i → (plK n o i).getD x 0 = 0
  | 0, x, _, _ => by
    show (List.replicate n (0 : Int)).getD x 0 = 0
    rw [List.getD_eq_getElem?_getD, List.getElem?_replicate]
    split <;> rfl
  | i + 1, x, hi, hx => by
    have hoi : o[i]? = some o[i] := List.getElem?_eq_getElem (by omega)
    rw [take_snoc' hoi] at hx
    show ((plK n o i).set (o.getD i 0) _).getD x 0 = 0
    rw [getD_set, if_neg]
    · exact plK_zero hn i x (by omega) (fun h => hx (List.mem_append.mpr (.inl h)))
    · rintro ⟨e, _⟩
      refine hx (List.mem_append.mpr (.inr ?_))
      rw [← e, List.getD_eq_getElem?_getD, hoi]
      exact List.mem_singleton.mpr rfl
theorem plK_at {n : Nat} {o : List Nat} (hn : o.Nodup) (hl : ∀ x ∈ o, x < n) : ∀ i j (hj : j < o.length), i ≤ o.length → j < i → (plK n o i).getD o[j] 0 = (j : Int) + 1
  | 0, j, _, _, h => by omega
  | i + 1, j, hj, hi, h => by
    have hoi : o[i]? = some o[i] := List.getElem?_eq_getElem (by omega)
    have e : o.getD i 0 = o[i] := by rw [List.getD_eq_getElem?_getD, hoi]; rfl
    show ((plK n o i).set (o.getD i 0) _).getD o[j] 0 = _
    rw [getD_set, e]
    by_cases hij : j = i
    · subst hij
      rw [if_pos ⟨rfl, by rw [plK_length]; exact hl _ (List.getElem_mem _)⟩]
    · rw [if_neg]
      · exact plK_at hn hl i j hj (by omega) (by omega)
      · rintro ⟨q, _⟩
        exact hij ((List.getElem_inj hn).mp q).symm
theorem place_less {n : Nat} {E : List (Int × Int)} {o : List Nat} (h : Ordered n E o) (hl : o.length = n) {x y : Nat} (he : ed E x y) (hF : Fits n E) : (plK n o n).getD x 0 < (plK n o n).getD y 0 := by
  have hxy := ed_lt hF he
  obtain ⟨j, hj, hy⟩ := List.getElem_of_mem (h.all hl y hxy.2)
  have hm := h.behind j hj x (hy ▸ he)
  obtain ⟨i, hi, hx⟩ := List.getElem_of_mem hm
  rw [List.length_take] at hi
  rw [List.getElem_take] at hx
  have e1 := plK_at (n := n) h.nodup h.lt n i (by omega) (by omega) (by omega)
  have e2 := plK_at (n := n) h.nodup h.lt n j hj (by omega) (by omega)
  rw [hx] at e1
  rw [hy] at e2
  rw [e1, e2]
  omega
theorem place_in {n : Nat} {o : List Nat} (hn : o.Nodup) (hl : ∀ x ∈ o, x < n) (hlen : o.length = n) (hall : ∀ x, x < n → x ∈ o) (x : Nat) (hx : x < n) : 0 ≤ (plK n o n).getD x 0 ∧ (plK n o n).getD x 0 ≤ n := by
  obtain ⟨j, hj, e⟩ := List.getElem_of_mem (hall x hx)
  have := plK_at (n := n) hn hl n j hj (by omega) (by omega)
  rw [e] at this
  omega
section
variable {A : Option Addr} {n c : Nat} {F : Option Addr} {m d : Nat} {W : List Int} {E : List (Int × Int)}
set_option maxHeartbeats 2000000 in
theorem order_many (K : DagOk) (w : World) (hT : Tab64 w) (k1 : n ≤ 9223372036854775807) (k2 : m ≤ 9223372036854775807) (h : ¬ (n ≤ 70 ∧ m ≤ 300)) :
    Calls Tryd.prog 5 #[.agg #[.slice A n c, .slice F m d]] w fun e w' => e = .returned (.bool true) ∧ Below w.heap.size w w' := by
  have HK := Lib.hid K
  have HTB := Lib.hid hT
  clear hT
  have B0 := Lib.hid (Cx1.start w A n c F m d)
  have F1 := Lib.hid (fun W => few_no A F n c m d W k1 k2 h)
  clear K h k1 k2
  go_enter Tryd.func5, Tryd.ntmps5
  go_wp2_with fail
  refine (awake_any HK.out _ (HTB.out.via B0.out.bel)).mono ?_
  rintro e w1 ⟨rfl, b1⟩
  have B1 := Lib.hid (B0.out.next b1)
  clear b1
  obtain ⟨c1, c2⟩ := B1.out.cells
  go_wp2_with fail
  refine (F1.out _).mono ?_
  rintro e w2 ⟨rfl, b2⟩
  have B2 := Lib.hid (B1.out.next b2)
  clear b2 c1 c2
  go_wp2_with fail
  refine (awake_any HK.out _ (HTB.out.via B2.out.bel)).mono ?_
  rintro e w4 ⟨rfl, b4⟩
  have B4 := Lib.hid (B2.out.next b4)
  clear b4
  go_wp2_with fail
  go_ret
  exact ⟨rfl, B4.out.bel⟩
set_option maxHeartbeats 2000000 in
theorem order_not (K : DagOk) (w : World) (h : IsG w A n c F m d W E) (l1 : n ≤ 70) (l2 : m ≤ 300) (hM : ¬ May W E) :
    Calls Tryd.prog 5 #[.agg #[.slice A n c, .slice F m d]] w fun e w' => e = .returned (.bool true) ∧ Below w.heap.size w w' := by
  have HK := Lib.hid K
  have HTB := Lib.hid h.tab
  have B0 := Lib.hid (Bx1.start h)
  have F1 := Lib.hid (fun W => few_yes A F n c m d W l1 l2)
  have e1 : orderV W E = [] := by unfold orderV; rw [if_neg hM]
  have hc : (chkE W E != 0) = true := by
    rw [bne_iff_ne]
    exact fun q => hM (chkE_zero.mp q)
  have K1 := Lib.hid (fun (A : Option Addr) (n c : Nat) (F : Option Addr) (m d : Nat) (w' : World) (h : IsG w' A n c F m d W E) => K.order w' h)
  simp only [e1] at K1
  clear K h l1 l2 hM e1
  go_enter Tryd.func5, Tryd.ntmps5
  go_wp2_with fail
  refine (awake_any HK.out _ (HTB.out.via B0.out.bel)).mono ?_
  rintro e w1 ⟨rfl, b1⟩
  have B1 := Lib.hid (B0.out.next b1)
  clear b1
  obtain ⟨c1, c2⟩ := B1.out.cells
  go_wp2_with fail
  refine (F1.out _).mono ?_
  rintro e w2 ⟨rfl, b2⟩
  have B2 := Lib.hid (B1.out.next b2)
  clear b2 c1 c2
  obtain ⟨c1, c2⟩ := B2.out.cells
  go_wp2_with fail
  refine (own_g B2.out.g).mono ?_
  rintro e w4 ⟨Aa, ca, Fa, da, rfl, hg, b⟩
  have B4 := Lib.hid (B2.out.next b)
  have HG := Lib.hid hg
  clear b c1 c2 hg
  obtain ⟨c1, c2⟩ := B4.out.cells
  go_wp2_with fail
  refine (K1.out _ _ _ _ _ _ _ HG.out).mono ?_
  rintro e w5 ⟨Ab, cb, rfl, _, b⟩
  have B5 := Lib.hid (B4.out.next b)
  clear b c1 c2 HG
  obtain ⟨c1, c2⟩ := B5.out.cells
  go_wp2_with fail
  refine (own_g B5.out.g).mono ?_
  rintro e w6 ⟨Aa, ca, Fa, da, rfl, hg, b⟩
  have B6 := Lib.hid (B5.out.next b)
  have HG := Lib.hid hg
  clear b c1 c2 hg
  obtain ⟨c1, c2⟩ := B6.out.cells
  go_wp2_with fail
  refine (HK.out.check _ HG.out).mono ?_
  rintro e w7 ⟨rfl, b⟩
  have B7 := Lib.hid (B6.out.next b)
  clear b c1 c2 HG
  go_wp2_with fail
  go_ret
  exact ⟨rfl, B7.out.bel⟩
set_option maxRecDepth 100000 in
set_option maxHeartbeats 4000000 in
theorem order_may (K : DagOk) (w : World) (h : IsG w A n c F m d W E) (l1 : n ≤ 70) (l2 : m ≤ 300) (hM : May W E) :
    Calls Tryd.prog 5 #[.agg #[.slice A n c, .slice F m d]] w fun e w' => e = .returned (.bool true) ∧ Below w.heap.size w w' := by
  have HK := Lib.hid K
  have HTB := Lib.hid h.tab
  have HM := Lib.hid hM
  have HHM := Lib.hid h.hm
  have B0 := Lib.hid (Bx1.start h)
  have F1 := Lib.hid (fun W => few_yes A F n c m d W l1 l2)
  have e1 : orderV W E = nums (ord W.length E) := by unfold orderV; rw [if_pos hM]
  have hc : chkE W E = 0 := chkE_zero.mpr hM
  have K1 := Lib.hid (fun (A : Option Addr) (n c : Nat) (F : Option Addr) (m d : Nat) (w' : World) (h : IsG w' A n c F m d W E) => K.order w' h)
  have K2 := Lib.hid (fun (A : Option Addr) (n c : Nat) (F : Option Addr) (m d : Nat) (w' : World) (h : IsG w' A n c F m d W E) => K.check w' h)
  simp only [e1] at K1
  simp only [hc] at K2
  have HF := Lib.hid (show Fits n E by rw [← h.hn]; exact hM.fits)
  have HO := Lib.hid (show Ordered n E (ord n E) from ordK_ordered HF.out n)
  have HL := Lib.hid (show (ord n E).length = n from ordK_length HF.out hM.acyc n (Nat.le_refl _))
  rw [h.hn] at K1
  obtain ⟨o, ho⟩ : ∃ o, o = ord n E := ⟨_, rfl⟩
  rw [← ho] at K1 HO HL
  have HNL := Lib.hid (show (nums o).length = n by rw [nums_length]; exact HL.out)
  have hmk := fun W => make_ints n (by omega) W
  clear K h hM e1 hc ho
  go_enter Tryd.func5, Tryd.ntmps5
  go_wp2_with fail
  refine (awake_any HK.out _ (HTB.out.via B0.out.bel)).mono ?_
  rintro e w1 ⟨rfl, b1⟩
  have B1 := Lib.hid (B0.out.next b1)
  clear b1
  obtain ⟨c1, c2⟩ := B1.out.cells
  go_wp2_with fail
  refine (F1.out _).mono ?_
  rintro e w2 ⟨rfl, b2⟩
  have B2 := Lib.hid (B1.out.next b2)
  clear b2 c1 c2
  obtain ⟨c1, c2⟩ := B2.out.cells
  go_wp2_with fail
  refine (own_g B2.out.g).mono ?_
  rintro e w4 ⟨Aa, ca, Fa, da, rfl, hg, b⟩
  have B4 := Lib.hid (B2.out.next b)
  have HG := Lib.hid hg
  clear b c1 c2 hg
  obtain ⟨c1, c2⟩ := B4.out.cells
  go_wp2_with fail
  refine (K1.out _ _ _ _ _ _ _ HG.out).mono ?_
  rintro e w5 ⟨Ab, cb, rfl, hI, b⟩
  rw [HNL.out]
  have B5 := Lib.hid (B4.out.next b)
  have HI5 := Lib.hid hI
  clear b c1 c2 HG hI
  obtain ⟨c1, c2⟩ := B5.out.cells
  go_wp2_with fail
  refine (own_g B5.out.g).mono ?_
  rintro e w6 ⟨Aa, ca, Fa, da, rfl, hg, b⟩
  have B6 := Lib.hid (B5.out.next b)
  have HI6 := Lib.hid ((HI5.out.below b).more b.size)
  have HG := Lib.hid hg
  clear b c1 c2 hg
  obtain ⟨c1, c2⟩ := B6.out.cells
  go_wp2_with fail
  refine (K2.out _ _ _ _ _ _ _ HG.out).mono ?_
  rintro e w7 ⟨rfl, b⟩
  have B7 := Lib.hid (B6.out.next b)
  have HI7 := Lib.hid ((HI6.out.below b).more b.size)
  clear b c1 c2 HG B0 B1 B2 B4 B5 B6 HI5 HI6
  obtain ⟨c1, c2⟩ := B7.out.cells
  have HR0 := Lib.hid (show RowV w7.heap.size 3 (intsV (plK n o 0)) (w7.alloc (.cells (List.replicate n (Value.int .i64 0)).toArray 3)) by
    have h := RowV.new w7 3 (List.replicate n (Value.int .i64 0))
    rw [show intsV (plK n o 0) = List.replicate n (Value.int .i64 0) by unfold intsV plK; rw [List.map_replicate]]
    exact h)
  go_wp2
  go_loopw [5] (fun v wr => ∃ i : Nat, i ≤ n ∧ v = .int .i64 i ∧ Hid (RowV w7.heap.size 3 (intsV (plK n o i)) wr) ∧ Hid (Below w7.heap.size w7 wr)) (fun v _ => n - (intOf v).toNat)
  case atStart => exact ⟨0, Nat.zero_le _, rfl, HR0, Lib.hid (below_alloc _)⟩
  case round =>
    obtain ⟨i, hi, rfl, HV, HB⟩ := hrel
    by_cases hlt : i < n
    · obtain ⟨bk, off, z, rfl, hbg, hzi, hc1⟩ := HI7.out.at_ (k := i) (by rw [HNL.out]; exact hlt)
      have hilt : i < o.length := by rw [HL.out]; exact hlt
      have hoi : o[i]? = some o[i] := List.getElem?_eq_getElem hilt
      obtain ⟨x, hx⟩ : ∃ x, x = o[i] := ⟨_, rfl⟩
      rw [← hx] at hoi
      have hzx : z = (x : Int) := by
        unfold nums at hzi
        rw [List.getElem?_map, hoi] at hzi
        exact (Option.some.inj hzi).symm
      subst hzx
      have hxn : x < n := HO.out.lt x (by rw [hx]; exact List.getElem_mem _)
      have hxt : x ∉ o.take i := by
        intro hm
        obtain ⟨q, hq, e⟩ := List.getElem_of_mem hm
        rw [List.length_take] at hq
        rw [List.getElem_take, hx] at e
        have := (List.getElem_inj HO.out.nodup).mp e
        omega
      have hp0 := plK_zero (n := n) HO.out.nodup i x (by rw [HL.out]; omega) hxt
      have hcx := HV.out.cell (intsV_at (l := plK n o i) (j := x) (by rw [plK_length]; exact hxn))
      rw [hp0] at hcx
      have hfx := HV.out.frozen x
      have HST := Lib.hid (show plK n o (i + 1) = (plK n o i).set x ((i : Int) + 1) by
        show (plK n o i).set (o.getD i 0) _ = _
        rw [List.getD_eq_getElem?_getD, hoi]
        rfl)
      have hcl : wr.cell? ⟨bk, off + i, none⟩ = some (.int .i64 x) := (HB.out.cell hbg).trans hc1
      have hx0 : decide ((x : Int) < 0) = false := by rw [decide_eq_false_iff_not]; omega
      have hx1 : decide ((n : Int) ≤ (x : Int)) = false := by rw [decide_eq_false_iff_not]; omega
      have hx2 : decide (n ≤ x) = false := by rw [decide_eq_false_iff_not]; omega
      clear hoi hx hzi hc1 hp0 hxt hilt
      go_wp2
      go_roundw
      case rel => exact ⟨i + 1, by omega, by go_num, Lib.hid (by rw [HST.out, intsV_set]; exact HV.out.set x _), Lib.hid (HB.out.setCell (Nat.le_refl _) _)⟩
      case measure => simp [intOf]; omega
    · obtain rfl : i = n := by omega
      have BP := Lib.hid (B7.out.next HB.out)
      obtain ⟨q1, q2⟩ := BP.out.cells
      have HE := Lib.hid BP.out.g.pairs
      have hgl : w7.heap.size < wr.heap.size := HV.out.lt
      have hwl : w.heap.size < wr.heap.size := World.block_lt_of_cell? _ _ q1
      clear c1 c2
      go_wp2
      go_loopw [6] (fun v wx => ∃ k N : Nat, k ≤ m ∧ v = .int .i64 k ∧ wx = wr.drewN N) (fun v _ => m - (intOf v).toNat)
      case atStart => exact ⟨0, 0, Nat.zero_le _, rfl, rfl⟩
      case round =>
        obtain ⟨k, N, hk, rfl, rfl⟩ := hrel
        by_cases hlt2 : k < m
        · obtain ⟨bk, off, e, rfl, hbg, hek, hc1, hc2⟩ := HE.out.at_ (k := k) (by rw [HHM.out]; exact hlt2)
          obtain ⟨x, y, rfl, hx, hy⟩ := fits_nat HF.out hek
          simp only at hc1 hc2
          have hless := place_less HO.out HL.out (List.mem_of_getElem? hek) HF.out
          have hpx := place_in HO.out.nodup HO.out.lt HL.out (HO.out.all HL.out) x hx
          have hpy := place_in HO.out.nodup HO.out.lt HL.out (HO.out.all HL.out) y hy
          have hcx := HV.out.cell (intsV_at (l := plK i o i) (j := x) (by rw [plK_length]; exact hx))
          have hcy := HV.out.cell (intsV_at (l := plK i o i) (j := y) (by rw [plK_length]; exact hy))
          obtain ⟨u, hu⟩ : ∃ u, u = (plK i o i).getD x 0 := ⟨_, rfl⟩
          obtain ⟨v, hv⟩ : ∃ v, v = (plK i o i).getD y 0 := ⟨_, rfl⟩
          rw [← hu] at hless hpx hcx
          rw [← hv] at hless hpy hcy
          have hd : decide (v ≤ u) = false := by rw [decide_eq_false_iff_not]; omega
          clear hu hv hek
          go_wp2
          go_quiet (fail)
          go_wp2
          go_roundw
          case rel => exact ⟨k + 1, _, by omega, by go_num, rfl⟩
          case measure => simp [intOf]; omega
        · obtain rfl : k = m := by omega
          go_wp2
          go_ret
          exact ⟨rfl, below_drewN BP.out.bel N⟩
theorem walk_DagOrder (K : DagOk) (w : World) (hT : Tab64 w) (h : InG w A n c F m d W E) :
    Calls Tryd.prog 5 #[.agg #[.slice A n c, .slice F m d]] w fun e w' => e = .returned (.bool true) ∧ Below w.heap.size w w' := by
  by_cases hf : n ≤ 70 ∧ m ≤ 300
  · by_cases hM : May W E
    · exact order_may K w (h.isG hT hf.1 hf.2) hf.1 hf.2 hM
    · exact order_not K w (h.isG hT hf.1 hf.2) hf.1 hf.2 hM
  · exact order_many K w hT h.ln h.lm hf
end
end Go.Proofs.YtmgfbpnphdkgiaaDoor
