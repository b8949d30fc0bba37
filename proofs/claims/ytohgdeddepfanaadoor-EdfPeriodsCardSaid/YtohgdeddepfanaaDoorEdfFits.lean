/- The contracts of edf.Fits, trefoilref15.Horizon and Fits, and of the law's Own, in the seat YtohgdeddepfanaaDoor. No statement is proved here. -/
import Derived.Test.YtohgdeddepfanaaDoorEdfRef
set_option linter.unusedVariables false
set_option linter.unusedSimpArgs false
namespace Go.Proofs.YtohgdeddepfanaaDoor
open Go Go.RowKit

theorem fit_iff {es : List Shp} (hM : MayE es) : FitE es ↔ ∀ u, 1 ≤ u → u < horE es + 1 → AtE es u := ⟨fun h u a b => h.2 u a (by omega), fun h => ⟨hM, fun t a b => h t a (by omega)⟩⟩
section
variable {A : Option Addr} {n c : Nat} {es : List Shp}
set_option maxRecDepth 100000 in
set_option maxHeartbeats 8000000 in
theorem efits_any (r : Bool) (hr : r = true ↔ FitE es) (w : World) (hT : DTab w) (hn : es.length = n) (hl : n ≤ 1000) (hS : Shps w w.heap.size A es) :
    Calls Tryd.prog 19 #[.slice A n c] w fun e w' => e = .returned (.bool r) ∧ Below w.heap.size w w' := by
  have K := Lib.hid (echeck_any (c := c) w hT hn hl hS)
  by_cases hM : MayE es
  · have KH := Lib.hid (fun W (b : Below w.heap.size w W) => ehor_any (c := c) W (hT.via b) hn hl (hS.via b))
    have KD := Lib.hid (fun t h0 h1 W (b : Below w.heap.size w W) => edem_any (c := c) t W hn (hS.via b) hM h0 h1)
    have KB := Lib.hid (fun t W (b : Below w.heap.size w W) => eblk_any (c := c) t W hn hl (hS.via b))
    have DB := Lib.hid (fun t (h0 : 0 ≤ t) => demE_le hM (t := t) h0)
    have BB := Lib.hid (fun t => blkE_le hM (t := t))
    have HR := Lib.hid (hr.trans (fit_iff hM))
    have hh := hor_le (L := es)
    obtain ⟨H, hH⟩ : ∃ H, H = horE es := ⟨_, rfl⟩
    rw [chkE_ok hM] at K
    rw [← hH] at KH HR hh
    obtain ⟨h0, h1⟩ := hh
    clear hS hT hn hl hM hH hr
    go_enter Tryd.func19, Tryd.ntmps19
    go_wp2_with fail
    refine K.out.mono ?_
    rintro e w1 ⟨rfl, b⟩
    have B := Lib.hid b
    clear b
    go_wp2_with fail
    refine (KH.out _ B.out).mono ?_
    rintro e w2 ⟨rfl, b⟩
    have B := Lib.hid (B.out.trans (b.mono B.out.size))
    clear b
    go_wp2_with fail
    go_loopw [4] (fun v wr => ∃ t : Int, 1 ≤ t ∧ t ≤ H + 1 ∧ v = .int .i64 t ∧ Hid (Below w.heap.size w wr) ∧ Hid (∀ u, 1 ≤ u → u < t → AtE es u)) (fun v _ => (H + 1 - intOf v).toNat)
    case atStart => exact ⟨1, by omega, by omega, rfl, B, Lib.hid (fun u a b => by omega)⟩
    case round =>
      obtain ⟨t, t0, t1, rfl, HI, HA⟩ := hrel
      by_cases hlt : t ≤ H
      · obtain ⟨d, hd⟩ : ∃ d, d = demE es t := ⟨_, rfl⟩
        obtain ⟨b, hb⟩ : ∃ b, b = blkE es t := ⟨_, rfl⟩
        have K1 := Lib.hid (KD.out t (by omega) (by omega) wr HI.out)
        have K2 := Lib.hid (fun W b => KB.out t W b)
        have D1 := DB.out t (by omega)
        have B1 := BB.out t
        have HAT : Hid (AtE es t ↔ (d = 0 ∨ d + b ≤ t)) := Lib.hid (by unfold AtE; rw [← hd, ← hb])
        have HRF := Lib.hid (fun (h : ¬ AtE es t) => (show r = false by
          rw [← Bool.not_eq_true]
          exact fun q => h (HR.out.mp q t t0 (by omega))))
        have HNX := Lib.hid (fun (h : AtE es t) => (show ∀ u, 1 ≤ u → u < t + 1 → AtE es u from fun u a q => by
          by_cases e : u = t
          · rw [e]; exact h
          · exact HA.out u a (by omega)))
        rw [← hd] at K1 D1
        rw [← hb] at K2 B1
        obtain ⟨d0, d1⟩ := D1
        obtain ⟨b0, b1⟩ := B1
        clear hd hb
        by_cases hz : d = 0
        · have HN2 := Lib.hid (HNX.out (HAT.out.mpr (.inl hz)))
          have hz2 : (d == 0) = true := by simpa using hz
          subst hz
          go_wp2_with fail
          refine K1.out.mono ?_
          rintro e w3 ⟨rfl, b⟩
          have HI := Lib.hid (HI.out.trans (b.mono HI.out.size))
          clear b
          go_wp2
          go_roundw
          case rel => exact ⟨t + 1, by omega, by omega, by go_num, HI, HN2⟩
          case measure => simp [intOf]; omega
        · have hz2 : (d == 0) = false := by simpa using hz
          by_cases hg : d + b ≤ t
          · have HN2 := Lib.hid (HNX.out (HAT.out.mpr (.inr hg)))
            go_wp2_with fail
            refine K1.out.mono ?_
            rintro e w3 ⟨rfl, b⟩
            have HI := Lib.hid (HI.out.trans (b.mono HI.out.size))
            clear b
            go_wp2_with fail
            refine (K2.out _ HI.out).mono ?_
            rintro e w4 ⟨rfl, b⟩
            have HI := Lib.hid (HI.out.trans (b.mono HI.out.size))
            clear b
            go_wp2
            go_roundw
            case rel => exact ⟨t + 1, by omega, by omega, by go_num, HI, HN2⟩
            case measure => simp [intOf]; omega
          · obtain rfl : r = false := HRF.out fun q => by rcases HAT.out.mp q with h | h <;> omega
            go_wp2_with fail
            refine K1.out.mono ?_
            rintro e w3 ⟨rfl, b⟩
            have HI := Lib.hid (HI.out.trans (b.mono HI.out.size))
            clear b
            go_wp2_with fail
            refine (K2.out _ HI.out).mono ?_
            rintro e w4 ⟨rfl, b⟩
            have HI := Lib.hid (HI.out.trans (b.mono HI.out.size))
            clear b
            go_wp2
            go_ret
            exact ⟨rfl, HI.out⟩
      · obtain rfl : r = true := HR.out.mpr fun u a q => HA.out u a (by omega)
        go_wp2
        go_ret
        exact ⟨rfl, HI.out⟩
  · obtain rfl : r = false := by
      rw [← Bool.not_eq_true]
      exact fun q => hM (hr.mp q).1
    rw [chkE_no hM] at K
    clear hS hT hn hl hM hr
    go_enter Tryd.func19, Tryd.ntmps19
    go_wp2_with fail
    refine K.out.mono ?_
    rintro e w1 ⟨rfl, b⟩
    have B := Lib.hid b
    clear b
    go_wp2
    go_ret
    exact ⟨rfl, B.out⟩
set_option maxRecDepth 100000 in
set_option maxHeartbeats 8000000 in
theorem rhor_any (w : World) (hn : es.length = n) (hl : n ≤ 1000) (hS : Shps w w.heap.size A es) :
    Calls Tryd.prog 16 #[.slice A n c] w fun e w' => e = .returned (.int .i64 (horE es)) ∧ Below w.heap.size w w' := by
  have KC := Lib.hid (fun W (b : Below w.heap.size w W) => rcheck15_any (c := c) W hn hl (hS.via b))
  have HT := Lib.hid hS
  have HN := Lib.hid hn
  by_cases hM : MayE es
  · rw [decide_eq_true hM] at KC
    have HE := Lib.hid (show horE es = maxE Shp.p (es.take n) by rw [List.take_of_length_le (by omega)]; exact if_pos hM)
    clear hS hn hM
    go_enter Tryd.func16, Tryd.ntmps16
    go_wp2
    go_loopw [3, 4] (fun v i wr => ∃ (k : Nat) (x : Int), k ≤ n ∧ i = .int .i64 k ∧ v = .int .i64 x ∧ Hid (x = maxE Shp.p (es.take k)) ∧ Hid (Below w.heap.size w wr)) (fun _ i _ => n - (intOf i).toNat)
    case atStart => exact ⟨0, 0, Nat.zero_le _, rfl, rfl, Lib.hid rfl, Lib.hid (Below.refl _ _)⟩
    case round =>
      obtain ⟨k, x, hk, rfl, rfl, HX, HI⟩ := hrel
      by_cases hlt : k < n
      · have HL := Lib.hid hlt
        go_wp2_with fail
        refine (KC.out _ HI.out).mono ?_
        rintro e w1 ⟨rfl, b⟩
        have HI := Lib.hid (HI.out.trans (b.mono HI.out.size))
        clear b
        obtain ⟨bk, off, st, sl, sm, sd, sp, rfl, hbg, hek, d1, d2, d3, d4, d5⟩ := (HT.out.below HI.out).at_ (k := k) (by rw [HN.out]; exact hlt)
        have HX2 := Lib.hid (show maxE Shp.p (es.take (k + 1)) = max x sp by rw [HX.out]; exact maxE_snoc hek)
        clear hek
        by_cases hxy : x < sp
        · have HX3 := Lib.hid (show sp = maxE Shp.p (es.take (k + 1)) by rw [HX2.out]; omega)
          clear HX2
          go_wp2
          go_roundw
          case rel => exact ⟨k + 1, sp, by omega, by go_num, by first | rfl | (simp; omega), HX3, HI⟩
          case measure => simp [intOf]; omega
        · have HX3 := Lib.hid (show x = maxE Shp.p (es.take (k + 1)) by rw [HX2.out]; omega)
          clear HX2
          go_wp2
          go_roundw
          case rel => exact ⟨k + 1, x, by omega, by go_num, by first | rfl | (simp; omega), HX3, HI⟩
          case measure => simp [intOf]; omega
      · have e : k = n := by omega
        subst e
        go_wp2
        go_ret
        exact ⟨by rw [HE.out, ← HX.out]; rfl, HI.out⟩
  · rw [decide_eq_false hM] at KC
    have HE := Lib.hid (show horE es = 0 from if_neg hM)
    rw [HE.out]
    clear hS hn hM
    go_enter Tryd.func16, Tryd.ntmps16
    go_wp2
    go_loopw [3, 4] (fun v i wr => i = .int .i64 (0 : Nat) ∧ v = .int .i64 0 ∧ Hid (Below w.heap.size w wr)) (fun _ i _ => n - (intOf i).toNat)
    case atStart => exact ⟨rfl, rfl, Lib.hid (Below.refl _ _)⟩
    case round =>
      obtain ⟨rfl, rfl, HI⟩ := hrel
      by_cases hlt : 0 < n
      · go_wp2_with fail
        refine (KC.out _ HI.out).mono ?_
        rintro e w1 ⟨rfl, b⟩
        have HI := Lib.hid (HI.out.trans (b.mono HI.out.size))
        clear b
        go_wp2
        go_ret
        exact ⟨rfl, HI.out⟩
      · have e : n = 0 := by omega
        subst e
        go_wp2
        go_ret
        exact ⟨rfl, HI.out⟩
set_option maxRecDepth 100000 in
set_option maxHeartbeats 8000000 in
theorem rfits_any (r : Bool) (hr : r = true ↔ FitE es) (w : World) (hn : es.length = n) (hl : n ≤ 1000) (hS : Shps w w.heap.size A es) :
    Calls Tryd.prog 20 #[.slice A n c] w fun e w' => e = .returned (.bool r) ∧ Below w.heap.size w w' := by
  have K := Lib.hid (rcheck15_any (c := c) w hn hl hS)
  by_cases hM : MayE es
  · have KH := Lib.hid (fun W (b : Below w.heap.size w W) => rhor_any (c := c) W hn hl (hS.via b))
    have KD := Lib.hid (fun t h0 h1 W (b : Below w.heap.size w W) => rdemand_any (c := c) t W hn (hS.via b) hM h0 h1)
    have KB := Lib.hid (fun t W (b : Below w.heap.size w W) => rblock_any (c := c) t W hn hl (hS.via b))
    have DB := Lib.hid (fun t (h0 : 0 ≤ t) => demE_le hM (t := t) h0)
    have BB := Lib.hid (fun t => blkE_le hM (t := t))
    have HR := Lib.hid (hr.trans (fit_iff hM))
    have hh := hor_le (L := es)
    obtain ⟨H, hH⟩ : ∃ H, H = horE es := ⟨_, rfl⟩
    rw [decide_eq_true hM] at K
    rw [← hH] at KH HR hh
    obtain ⟨h0, h1⟩ := hh
    clear hS hn hl hM hH hr
    go_enter Tryd.func20, Tryd.ntmps20
    go_wp2_with fail
    refine K.out.mono ?_
    rintro e w1 ⟨rfl, b⟩
    have B := Lib.hid b
    clear b
    go_wp2_with fail
    go_loopw [3] (fun v wr => ∃ t : Int, 1 ≤ t ∧ t ≤ H + 1 ∧ v = .int .i64 t ∧ Hid (Below w.heap.size w wr) ∧ Hid (∀ u, 1 ≤ u → u < t → AtE es u)) (fun v _ => (H + 1 - intOf v).toNat)
    case atStart => exact ⟨1, by omega, by omega, rfl, B, Lib.hid (fun u a b => by omega)⟩
    case round =>
      obtain ⟨t, t0, t1, rfl, HI, HA⟩ := hrel
      go_wp2_with fail
      refine (KH.out _ HI.out).mono ?_
      rintro e w2 ⟨rfl, b⟩
      have HI := Lib.hid (HI.out.trans (b.mono HI.out.size))
      clear b
      by_cases hlt : t ≤ H
      · obtain ⟨d, hd⟩ : ∃ d, d = demE es t := ⟨_, rfl⟩
        obtain ⟨b, hb⟩ : ∃ b, b = blkE es t := ⟨_, rfl⟩
        have K1 := Lib.hid (KD.out t (by omega) (by omega) _ HI.out)
        have K2 := Lib.hid (fun W b => KB.out t W b)
        have D1 := DB.out t (by omega)
        have B1 := BB.out t
        have HAT : Hid (AtE es t ↔ (d = 0 ∨ d + b ≤ t)) := Lib.hid (by unfold AtE; rw [← hd, ← hb])
        have HRF := Lib.hid (fun (h : ¬ AtE es t) => (show r = false by
          rw [← Bool.not_eq_true]
          exact fun q => h (HR.out.mp q t t0 (by omega))))
        have HNX := Lib.hid (fun (h : AtE es t) => (show ∀ u, 1 ≤ u → u < t + 1 → AtE es u from fun u a q => by
          by_cases e : u = t
          · rw [e]; exact h
          · exact HA.out u a (by omega)))
        rw [← hd] at K1 D1
        rw [← hb] at K2 B1
        obtain ⟨d0, d1⟩ := D1
        obtain ⟨b0, b1⟩ := B1
        clear hd hb
        by_cases hz : d = 0
        · have HN2 := Lib.hid (HNX.out (HAT.out.mpr (.inl hz)))
          subst hz
          go_wp2_with fail
          refine K1.out.mono ?_
          rintro e w3 ⟨rfl, b⟩
          have HI := Lib.hid (HI.out.trans (b.mono HI.out.size))
          clear b
          go_wp2
          go_roundw
          case rel => exact ⟨t + 1, by omega, by omega, by go_num, HI, HN2⟩
          case measure => simp [intOf]; omega
        · have hz3 : 0 < d := by omega
          by_cases hg : d + b ≤ t
          · have HN2 := Lib.hid (HNX.out (HAT.out.mpr (.inr hg)))
            go_wp2_with fail
            refine K1.out.mono ?_
            rintro e w3 ⟨rfl, b⟩
            have HI := Lib.hid (HI.out.trans (b.mono HI.out.size))
            clear b
            go_wp2_with fail
            refine (K2.out _ HI.out).mono ?_
            rintro e w4 ⟨rfl, rfl⟩
            go_wp2
            go_roundw
            case rel => exact ⟨t + 1, by omega, by omega, by go_num, HI, HN2⟩
            case measure => simp [intOf]; omega
          · obtain rfl : r = false := HRF.out fun q => by rcases HAT.out.mp q with h | h <;> omega
            go_wp2_with fail
            refine K1.out.mono ?_
            rintro e w3 ⟨rfl, b⟩
            have HI := Lib.hid (HI.out.trans (b.mono HI.out.size))
            clear b
            go_wp2_with fail
            refine (K2.out _ HI.out).mono ?_
            rintro e w4 ⟨rfl, rfl⟩
            go_wp2
            go_ret
            exact ⟨rfl, HI.out⟩
      · obtain rfl : r = true := HR.out.mpr fun u a q => HA.out u a (by omega)
        go_wp2
        go_ret
        exact ⟨rfl, HI.out⟩
  · obtain rfl : r = false := by
      rw [← Bool.not_eq_true]
      exact fun q => hM (hr.mp q).1
    rw [decide_eq_false hM] at K
    clear hS hn hl hM hr
    go_enter Tryd.func20, Tryd.ntmps20
    go_wp2_with fail
    refine K.out.mono ?_
    rintro e w1 ⟨rfl, b⟩
    have B := Lib.hid b
    clear b
    go_wp2
    go_ret
    exact ⟨rfl, B.out⟩
set_option maxHeartbeats 4000000 in
theorem own15_any (w : World) (hn : es.length = n) (hl : n ≤ 1000) (hS : Shps w w.heap.size A es) (hA : A = none → n = 0 ∧ c = 0) :
    Calls Tryd.prog 11 #[.slice A n c] w (GotShps es w) := by
  have b0 : Below w.heap.size w (w.alloc (.cells #[] 34)) := below_alloc _
  obtain ⟨A1, c1, w', hr, ho, hb⟩ := fresh_shps (w := w.alloc (.cells #[] 34)) (base := w.heap.size) ⟨w.heap.size, rfl, heap_alloc_new w _, Nat.le_refl _⟩ (by simp) (c := c) hn hl (hS.via b0) hA
  have HO := Lib.hid ho
  have HB := Lib.hid (b0.trans (hb.mono b0.size))
  unfold GotShps
  rw [hn]
  clear hS hA ho hb b0 hn
  go_enter Tryd.func11, Tryd.ntmps11
  go_wp2_with (at_builtin; refine wpList_append_plainS rfl _ _ 22 _ _ rfl rfl rfl hr ?_)
  go_ret
  exact ⟨A1, c1, rfl, HO.out, HB.out⟩
theorem own15n (w : World) (hn : es.length = n) (hl : n ≤ 1000) (hS : Shps w w.heap.size A es) (hA : A = none → n = 0 ∧ c = 0) :
    Calls Tryd.prog 11 #[.slice A n c] w fun e w' => ∃ A1 c1, e = .returned (.slice A1 n c1) ∧ OwnS w' w.heap.size (.slice A1 n c1) es ∧ Below w.heap.size w w' := by
  have h := own15_any (c := c) w hn hl hS hA
  unfold GotShps at h
  rw [hn] at h
  exact h
end
theorem fitB (es : List Shp) : ∃ r : Bool, r = true ↔ FitE es := by
  by_cases h : FitE es
  · exact ⟨true, fun _ => h, fun _ => rfl⟩
  · exact ⟨false, fun q => Bool.noConfusion q, fun q => absurd q h⟩
end Go.Proofs.YtohgdeddepfanaaDoor
