/- The walk of the law PartFirst, in the seat YtngdbbligebcbaaDoor. No statement is proved here. -/
import Derived.Test.YtngdbbligebcbaaDoorZPartOrderWalk
set_option linter.unusedSimpArgs false
set_option linter.unusedVariables false
set_option linter.unusedSimpArgs false
namespace Go.Proofs.YtngdbbligebcbaaDoor
open Go Go.RowKit

theorem plc_step {es : List Shp} {m : Nat} {i : Nat} {o : List Nat} {S L : List Int} (h : Plc es m (i :: o) S (some L)) (hok : OnOk es m (i :: o) S) :
    ∃ c : Nat, fstP (FitP es S i) m c ∧ Plc es m o (S.set i (c : Int)) (some L) ∧ OnOk es m o (S.set i (c : Int)) ∧ L[i]? = some (c : Int) := by
  cases h with
  | @next _ c _ _ _ h2 hr =>
    have hok2 := hok.next h2.2.1 h2.1
    refine ⟨c, h2, hr, hok2, ?_⟩
    have hi := hok.no i (List.mem_cons_self ..)
    have hl := (List.getElem?_eq_some_iff.mp hi).1
    rw [Plc.keep hr rfl i (List.nodup_cons.mp hok.nd).1, List.getElem?_set_self hl]
theorem plc_first {es : List Shp} {m : Nat} {L : List Int} (h : PlcP es m (some L)) (hM : MayE es) (hne : 0 < es.length) : ∃ i0, (ordP es)[0]? = some i0 ∧ L[i0]? = some 0 := by
  have hl : (ordP es).length = es.length := ordO_len _
  have hok := plcP_ok es m
  unfold PlcP at h
  cases ho : ordP es with
  | nil => rw [ho] at hl; simp at hl; omega
  | cons i o =>
    rw [ho] at h hok
    obtain ⟨c, hc, _, _, hL⟩ := plc_step h hok
    have hi := hok.lt i (List.mem_cons_self ..)
    have h0 : c = 0 := by
      apply Nat.eq_zero_of_not_pos
      intro hp
      refine hc.2.2 0 hp ⟨es[i], List.getElem?_eq_getElem hi, ?_⟩
      rw [onP_none (fun x hx => by rw [(List.mem_replicate.mp hx).2]; omega)]
      exact fit_alone (hM.2 _ (List.getElem_mem hi))
    exact ⟨i, rfl, by rw [hL, h0]; rfl⟩
/-- Below a shape's core it doesn't fit. -/
theorem plc_not {es : List Shp} {m : Nat} {i j : Nat} {o : List Nat} {S : List Int} (hok : OnOk es m (i :: o) S) (h : ¬ FitP es S i j) : ¬ FitE (onP es (S.set i (j : Int)) (j : Int)) := fun hF => by
  have hi := hok.lt i (List.mem_cons_self ..)
  have h0 := hok.no i (List.mem_cons_self ..)
  exact h ⟨es[i], List.getElem?_eq_getElem hi, fit_perm hF (onP_put (List.getElem?_eq_getElem hi) h0 (by omega))⟩
theorem Ints.cell16 {w : World} {B : Nat} {A : Option Addr} {zs : List Int} (h : Ints w B A zs) {k : Nat} {z : Int} (hk : zs[k]? = some z) : ∃ b off, A = some ⟨b, off, none⟩ ∧ b < B ∧ w.cell? ⟨b, off + k, none⟩ = some (.int .i64 z) := by
  obtain ⟨b, off, z', e, hb, hz, hc⟩ := h.at_ (k := k) (List.getElem?_eq_some_iff.1 hk).1
  rw [hz] at hk
  rw [← Option.some.inj hk]
  exact ⟨b, off, e, hb, hc⟩
set_option maxRecDepth 100000 in
set_option maxHeartbeats 32000000 in
theorem law_PartFirst {A : Option Addr} {n c : Nat} {es : List Shp} (m : Int) (w : World) (hT : DTab w) (hn : es.length = n) (hS : Shps w w.heap.size A es) (hA : A = none → n = 0 ∧ c = 0) :
    Calls Tryd.prog 7 #[.slice A n c, .int .i64 m] w fun e w' => e = .returned (.bool true) ∧ Below w.heap.size w w' := by
  have AW := Lib.hid (fun W (b : Below w.heap.size w W) => awake16_any W (hT.via b))
  have HI := Lib.hid (Below.refl w.heap.size w)
  by_cases hl20 : n ≤ 20
  · have hl : n ≤ 1000 := by omega
    obtain ⟨L, er, hP⟩ := plcA_is es m
    have OW := Lib.hid (fun W (b : Below w.heap.size w W) => own15n (c := c) W hn hl (hS.via b) hA)
    have KP := Lib.hid (fun A1 c1 W (b : Below w.heap.size w W) (h : Shps W W.heap.size A1 es) => place_any (c := c1) m hP W (hT.via b) hn hl h)
    by_cases h0 : er = 0
    · subst h0
      obtain ⟨hM, hm0, hm8, hPlc, hR⟩ := hP.zero rfl
      have hLn : L.length = n := by rw [hR.len, hn]
      rcases Nat.eq_zero_or_pos n with hz | hz
      · subst hz
        clear hS hA hT hn hP hl hR hPlc hM hLn
        go_enter Tryd.func7, Tryd.ntmps7
        go_wp2_with fail
        refine (AW.out _ HI.out).mono ?_
        rintro e w1 ⟨rfl, b⟩
        have HI := Lib.hid (HI.out.trans (b.mono HI.out.size))
        clear b
        go_wp2_with fail
        refine (OW.out _ HI.out).mono ?_
        rintro e w2 ⟨A2, c2, rfl, ho, b⟩
        have HO := Lib.hid (ho.down (Nat.zero_le _))
        have HI := Lib.hid (HI.out.trans (b.mono HI.out.size))
        clear b ho
        go_wp2_with fail
        refine (KP.out _ _ _ HI.out HO.out.shps).mono ?_
        rintro e w3 ⟨A3, n3, c3, rfl, hna, ho, b⟩
        have HI := Lib.hid (HI.out.trans (b.mono HI.out.size))
        clear b ho HO hna
        go_wp2
        go_ret
        exact ⟨rfl, HI.out⟩
      · have KO := Lib.hid (fun A1 c1 W (h1 : Shps W W.heap.size A1 es) => order_any (c := c1) W hn (by omega) h1)
        have KN := Lib.hid (fun (j : Int) S A1 c1 A2 c2 W (h1 : Shps W W.heap.size A1 es) (h2 : Ints W W.heap.size A2 S) (h3 : S.length = n) => on_n (c := c1) (d := c2) j W hn (by omega) h1 h3 (by omega) h2)
        have KF := Lib.hid (fun (L1 : List Shp) (hx : ¬ FitE L1) A1 n1 c1 W (b : Below w.heap.size w W) (h1 : L1.length = n1) (h2 : n1 ≤ 1000) (h3 : Shps W W.heap.size A1 L1) => efits_any (c := c1) false ⟨fun q => Bool.noConfusion q, fun q => absurd q hx⟩ W (hT.via b) h1 h2 h3)
        obtain ⟨ord, hord⟩ : ∃ o, o = ordP es := ⟨_, rfl⟩
        have hol : ord.length = n := by rw [hord, ← hn]; exact ordO_len _
        have HFS : Hid (∃ i0, ord[0]? = some i0 ∧ L[i0]? = some 0 ∧ i0 < n) := Lib.hid (by
          obtain ⟨i0, h1, h2⟩ := plc_first hPlc hM (by omega)
          exact ⟨i0, by rw [hord]; exact h1, h2, by rw [← hLn]; exact (List.getElem?_eq_some_iff.mp h2).1⟩)
        have HOK : Hid (OnOk es m.toNat (ord.drop 0) (List.replicate n (-1))) := Lib.hid (by rw [hord, ← hn]; exact plcP_ok es m.toNat)
        have HPL : Hid (Plc es m.toNat (ord.drop 0) (List.replicate n (-1)) (some L)) := Lib.hid (by
          have h := hPlc
          unfold PlcP at h
          rw [hord, ← hn]; exact h)
        have HON : Hid (∀ i ∈ ord, i < n) := Lib.hid (fun i hi => by rw [hord] at hi; rw [← hn]; exact ordO_mem.mp hi)
        rw [show ordO (totE es) n = ord by rw [hord, ← hn]; rfl] at KO
        have HLN := Lib.hid (show L.length = n ∧ n ≤ 20 ∧ ord.length = n from ⟨hLn, hl20, hol⟩)
        have hM8 := Lib.hid (show m.toNat ≤ 8 by omega)
        clear hS hA hT hn hP hl hR hPlc hM hLn hord hol
        go_enter Tryd.func7, Tryd.ntmps7
        go_wp2_with fail
        refine (AW.out _ HI.out).mono ?_
        rintro e w1 ⟨rfl, b⟩
        have HI := Lib.hid (HI.out.trans (b.mono HI.out.size))
        clear b
        go_wp2_with fail
        refine (OW.out _ HI.out).mono ?_
        rintro e w2 ⟨A2, c2, rfl, ho, b⟩
        have HO := Lib.hid (ho.down (Nat.zero_le _))
        have HI := Lib.hid (HI.out.trans (b.mono HI.out.size))
        clear b ho
        go_wp2_with fail
        refine (KP.out _ _ _ HI.out HO.out.shps).mono ?_
        rintro e w3 ⟨A3, n3, c3, rfl, hna, ho, b⟩
        obtain rfl : n = n3 := by have := HLN.out; omega
        have HAt := Lib.hid (ho.down (Nat.zero_le _))
        have HI := Lib.hid (HI.out.trans (b.mono HI.out.size))
        clear b ho HO hna
        go_wp2_with fail
        refine (OW.out _ HI.out).mono ?_
        rintro e w4 ⟨A4, c4, rfl, ho, b⟩
        have HO := Lib.hid (ho.down (Nat.zero_le _))
        have HAt := Lib.hid (HAt.out.below b)
        have HI := Lib.hid (HI.out.trans (b.mono HI.out.size))
        clear b ho
        go_wp2_with fail
        refine (KO.out _ _ _ HO.out.shps).mono ?_
        rintro e w5 ⟨g, rfl, ho, b⟩
        have HOr := Lib.hid (ho.down (Nat.zero_le _))
        have HAt := Lib.hid (HAt.out.below b)
        have HI := Lib.hid (HI.out.trans (b.mono HI.out.size))
        clear b ho HO
        obtain ⟨B, hB⟩ : ∃ B, B = w5.heap.size := ⟨_, rfl⟩
        have HIA : Hid (Ints w5 B A3 L ∧ Ints w5 B (some ⟨g, 0, none⟩) (nums ord)) := Lib.hid (by rw [hB]; exact ⟨HAt.out.ints, HOr.out.ints⟩)
        have HBI : Hid (w.heap.size ≤ B) := Lib.hid (by rw [hB]; exact HI.out.size)
        have HB6 : Hid (Below B w5 (w5.alloc (.cells #[] 3))) := Lib.hid (by rw [hB]; exact below_alloc _)
        have HS6 : Hid (OwnI (w5.alloc (.cells #[] 3)) B (.slice (some ⟨w5.heap.size, 0, none⟩) 0 0) (List.replicate 0 (-1))) := Lib.hid (by rw [hB]; exact OwnI.new w5 _ (Nat.le_refl _))
        have HB5 := Lib.hid hB
        clear HAt HOr hB
        go_wp2
        go_loopw [8, 9] (fun v i wr => ∃ (j : Nat) (A8 : Option Addr) (c8 : Nat), j ≤ n ∧ v = .slice A8 j c8 ∧ i = .int .i64 j ∧ Hid (OwnI wr B (.slice A8 j c8) (List.replicate j (-1))) ∧ Hid (Below B w5 wr)) (fun _ i _ => n - (intOf i).toNat)
        case atStart => exact ⟨0, _, 0, Nat.zero_le _, rfl, rfl, HS6, HB6⟩
        case round =>
          clear HS6 HB6
          obtain ⟨j, A8, c8, hj, rfl, rfl, HS, HB⟩ := hrel
          by_cases hlt : j < n
          · go_wp2_with (at_builtin; refine wpList_push rfl _ _ rfl wr B _ (List.replicate j (-1)) (-1) j (by simp) (by omega) HS.out (by have := HB.out.size; have := HB5.out; omega) rfl rfl ?_; intro A' c' w7 hO7 hb7; have HS7 := Lib.hid hO7; have HB7 := Lib.hid (HB.out.trans hb7); clear hO7 hb7)
            go_roundw
            case rel => exact ⟨j + 1, A', c', by omega, rfl, by go_num, Lib.hid (by rw [List.replicate_succ']; exact HS7.out), HB7⟩
            case measure => simp [intOf]; omega
          · obtain rfl : n = j := by omega
            obtain ⟨gs, rfl, hgs, hgl⟩ := HS.out.someC (by simp; omega)
            have HGS := Lib.hid hgs
            clear hgs hgl
            go_wp2
            go_loopw [10] (fun v wo => ∃ (k : Nat) (S : List Int), k ≤ n ∧ v = .int .i64 k ∧ Hid (OwnI wo B (.slice (some ⟨gs, 0, none⟩) n c8) S) ∧ Hid (Below B w5 wo) ∧ Hid (OnOk es m.toNat (ord.drop k) S) ∧ Hid (Plc es m.toNat (ord.drop k) S (some L))) (fun v _ => n - (intOf v).toNat)
            case atStart => exact ⟨0, _, Nat.zero_le _, rfl, HS, HB, HOK, HPL⟩
            case round =>
              clear HS HB HOK HPL
              obtain ⟨k, S, hk, rfl, HS, HB, HOK, HPL⟩ := hrel
              by_cases hlt2 : k < n
              · obtain ⟨i, hi⟩ : ∃ i, ord[k]? = some i := ⟨_, List.getElem?_eq_getElem (by have := HLN.out; omega)⟩
                have hin : i < n := HON.out i (List.mem_of_getElem? hi)
                have hdr : ord.drop k = i :: ord.drop (k + 1) := by
                  have hl := (List.getElem?_eq_some_iff.mp hi).1
                  rw [List.drop_eq_getElem_cons hl, (List.getElem?_eq_some_iff.mp hi).2]
                rw [hdr] at HOK HPL
                obtain ⟨cc, hfst, hplc, hok, hLi⟩ := plc_step HPL.out HOK.out
                have HFST := Lib.hid hfst
                have HPL2 := Lib.hid hplc
                have HOK2 := Lib.hid hok
                have HLI := Lib.hid hLi
                have HCC : Hid (cc ≤ 8) := Lib.hid (by have := hfst.1; have := hM8.out; omega)
                have hcc8 := HCC.out
                have HSL : Hid (S.length = n) := HS.out.len_eq |> Lib.hid
                obtain ⟨bo, oo, e0, _, d0⟩ := (HIA.out.2.below HB.out).cell16 (num_at hi)
                injection e0 with e0
                injection e0 with e1 e2
                subst e1 e2
                rw [Nat.zero_add] at d0
                obtain ⟨ab, ao, rfl, hab, d3⟩ := (HIA.out.1.below HB.out).cell16 hLi
                have HS0 : Hid (OwnI wr B (.slice (some ⟨gs, 0, none⟩) n c8) (S.set i (-1))) := Lib.hid (by
                  have h0 := HOK.out.no i (List.mem_cons_self ..)
                  obtain ⟨hl, e⟩ := List.getElem?_eq_some_iff.mp h0
                  rw [← e, List.set_getElem_self]
                  exact HS.out)
                clear hi hdr hfst hplc hok hLi hab
                go_wp2
                go_loopw [12] (fun v wi => ∃ (j : Nat) (z : Int), j ≤ cc ∧ v = .int .i64 j ∧ Hid (OwnI wi B (.slice (some ⟨gs, 0, none⟩) n c8) (S.set i z)) ∧ Hid (Below B w5 wi)) (fun v _ => cc - (intOf v).toNat)
                case atStart => exact ⟨0, -1, Nat.zero_le _, rfl, HS0, HB⟩
                case round =>
                  clear HS0 HS HB d0 d3
                  obtain ⟨j, z, hj, rfl, HS, HB⟩ := hrel
                  obtain ⟨ab2, ao2, e3, _, d3⟩ := (HIA.out.1.below HB.out).cell16 HLI.out
                  injection e3 with e3
                  injection e3 with e4 e5
                  subst e4 e5
                  obtain ⟨zz, hzz⟩ := HS.out.cellC (j := i) (by rw [List.length_set, HSL.out]; exact hin)
                  have hfz := HS.out.frozenC i
                  by_cases hlt3 : j < cc
                  · obtain ⟨ws, hws⟩ : ∃ ws, ws = wr.setCell ⟨gs, i, none⟩ (.int .i64 (j : Int)) := ⟨_, rfl⟩
                    have HSs : Hid (OwnI ws B (.slice (some ⟨gs, 0, none⟩) n c8) (S.set i (j : Int))) := Lib.hid (by
                      have h := ownI_setC HS.out (j := i) (by rw [List.length_set, HSL.out]; exact hin) (j : Int)
                      rw [List.set_set, ← hws] at h
                      exact h)
                    have HBs : Hid (Below B w5 ws) := Lib.hid (by rw [hws]; exact HB.out.setCell (p := ⟨gs, i, none⟩) HGS.out _)
                    have HIs := Lib.hid (HI.out.trans (HBs.out.mono HBI.out))
                    have HWS := Lib.hid hws
                    have HNF := Lib.hid (plc_not HOK.out (HFST.out.2.2 j hlt3))
                    have HJ := Lib.hid hlt3
                    clear hws
                    go_wp2_with fail
                    rw [← HWS.out]
                    refine (OW.out _ HIs.out).mono ?_
                    rintro e w7 ⟨A7, c7, rfl, ho, b⟩
                    have HO7 := Lib.hid ho
                    have HSs := Lib.hid (HSs.out.below b)
                    have HBs := Lib.hid (HBs.out.trans (b.mono (by have := HBs.out.size; have := HB5.out; omega)))
                    have HIs := Lib.hid (HIs.out.trans (b.mono HIs.out.size))
                    clear b ho
                    obtain ⟨A9, c9, w9, hr9, ho9, b9⟩ := fresh16 _ _ _ _ _ (show (S.set i (j : Int)).length = n by rw [List.length_set, HSL.out]) (by omega) HSs.out.ints HSs.out.non16
                    have HR9 := Lib.hid hr9
                    have HO9 := Lib.hid ho9
                    have HO7 := Lib.hid (HO7.out.below b9)
                    have HSs := Lib.hid (HSs.out.below b9)
                    have HBs := Lib.hid (HBs.out.trans (b9.mono (by have := HBs.out.size; have := HB5.out; omega)))
                    have HIs := Lib.hid (HIs.out.trans (b9.mono HIs.out.size))
                    clear hr9 ho9 b9
                    go_wp2_with (at_builtin; refine wpList_append_plain rfl _ _ 24 _ _ rfl rfl rfl HR9.out ?_)
                    refine (KN.out (j : Int) (S.set i (j : Int)) _ _ _ _ _ HO7.out.shps HO9.out.ints (by rw [List.length_set, HSL.out])).mono ?_
                    rintro e w10 ⟨A10, n10, c10, rfl, hle, hln, ho, b⟩
                    have HL10 := Lib.hid (show (onP es (S.set i (j : Int)) (j : Int)).length = n10 ∧ n10 ≤ 1000 from ⟨hln, by omega⟩)
                    have HO10 := Lib.hid ho
                    have HSs := Lib.hid (HSs.out.below b)
                    have HBs := Lib.hid (HBs.out.trans (b.mono (by have := HBs.out.size; have := HB5.out; omega)))
                    have HIs := Lib.hid (HIs.out.trans (b.mono HIs.out.size))
                    clear b ho hle hln HO7 HO9
                    go_wp2_with fail
                    refine (KF.out _ HNF.out _ _ _ _ HIs.out HL10.out.1 HL10.out.2 HO10.out.shps).mono ?_
                    rintro e w11 ⟨rfl, b⟩
                    have HSs := Lib.hid (HSs.out.below b)
                    have HBs := Lib.hid (HBs.out.trans (b.mono (by have := HBs.out.size; have := HB5.out; omega)))
                    clear b HO10
                    have hj3 := HJ.out
                    go_wp2
                    go_roundw
                    case rel => exact ⟨j + 1, (j : Int), by have := HJ.out; omega, by go_num, HSs, HBs⟩
                    case measure => simp [intOf]; have := HJ.out; omega
                  · obtain rfl : cc = j := by omega
                    have HN2 : Hid (OwnI (wr.setCell ⟨gs, i, none⟩ (.int .i64 (cc : Int))) B (.slice (some ⟨gs, 0, none⟩) n c8) (S.set i (cc : Int))) := Lib.hid (by
                      have h := ownI_setC HS.out (j := i) (by rw [List.length_set, HSL.out]; exact hin) (cc : Int)
                      rw [List.set_set] at h
                      exact h)
                    have HB2 : Hid (Below B w5 (wr.setCell ⟨gs, i, none⟩ (.int .i64 (cc : Int)))) := Lib.hid (HB.out.setCell (p := ⟨gs, i, none⟩) HGS.out _)
                    have hk2 := hlt2
                    go_wp2
                    go_roundw
                    case rel => exact ⟨k + 1, _, by omega, by go_num, HN2, HB2, HOK2, HPL2⟩
                    case measure => simp [intOf]; omega
              · obtain rfl : n = k := by omega
                obtain ⟨i0, h1, h2, hi0⟩ := HFS.out
                obtain ⟨bo, oo, e0, _, d0⟩ := (HIA.out.2.below HB.out).cell16 (num_at h1)
                injection e0 with e0
                injection e0 with e1 e2
                subst e1 e2
                obtain ⟨ab, ao, rfl, _, d3⟩ := (HIA.out.1.below HB.out).cell16 h2
                have HIs := Lib.hid (HI.out.trans (HB.out.mono HBI.out))
                clear h1 h2
                simp only [Nat.add_zero] at d0
                go_wp2
                go_ret
                exact ⟨rfl, HIs.out⟩
    · obtain ⟨rfl, _⟩ := hP.non h0
      have hne : (er != 0) = true := by simpa using h0
      clear hS hA hT hn hP hl
      go_enter Tryd.func7, Tryd.ntmps7
      go_wp2_with fail
      refine (AW.out _ HI.out).mono ?_
      rintro e w1 ⟨rfl, b⟩
      have HI := Lib.hid (HI.out.trans (b.mono HI.out.size))
      clear b
      go_wp2_with fail
      refine (OW.out _ HI.out).mono ?_
      rintro e w2 ⟨A2, c2, rfl, ho, b⟩
      have HO := Lib.hid (ho.down (Nat.zero_le _))
      have HI := Lib.hid (HI.out.trans (b.mono HI.out.size))
      clear b ho
      go_wp2_with fail
      refine (KP.out _ _ _ HI.out HO.out.shps).mono ?_
      rintro e w3 ⟨A3, n3, c3, rfl, hna, ho, b⟩
      have HI := Lib.hid (HI.out.trans (b.mono HI.out.size))
      clear b ho HO hna
      go_wp2
      go_ret
      exact ⟨rfl, HI.out⟩
  · clear hS hA hT hn
    have hl20 : 20 < n := by omega
    go_enter Tryd.func7, Tryd.ntmps7
    go_wp2_with fail
    refine (AW.out _ HI.out).mono ?_
    rintro e w1 ⟨rfl, b⟩
    have HI := Lib.hid (HI.out.trans (b.mono HI.out.size))
    clear b
    go_wp2_with fail
    refine (AW.out _ HI.out).mono ?_
    rintro e w2 ⟨rfl, b⟩
    have HI := Lib.hid (HI.out.trans (b.mono HI.out.size))
    clear b
    go_wp2
    go_ret
    exact ⟨rfl, HI.out⟩
end Go.Proofs.YtngdbbligebcbaaDoor
