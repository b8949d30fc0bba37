import Derived.Test.YtlfekmbalgkmeaaGreatDoorXAdmMoreWalk
import Derived.Test.YtlfekmbalgkmeaaGreatDoorXM37
import Derived.Test.YtlfekmbalgkmeaaGreatDoorXAdmSoundR
import Derived.Test.YtlfekmbalgkmeaaGreatDoorXM5
set_option linter.unusedSimpArgs false
set_option linter.unnecessarySimpa false
set_option linter.unusedVariables false
set_option maxRecDepth 100000
set_option maxHeartbeats 32000000
namespace Go.Proofs.YtlfekmbalgkmeaaGreatDoor
open Go Go.RowKit
theorem law_AdmitSound {A : Option Addr} {n c : Nat} {l : List (Sh × Task)} (m t : Int) (w : World) (hT : DTab w) (hn : l.length = n) (h : InTs w A l) (hA : A = none -> n = 0 /\ c = 0) (hc : n <= c) (hm : -9223372036854775808 <= m /\ m <= 9223372036854775807) :
    Calls Tryz.prog 5 #[.slice A n c, .int .i64 m, .int .i64 t] w fun e w' => e = .returned (.bool true) /\ Below w.heap.size w w' := by
  have AW := Lib.hid (fun W (b : Below w.heap.size w W) => awake17_any W (hT.via b))
  have HI := Lib.hid (Below.refl w.heap.size w)
  by_cases hf : FewTs l
  · have FW := Lib.hid (fun W (b : Below w.heap.size w W) => fewts_any (c := c) W hn (h.via b) true ⟨fun _ => hf, fun _ => rfl⟩)
    obtain ⟨S, C, er, hA0⟩ := admA_is (pairT l) m
    have h12 : n <= 12 := by have := hf.1; omega
    have TT := Lib.hid (fun W (b : Below w.heap.size w W) => (hT.via b : DTab W))
    have TS := Lib.hid (fun W (b : Below w.heap.size w W) => (h.via b).isTs (hT.via b) hf.2)
    have OW := Lib.hid (fun W (b : Below w.heap.size w W) => owns_ts (c := c) W hn h12 ((h.via b).isTs (hT.via b) hf.2) (hT.via b) hf.2)
    have KP := Lib.hid (fun F d (l' : List (Sh × Task)) W (b : Below w.heap.size w W) (hl : l'.length = n) (hp : pairT l' = pairT l) (ht : IsTs W F l') => admit_any (A := F) (n := n) (c := d) (l := l') (m := m) (S := S) (C := C) (er := er) W hl (by omega) ht (hT.via b) (by rw [hp]; exact hA0))
    have HN := Lib.hid (show l.length = n /\ n <= 12 from ⟨hn, h12⟩)
    have HA0 := Lib.hid hA0
    have HFP := Lib.hid hA0.few
    clear hA0 h hT hn hf hA hc hm
    go_enter Tryz.func5, Tryz.ntmps5
    go_wp2_with fail
    refine (AW.out _ HI.out).mono ?_
    rintro e v1 ⟨rfl, b⟩
    have HI := Lib.hid (HI.out.trans (b.mono HI.out.size))
    clear b
    go_wp2_with fail
    refine (FW.out _ HI.out).mono ?_
    rintro e v2 ⟨rfl, b⟩
    have HI := Lib.hid (HI.out.trans (b.mono HI.out.size))
    clear b
    go_wp2_with fail
    refine (OW.out _ HI.out).mono ?_
    rintro e o3 ⟨F3, d3, l3, rfl, hl, hp, hts, hz, b⟩
    have HI := Lib.hid (HI.out.trans (b.mono HI.out.size))
    have KP3 := Lib.hid (KP.out F3 d3 l3 o3 HI.out hl hp hts)
    clear b hl hp hts hz
    go_wp2_with fail
    refine KP3.out.mono ?_
    rintro e p3 ⟨A1, n1, c1, A2, n2, c2, rfl, hP, b⟩
    have HI := Lib.hid (HI.out.trans (b.mono HI.out.size))
    have HP := Lib.hid hP
    clear b KP3 hP KP OW h12
    have hb : Below p3.heap.size p3 (p3.alloc (.cells #[.slice A1 n1 c1, .slice A2 n2 c2] 28)) := below_alloc _
    have HI := Lib.hid (HI.out.trans (hb.mono HI.out.size))
    have HP := Lib.hid (HP.out.via hb)
    have HRW := Lib.hid (RowV.new p3 28 [.slice A1 n1 c1, .slice A2 n2 c2])
    clear hb
    by_cases h0 : er = 0
    · subst h0
      obtain ⟨LL, hOk⟩ := HA0.out.zero rfl
      have hSl : S.length = n := by rw [hOk.len.1, pairT_len, HN.out.1]
      have hCl : C.length = n := by rw [hOk.len.2.1, pairT_len, HN.out.1]
      obtain ⟨mm, rfl⟩ : ∃ mm : Nat, m = (mm : Int) := ⟨m.toNat, by have := hOk.may.2; omega⟩
      have HMM := Lib.hid (show 1 <= mm /\ mm <= 8 from by have := hOk.may.2; omega)
      have HOK := Lib.hid hOk
      have HSL := Lib.hid (show S.length = n /\ C.length = n from ⟨hSl, hCl⟩)
      obtain rfl : n = n1 := by have := HP.out.l1; omega
      obtain rfl : n = n2 := by have := HP.out.l2; omega
      obtain ⟨q0, hq0⟩ : ∃ q, q = p3.heap.size := ⟨_, rfl⟩
      have HQ0 := Lib.hid hq0
      obtain ⟨w5, hw5⟩ : ∃ w5, w5 = p3.alloc (.cells #[.slice A1 n c1, .slice A2 n c2] 28) := ⟨_, rfl⟩
      have HLT := Lib.hid (show q0 < w5.heap.size by rw [hw5, hq0]; simp)
      rw [<- hw5] at HP HI
      rw [<- hw5, <- hq0] at HRW
      have hs5 : w5.heap.size = p3.heap.size + 1 := by rw [hw5]; simp
      have HO := Lib.hid (show OwnI (w5.alloc (.cells #[] 3)) w5.heap.size (.slice (some ⟨w5.heap.size, 0, none⟩) 0 0) (upto 0 0) from ⟨rfl, .inr ⟨w5.heap.size, 0, #[], rfl, Nat.le_refl _, heap_alloc_new w5 _, Nat.le_refl _, by simp [maxLen], rfl, rfl⟩⟩)
      have be : Below w5.heap.size w5 (w5.alloc (.cells #[] 3)) := below_alloc _
      have S0 := Lib.hid be
      have HPL := Lib.hid (fun W (b : Below w5.heap.size w5 W) => HP.out.via b)
      have HRF := Lib.hid (fun W (b : Below w5.heap.size w5 W) => HRW.out.below b HLT.out)
      have HIF := Lib.hid (fun W (b : Below w5.heap.size w5 W) => (HI.out.trans (b.mono HI.out.size) : Below w.heap.size w W))
      rw [hs5] at S0 HO
      have HW5 := Lib.hid hw5
      have HS5 := Lib.hid hs5
      clear hOk HA0 hq0 hw5 hs5 be HP HRW HI hSl hCl
      go_wp2
      go_loopw [9, 10] (fun ov iv wr => ∃ (i k d : Nat) (F : Option Addr), i <= n /\ iv = .int .i64 i /\ ov = .slice F k d /\ k <= 8 /\ Hid (usedP (S.take i) = (k : Int)) /\ Hid (OwnI wr w5.heap.size (.slice F k d) (upto 0 k)) /\ Hid (Below w5.heap.size w5 wr)) (fun _ i _ => n - (intOf i).toNat)
      case atStart => exact ⟨0, 0, 0, _, Nat.zero_le _, rfl, rfl, Nat.zero_le _, Lib.hid (by simp [usedP]), Lib.hid (by rw [HS5.out, <- HW5.out]; exact HO.out), Lib.hid (by rw [HS5.out, <- HW5.out]; exact S0.out)⟩
      case round =>
        obtain ⟨i, k, d, F, hi, rfl, rfl, hk8, HU, HOw, HB⟩ := hrel
        have hn12 : n <= 12 := HN.out.2
        clear S0 HO
        have hrow := HRF.out _ HB.out
        have r0 := hrow.cell (j := 0) rfl
        have r1 := hrow.cell (j := 1) rfl
        rw [HQ0.out] at r0 r1
        by_cases hlt : i < n
        · obtain ⟨b, off, st, sl, sm, sd, sp, rfl, hbl, hsk, g0, g1, g2, g3, g4⟩ := (HPL.out _ HB.out).shp.at_ (k := i) (by rw [HSL.out.1]; exact hlt)
          have HSK := Lib.hid hsk
          obtain ⟨hv, hhv⟩ : ∃ x, x = heavyS ⟨st, sl, sm, sd, sp⟩ := ⟨_, rfl⟩
          have HHV := Lib.hid hhv
          have KH := Lib.hid (fun W (b : Below w.heap.size w W) => cheavy_any ⟨st, sl, sm, sd, sp⟩ W (TT.out W b))
          unfold Shp.val at KH
          dsimp only at KH
          rw [<- hhv] at KH
          have HLO := Lib.hid ((HPL.out _ HB.out).lol.at_ (k := i) (by rw [HSL.out.2]; exact hlt))
          have be : Below wr.heap.size wr (wr.alloc (.cells #[.int .i64 st, .int .i64 sl, .int .i64 sm, .int .i64 sd, .int .i64 sp] 44)) := below_alloc _
          have h5 : w5.heap.size <= wr.heap.size := HB.out.size
          have HB1 := Lib.hid (HB.out.trans (be.mono h5))
          have HOw := Lib.hid (HOw.out.below be)
          have HRS := Lib.hid (RowV.new wr 44 [.int .i64 st, .int .i64 sl, .int .i64 sm, .int .i64 sd, .int .i64 sp])
          clear hsk hhv be h5 hrow HB hbl
          go_wp2_with fail
          refine (KH.out _ (HIF.out _ HB1.out)).mono ?_
          rintro e w1 ⟨rfl, b1⟩
          have HOw := Lib.hid (HOw.out.below b1)
          have HRS := Lib.hid (HRS.out.below b1 (by simp))
          have HB := Lib.hid (HB1.out.trans (b1.mono HB1.out.size))
          clear b1 KH g0 g1 g2 g3 g4 r0 r1 HB1
          cases hv with
          | false =>
            have HU1 := Lib.hid (AdmOk.lightAt HSK.out HHV.out.symm)
            go_wp2
            go_roundw
            case rel => exact ⟨i + 1, k, d, F, by omega, by go_num, rfl, hk8, Lib.hid (HU1.out.trans HU.out), HOw, HB⟩
            case measure => simp [intOf]; omega
          | true =>
            obtain ⟨kk, u, hH⟩ := HOK.out.heavyAt HSK.out HHV.out.symm
            obtain rfl : u = k := by have := hH.u0; have := HU.out; omega
            have HH := Lib.hid hH
            have hrow := HRF.out _ HB.out
            have r0 := hrow.cell (j := 0) rfl
            have r1 := hrow.cell (j := 1) rfl
            rw [HQ0.out] at r0 r1
            obtain ⟨b2, off2, cr, K, nk, ck, rfl, hb2, hcr, hnk, x1, i1, z1⟩ := (HPL.out _ HB.out).lol.at_ (k := i) (by rw [HSL.out.2]; exact hlt)
            obtain rfl : cr = upto (u : Int) kk := by have := hH.cs; rw [hcr] at this; exact Option.some.inj this
            obtain rfl : kk = nk := by rw [upto_len] at hnk; exact hnk
            have s0 := HRS.out.cell (j := 0) rfl
            have s1 := HRS.out.cell (j := 1) rfl
            have s3 := HRS.out.cell (j := 3) rfl
            obtain ⟨⟨e1, e2⟩, ⟨e3, e4⟩, e5, e6⟩ := hH.b
            dsimp only at e1 e2 e3 e4 e5 e6
            have e7 := hH.ld
            have e8 := hH.m1
            have e9 := hH.m2
            have e10 := hH.le
            dsimp only at e7 e8 e9
            have e11 : (kk : Int) * (sd - sl) <= 8 * 4096 := Int.le_trans (Int.mul_le_mul_of_nonneg_right (by omega : (kk : Int) <= 8) (by omega)) (by omega)
            have e12 : 0 <= (kk : Int) * (sd - sl) := Int.mul_nonneg (by omega) (by omega)
            have e13 : ((kk : Int) - 1) * (sd - sl) = (kk : Int) * (sd - sl) - (sd - sl) := by rw [Int.sub_mul, Int.one_mul]
            have f1 : IntKind.wrap .i64 (sd - sl) = sd - sl := IntWalk.i64_in _ (by omega)
            have f2 : IntKind.wrap .i64 (st - sl) = st - sl := IntWalk.i64_in _ (by omega)
            have f3 : IntKind.wrap .i64 ((kk : Int) - 1) = (kk : Int) - 1 := IntWalk.i64_in _ (by omega)
            have f4 : IntKind.wrap .i64 ((kk : Int) * (sd - sl)) = (kk : Int) * (sd - sl) := IntWalk.i64_in _ (by omega)
            have f5 : IntKind.wrap .i64 (((kk : Int) - 1) * (sd - sl)) = ((kk : Int) - 1) * (sd - sl) := IntWalk.i64_in _ (by omega)
            have f6 : decide (sd <= sl) = false := decide_eq_false (by omega)
            have f7 : decide ((kk : Int) * (sd - sl) < st - sl) = false := decide_eq_false (by omega)
            have f8 : decide (st - sl <= ((kk : Int) - 1) * (sd - sl)) = false := decide_eq_false (by omega)
            clear hH e1 e2 e3 e4 e5 e6 e7 e8 e9 e11 e12 e13 hcr hnk i1 z1 hb2 hrow
            have HL0 := Lib.hid (show w5.heap.size <= w1.heap.size from HB.out.size)
            clear hn12
            go_wp2
            go_loopw [9, 13] (fun ov jv wx => ∃ (j d' : Nat) (F' : Option Addr), j <= kk /\ jv = .int .i64 j /\ ov = .slice F' (u + j) d' /\ Hid (OwnI wx w5.heap.size (.slice F' (u + j) d') (upto 0 (u + j))) /\ Hid (Below w5.heap.size w5 wx)) (fun _ v _ => kk - (intOf v).toNat)
            case atStart => exact ⟨0, d, F, Nat.zero_le _, rfl, rfl, HOw, HB⟩
            case round =>
              obtain ⟨j, d', F', hj, rfl, rfl, HOx, HBx⟩ := hrel
              clear r0 r1 x1 s0 s1 s3 f1 f2 f3 f4 f5 f6 f7 f8
              have hrow := HRF.out _ HBx.out
              have r0 := hrow.cell (j := 0) rfl
              have r1 := hrow.cell (j := 1) rfl
              rw [HQ0.out] at r0 r1
              obtain ⟨b3, off3, cr, K3, nk, ck3, eA, hb2, hcr, hnk, x1, i1, z1⟩ := (HPL.out _ HBx.out).lol.at_ (k := i) (by rw [HSL.out.2]; exact hlt)
              injection eA with eA
              injection eA with eA1 eA2
              subst eA1 eA2
              obtain rfl : cr = upto (u : Int) kk := by have := HH.out.cs; rw [hcr] at this; exact Option.some.inj this
              obtain rfl : kk = nk := by rw [upto_len] at hnk; exact hnk
              by_cases hjk : j < kk
              · obtain ⟨b4, off4, zz, rfl, hb4, hz4, y1⟩ := i1.at_ (k := j) (by rw [upto_len]; exact hjk)
                rw [upto_at hjk] at hz4
                obtain rfl := Option.some.inj hz4
                have KHs := Lib.hid (has_any F' d' (upto 0 (u + j)) ((u : Int) + (j : Int)) wr (u + j) (upto_len _ _) (by omega) HOx.out.ints)
                rw [decide_eq_false (show ¬ ((u : Int) + (j : Int)) ∈ upto 0 (u + j) from by have := upto_not (u + j); rw [Int.natCast_add] at this; exact this)] at KHs
                clear hrow hcr hnk i1 z1 hb2 hb4 hz4
                go_wp2_with fail
                refine KHs.out.mono ?_
                rintro e w8 ⟨rfl, rfl⟩
                clear KHs
                have hbb := HBx.out.size
                go_wp2_with (at_builtin; refine wpList_push rfl _ _ rfl wr w5.heap.size _ (upto 0 (u + j)) ((u : Int) + (j : Int)) (u + j) (upto_len _ _) (by omega) HOx.out hbb rfl rfl ?_; intro A' c' w7 hO7 hb7; have HO7 := Lib.hid hO7; have HB7 := Lib.hid (HBx.out.trans hb7); clear hO7 hb7)
                go_roundw
                case rel => exact ⟨j + 1, c', A', by omega, by go_num, by rw [Nat.add_assoc], Lib.hid (by have := HO7.out; rw [show u + (j + 1) = u + j + 1 by omega, upto_succ, Int.zero_add, Int.natCast_add]; exact this), HB7⟩
                case measure => simp [intOf]; omega
              · obtain rfl : j = kk := by omega
                clear hrow hcr hnk i1 z1 hb2
                have hn12 : n <= 12 := HN.out.2
                go_wp2
                go_roundw
                case rel => exact ⟨i + 1, u + j, d', F', by omega, by go_num, rfl, HH.out.le, Lib.hid HH.out.u1, HOx, HBx⟩
                case measure => simp [intOf]; omega
        · obtain rfl : i = n := by omega
          have HUS := Lib.hid (show usedP S = (k : Int) from by have := HU.out; rw [List.take_of_length_le (by rw [HSL.out.1]; exact Nat.le_refl _)] at this; exact this)
          have hmm := HMM.out
          clear hrow HU
          go_wp2
          clear r0 r1
          go_loopw [14] (fun xv wr => ∃ x : Nat, x <= mm /\ xv = .int .i64 x /\ Hid (OwnI wr w5.heap.size (.slice F k d) (upto 0 k)) /\ Hid (Below w5.heap.size w5 wr)) (fun v _ => mm - (intOf v).toNat)
          case atStart => exact ⟨0, Nat.zero_le _, rfl, HOw, HB⟩
          case round =>
            obtain ⟨x, hx, rfl, HOw, HB⟩ := hrel
            have hrow := HRF.out _ HB.out
            have r0 := hrow.cell (j := 0) rfl
            have r1 := hrow.cell (j := 1) rfl
            rw [HQ0.out] at r0 r1
            clear hrow
            by_cases hxm : x < mm
            · have KP := Lib.hid (plan17_any _ (HPL.out _ HB.out) HFP.out)
              go_wp2_with fail
              refine KP.out.mono ?_
              rintro e w1 ⟨A3, c3, A4, c4, rfl, hP3, b1⟩
              have HOw := Lib.hid (HOw.out.below b1)
              have HB := Lib.hid (HB.out.trans (b1.mono HB.out.size))
              have KL := Lib.hid (alight_any (x : Int) w1 hP3 HFP.out (TT.out _ (HIF.out _ HB.out)))
              clear b1 hP3 KP r0 r1
              go_wp2_with fail
              refine KL.out.mono ?_
              rintro e w2 ⟨G, ns, ds, rfl, b2, hns, hO2⟩
              have HOw := Lib.hid (HOw.out.below b2)
              have HB := Lib.hid (HB.out.trans (b2.mono HB.out.size))
              have HNS := Lib.hid (show (lightQ S C (x : Int)).length = ns /\ ns <= 20 from ⟨hns, by have := lightQ_le S C (x : Int); have := HFP.out.f1; omega⟩)
              have HSH := Lib.hid (show Ints w2 w2.heap.size G (nums (lightQ S C (x : Int))) from hO2.ints)
              have HCO := Lib.hid (HOK.out.core (x := (x : Int)) (by omega) (by omega))
              clear b2 hns hO2 KL
              have be : Below w2.heap.size w2 (w2.alloc (.cells #[] 44)) := below_alloc _
              have HE := Lib.hid be
              have HS0 := Lib.hid (show OwnS (w2.alloc (.cells #[] 44)) w2.heap.size (.slice (some ⟨w2.heap.size, 0, none⟩) 0 0) [] from ⟨rfl, .inr ⟨w2.heap.size, 0, #[], rfl, Nat.le_refl _, heap_alloc_new w2 _, Nat.le_refl _, by simp [maxLen], rfl, rfl⟩⟩)
              clear be
              go_wp2
              go_loopw [16, 17] (fun ev jv wr => ∃ (j d2 : Nat) (F2 : Option Addr), j <= ns /\ jv = .int .i64 j /\ ev = .slice F2 j d2 /\ Hid (OwnS wr w2.heap.size (.slice F2 j d2) (shpsL S ((lightQ S C (x : Int)).take j))) /\ Hid (Below w2.heap.size w2 wr)) (fun _ v _ => ns - (intOf v).toNat)
              case atStart => exact ⟨0, _, _, Nat.zero_le _, rfl, rfl, HS0, HE⟩
              case round =>
                obtain ⟨j, E2, E1, hj, rfl, rfl, HSS, HB2⟩ := hrel
                clear HS0 HE
                have HB5 := Lib.hid (HB.out.trans (HB2.out.mono HB.out.size))
                by_cases hjn : j < ns
                · obtain ⟨b4, off4, z, rfl, hb4, hz, y1⟩ := (HSH.out).at_ (k := j) (by rw [nums_len, HNS.out.1]; exact hjn)
                  obtain ⟨idx, hidx, rfl⟩ := nums_at17 hz
                  obtain ⟨s, hs, hsn⟩ := HCO.out.2.2 j idx hidx
                  have hil : idx < i := by have := (List.getElem?_eq_some_iff.1 hs).1; rw [HSL.out.1] at this; exact this
                  obtain ⟨b, off, st, sl, sm, sd, sp, rfl, hbl, hsk, g0, g1, g2, g3, g4⟩ := (HPL.out _ HB.out).shp.at_ (k := idx) (by rw [HSL.out.1]; exact hil)
                  obtain rfl := Option.some.inj (hs.symm.trans hsk)
                  have HX1 := Lib.hid (fun W (b' : Below w2.heap.size w2 W) => (b'.cell (p := ⟨b4, off4 + j, none⟩) hb4).trans y1)
                  have HX2 := Lib.hid (fun W (b' : Below w2.heap.size w2 W) => And.intro (And.intro ((b'.cell (p := ⟨b, off + idx * 5, none⟩) hbl).trans g0) ((b'.cell (p := ⟨b, off + idx * 5 + 1, none⟩) hbl).trans g1)) (And.intro ((b'.cell (p := ⟨b, off + idx * 5 + 2, none⟩) hbl).trans g2) (And.intro ((b'.cell (p := ⟨b, off + idx * 5 + 3, none⟩) hbl).trans g3) ((b'.cell (p := ⟨b, off + idx * 5 + 4, none⟩) hbl).trans g4))))
                  have HSN := Lib.hid hsn
                  have HW2 := Lib.hid (show w2.heap.size <= wr.heap.size from HB2.out.size)
                  obtain ⟨vL, hvL⟩ : ∃ v, v = Value.slice E1 j E2 := ⟨_, rfl⟩
                  obtain ⟨es, hes⟩ : ∃ es, es = shpsL S ((lightQ S C (x : Int)).take j) := ⟨_, rfl⟩
                  have hgl : ∀ e, vL.ownBlock = some e -> e < wr.heap.size := fun e he => by
                    rw [hvL] at he
                    obtain ⟨_, cur, hh⟩ := own_at HSS.out he
                    exact (Array.getElem?_eq_some_iff.1 hh).1
                  have HGl := Lib.hid hgl
                  have HEL := Lib.hid (show es.length = j /\ j <= 20 from ⟨by rw [hes, shpsL_len (fun y hy => lightQ_lt17 y (List.mem_of_mem_take hy)), List.length_take, HNS.out.1]; omega, by have := HNS.out.2; omega⟩)
                  rw [<- hvL, <- hes] at HSS
                  rw [<- hvL]
                  have HES := Lib.hid hes
                  clear hz hidx hs hsn hsk hbl hb4 y1 g0 g1 g2 g3 g4 hvL hes hgl
                  go_wp2_with fail
                  refine wp_region_univ0 [149, 150, 151, 152, 153, 154, 155, 156, 157, 158, 159, 16] (by kernel_rfl) (by kernel_rfl) (by kernel_rfl) (by intro d hd; simp at hd ⊢; omega) (by simp) (fun W => Below w2.heap.size w2 W /\ wr.heap.size <= W.heap.size) (PhiSg w2.heap.size q0 b off i c1 b4 off4 ns ds j idx vL es ⟨st, sl, sm, sd, sp⟩) (PreSg w2.heap.size vL es) (RSg w2.heap.size vL es) ?hI ?hΦ ?hP ?h0 ?hp0 ?hstep ?hend
                  case hI =>
                    rintro i w w' ⟨q1, q2⟩ hr
                    rcases rSg_ways hr with ⟨_, hO, hg⟩ | ⟨_, hb⟩
                    · exact ⟨q1.grown hg q1.size (fun e he => (own_at hO he).1), Nat.le_trans q2 hg.size⟩
                    · exact ⟨q1.trans (hb.mono q1.size), Nat.le_trans q2 hb.size⟩
                  case hΦ =>
                    intro i y v w w' hki hnw h hr
                    refine phiSg_keep hki ?_ h hr
                    rintro ⟨rfl, rfl⟩
                    have := hnw _ rfl
                    simp [Region.binds] at this
                  case hP =>
                    intro i y w w' hki h hr
                    by_cases h10 : y = 10
                    · subst h10
                      rcases rSg_ways hr with ⟨e, _, _⟩ | ⟨_, hb⟩
                      · exact absurd e.symm hki
                      · exact own_below (show OwnS w w2.heap.size vL es from h) hb
                    · unfold PreSg
                      split
                      · exact absurd rfl h10
                      · exact trivial
                  case h0 => exact ⟨HB2.out.drew, Nat.le_refl _⟩
                  case hp0 =>
                    intro y
                    unfold PreSg
                    split
                    · exact own_below HSS.out (Below.refl _ _).drew
                    · exact trivial
                  case hstep =>
                    rintro y o ho a w ⟨hI, hsz⟩ hPre hA hd hl K hK
                    obtain ⟨ρ, hρ⟩ : ∃ ρ, a.eval = ρ := ⟨_, rfl⟩
                    rw [hρ] at hA hd hl
                    match y, ho, hPre, hl, hK with
                    | 0, ho, hPre, hl, hK =>
                      have f16 : ρ (.tmp 16) = vL := hl 11 _ rfl (by kernel_rfl)
                      have hoo := Option.some.inj ho
                      subst hoo
                      exact ux_val hK hρ (by decide) vL w (by simp [execOp, f16, go_sem]) rfl (Below.refl _ _)
                    | 1, ho, hPre, hl, hK =>
                      have hoo := Option.some.inj ho
                      subst hoo
                      have f7 : ρ (.tmp 7) = .pointer (some ⟨q0, 0, none⟩) := (hA.tmp 7 (by decide)).trans (by rw [HQ0.out]; rfl)
                      exact ux_val hK hρ (by decide) (.pointer (some ⟨q0, 0, none⟩)) w (by simp [execOp, f7, go_sem]) rfl (Below.refl _ _)
                    | 2, ho, hPre, hl, hK =>
                      have hoo := Option.some.inj ho
                      subst hoo
                      have f1 : ρ (.tmp 150) = .pointer (some ⟨q0, 0, none⟩) := hd ⟨1, .data⟩ (by simp) (by rfl)
                      have r0 := (HRF.out _ (HB.out.trans (hI.mono HB.out.size))).cell (j := 0) rfl
                      exact ux_val hK hρ (by decide) (.slice (some ⟨b, off, none⟩) i c1) w (by simp [execOp, f1, r0, go_sem]) rfl (Below.refl _ _)
                    | 3, ho, hPre, hl, hK =>
                      have hoo := Option.some.inj ho
                      subst hoo
                      have h15 : ρ (.tmp 15) = .slice (some ⟨b4, off4, none⟩) ns ds := hA.tmp 15 (by decide)
                      exact ux_val hK hρ (by decide) (.slice (some ⟨b4, off4, none⟩) ns ds) w (by simp [execOp, h15, go_sem]) rfl (Below.refl _ _)
                    | 4, ho, hPre, hl, hK =>
                      have hoo := Option.some.inj ho
                      subst hoo
                      have h17 : ρ (.tmp 17) = .int .i64 j := hA.tmp 17 (by decide)
                      exact ux_val hK hρ (by decide) (.int .i64 j) w (by simp [execOp, h17, go_sem]) rfl (Below.refl _ _)
                    | 5, ho, hPre, hl, hK =>
                      have hoo := Option.some.inj ho
                      subst hoo
                      have f3 : ρ (.tmp 152) = .slice (some ⟨b4, off4, none⟩) ns ds := hd ⟨3, .data⟩ (by simp) (by rfl)
                      have f4 : ρ (.tmp 153) = .int .i64 j := hd ⟨4, .data⟩ (by simp) (by rfl)
                      exact ux_val hK hρ (by decide) (.pointer (some ⟨b4, off4 + j, none⟩)) w (by simp [execOp, f3, f4, hjn, go_sem]) rfl (Below.refl _ _)
                    | 6, ho, hPre, hl, hK =>
                      have hoo := Option.some.inj ho
                      subst hoo
                      have f5 : ρ (.tmp 154) = .pointer (some ⟨b4, off4 + j, none⟩) := hd ⟨5, .data⟩ (by simp) (by rfl)
                      have y1 := HX1.out w hI
                      exact ux_val hK hρ (by decide) (.int .i64 idx) w (by simp [execOp, f5, y1, go_sem]) rfl (Below.refl _ _)
                    | 7, ho, hPre, hl, hK =>
                      have hoo := Option.some.inj ho
                      subst hoo
                      have f2 : ρ (.tmp 151) = .slice (some ⟨b, off, none⟩) i c1 := hd ⟨2, .data⟩ (by simp) (by rfl)
                      have f6 : ρ (.tmp 155) = .int .i64 idx := hd ⟨6, .data⟩ (by simp) (by rfl)
                      exact ux_val hK hρ (by decide) (.pointer (some ⟨b, off + idx * 5, none⟩)) w (by simp [execOp, f2, f6, hil, go_sem]) rfl (Below.refl _ _)
                    | 8, ho, hPre, hl, hK =>
                      have hoo := Option.some.inj ho
                      subst hoo
                      have f7 : ρ (.tmp 156) = .pointer (some ⟨b, off + idx * 5, none⟩) := hd ⟨7, .data⟩ (by simp) (by rfl)
                      obtain ⟨⟨x0, x1⟩, x2, x3, x4⟩ := HX2.out w hI
                      exact ux_val hK hρ (by decide) (.agg #[.int .i64 st, .int .i64 sl, .int .i64 sm, .int .i64 sd, .int .i64 sp]) w (by simp [execOp, f7, x0, x1, x2, x3, x4, go_sem]) rfl (Below.refl _ _)
                    | 9, ho, hPre, hl, hK =>
                      have hoo := Option.some.inj ho
                      subst hoo
                      have f8 : ρ (.tmp 157) = .agg #[.int .i64 st, .int .i64 sl, .int .i64 sm, .int .i64 sd, .int .i64 sp] := hd ⟨8, .data⟩ (by simp) (by rfl)
                      refine ux_val hK hρ (by decide) (.slice (some ⟨w.heap.size, 0, none⟩) 1 1) (w.alloc (.cells (shpC ⟨st, sl, sm, sd, sp⟩).toArray 44)) (by simp [execOp, f8, shpC, go_sem]) ⟨_, rfl, heap_alloc_new w _, fun e => ?_⟩ (below_alloc _)
                      have := HGl.out _ e
                      omega
                    | 10, ho, hPre, hl, hK =>
                      have hoo := Option.some.inj ho
                      subst hoo
                      have f0 : ρ (.tmp 149) = vL := hd ⟨0, .data⟩ (by simp) (by rfl)
                      obtain ⟨e, f9, he, hne⟩ : PhiSg w2.heap.size q0 b off i c1 b4 off4 ns ds j idx vL es ⟨st, sl, sm, sd, sp⟩ 9 (ρ (.tmp 158)) w := hd ⟨9, .data⟩ (by simp) (by rfl)
                      obtain ⟨F3, d3, w', hr, hO', hg'⟩ := push_shp (n := j) HEL.out.1 hPre he (by have := HEL.out.2; omega) hI.size
                      exact ux_val hK hρ (by decide) (.slice F3 (j + 1) d3) w' (exec_append16 (.tmp 149) (.tmp 158) 25 _ _ rfl f0 f9 hr) ⟨F3, d3, rfl, hO'⟩ ⟨hPre, hg'⟩
                    | 11, ho, hPre, hl, hK =>
                      have hoo := Option.some.inj ho
                      subst hoo
                      have f10 : PhiSg w2.heap.size q0 b off i c1 b4 off4 ns ds j idx vL es ⟨st, sl, sm, sd, sp⟩ 10 (ρ (.tmp 159)) w := hd ⟨10, .data⟩ (by simp) (by rfl)
                      exact ux_val hK hρ (by decide) (ρ (.tmp 159)) w (by simp [execOp, go_sem]) f10 (Below.refl _ _)
                    | y + 12, ho, _, _, _ => simp at ho
                  case hend =>
                    rintro vals w3 ⟨hI, hsz⟩ hF
                    obtain ⟨F3, d3, e11, hO3⟩ : PhiSg w2.heap.size q0 b off i c1 b4 off4 ns ds j idx vL es ⟨st, sl, sm, sd, sp⟩ 11 (vals 16) w3 := hF 11 (by decide)
                    have HSS := Lib.hid hO3
                    rw [HES.out, <- HSN.out] at HSS
                    have HB2 := Lib.hid hI
                    have hj20 : j <= 20 := HEL.out.2
                    clear hI hsz hF hO3
                    simp only [fillA, fillL, List.contains_cons, List.contains_nil, Nat.reduceBEq, Bool.or_false, Bool.false_or, Bool.or_true, Bool.true_or, cond_true, cond_false, Nat.zero_add, Nat.reduceAdd, e11]
                    clear e11
                    go_wp2
                    go_roundw
                    case rel => exact ⟨j + 1, d3, F3, by omega, by go_num, rfl, HSS, HB2⟩
                    case measure => simp [intOf]; omega
                · obtain rfl : j = ns := by omega
                  have HLN := Lib.hid (show (shpsL S (lightQ S C (x : Int))).length = j /\ j <= 20 from ⟨by rw [shpsL_len lightQ_lt17, HNS.out.1], HNS.out.2⟩)
                  rw [List.take_of_length_le (by rw [HNS.out.1]; exact Nat.le_refl _)] at HSS
                  have HOw := Lib.hid (HOw.out.below HB2.out)
                  have HB := HB5
                  clear HB5 HB2 HSH
                  by_cases hz : ¬ 0 < j
                  · have hz2 : decide ((j : Int) > 0) = false := decide_eq_false (by omega)
                    by_cases ht1 : t < 1
                    · have hx8 : x <= 8 := by have := HMM.out; omega
                      go_wp2
                      go_roundw
                      case rel => exact ⟨x + 1, by omega, by go_num, HOw, HB⟩
                      case measure => simp [intOf]; omega
                    · by_cases ht2 : 1099511627775 < t
                      · have hx8 : x <= 8 := by have := HMM.out; omega
                        go_wp2
                        go_roundw
                        case rel => exact ⟨x + 1, by omega, by go_num, HOw, HB⟩
                        case measure => simp [intOf]; omega
                      · obtain ⟨dm, hdm⟩ : ∃ y, y = demE (shpsL S (lightQ S C (x : Int))) t := ⟨_, rfl⟩
                        obtain ⟨bk, hbk⟩ : ∃ y, y = blkE (shpsL S (lightQ S C (x : Int))) t := ⟨_, rfl⟩
                        have hat : atE (shpsL S (lightQ S C (x : Int))) t = 0 := atE_may HCO.out.2.1.1 (by omega) (by omega)
                        have hal := fit_always HCO.out.2.1 (t := t) (by omega)
                        unfold AtE at hal
                        rw [<- hdm, <- hbk] at hal
                        have KD := Lib.hid (fun W (b : Below w.heap.size w W) h => eDemand_any (A := E1) (n := j) (c := E2) (es := shpsL S (lightQ S C (x : Int))) t W (TT.out W b) HLN.out.1 (by have := HLN.out.2; omega) h)
                        have KB := Lib.hid (fun W (b : Below w.heap.size w W) h => eBlock_any (A := E1) (n := j) (c := E2) (es := shpsL S (lightQ S C (x : Int))) t W (TT.out W b) HLN.out.1 (by have := HLN.out.2; omega) h)
                        unfold demV at KD
                        unfold blkV at KB
                        rw [hat, if_pos rfl, <- hdm] at KD
                        rw [hat, if_pos rfl, <- hbk] at KB
                        have hd0 := demE_le HCO.out.2.1.1 (t := t) (by omega)
                        have hb0 := blkE_le HCO.out.2.1.1 (t := t)
                        rw [<- hdm] at hd0
                        rw [<- hbk] at hb0
                        have hwr : IntKind.wrap .i64 (dm + bk) = dm + bk := IntWalk.i64_in _ (by omega)
                        clear hdm hbk hat
                        go_wp2_with fail
                        refine (KD.out _ (HIF.out _ HB.out) HSS.out.shps).mono ?_
                        rintro e y1 ⟨rfl, b⟩
                        have HSS := Lib.hid (OwnS.below HSS.out b)
                        have HOw := Lib.hid (HOw.out.below b)
                        have HB := Lib.hid (HB.out.trans (b.mono HB.out.size))
                        clear b
                        go_wp2_with fail
                        refine (KB.out _ (HIF.out _ HB.out) HSS.out.shps).mono ?_
                        rintro e y2 ⟨rfl, b⟩
                        have HOw := Lib.hid (HOw.out.below b)
                        have HB := Lib.hid (HB.out.trans (b.mono HB.out.size))
                        clear b HSS KD KB
                        by_cases hdz : dm > 0
                        · have hle : ¬ dm + bk > t := by omega
                          have dd1 : decide (dm > 0) = true := decide_eq_true hdz
                          have dd2 : decide (dm + bk > t) = false := decide_eq_false hle
                          have hx8 : x <= 8 := by have := HMM.out; omega
                          go_wp2
                          go_roundw
                          case rel => exact ⟨x + 1, by omega, by go_num, HOw, HB⟩
                          case measure => simp [intOf]; omega
                        · have dd1 : decide (dm > 0) = false := decide_eq_false hdz
                          have hx8 : x <= 8 := by have := HMM.out; omega
                          go_wp2
                          go_roundw
                          case rel => exact ⟨x + 1, by omega, by go_num, HOw, HB⟩
                          case measure => simp [intOf]; omega
                  · have hz2 : decide ((j : Int) > 0) = true := decide_eq_true (by omega)
                    have hz3 : 0 < j := by omega
                    clear hz
                    have hu := HCO.out.1 (by rw [HNS.out.1]; omega)
                    have KHs := Lib.hid (fun W h => has_any F d (upto 0 k) (x : Int) W k (upto_len _ _) (by omega) h)
                    rw [decide_eq_false (show ¬ ((x : Int)) ∈ upto 0 k from fun z => by have := upto_mem.mp z; have := HUS.out; omega)] at KHs
                    clear hu
                    go_wp2_with fail
                    refine (KHs.out _ HOw.out.ints).mono ?_
                    rintro e w8 ⟨rfl, rfl⟩
                    clear KHs
                    by_cases ht1 : t < 1
                    · have hx8 : x <= 8 := by have := HMM.out; omega
                      go_wp2
                      go_roundw
                      case rel => exact ⟨x + 1, by omega, by go_num, HOw, HB⟩
                      case measure => simp [intOf]; omega
                    · by_cases ht2 : 1099511627775 < t
                      · have hx8 : x <= 8 := by have := HMM.out; omega
                        go_wp2
                        go_roundw
                        case rel => exact ⟨x + 1, by omega, by go_num, HOw, HB⟩
                        case measure => simp [intOf]; omega
                      · obtain ⟨dm, hdm⟩ : ∃ y, y = demE (shpsL S (lightQ S C (x : Int))) t := ⟨_, rfl⟩
                        obtain ⟨bk, hbk⟩ : ∃ y, y = blkE (shpsL S (lightQ S C (x : Int))) t := ⟨_, rfl⟩
                        have hat : atE (shpsL S (lightQ S C (x : Int))) t = 0 := atE_may HCO.out.2.1.1 (by omega) (by omega)
                        have hal := fit_always HCO.out.2.1 (t := t) (by omega)
                        unfold AtE at hal
                        rw [<- hdm, <- hbk] at hal
                        have KD := Lib.hid (fun W (b : Below w.heap.size w W) h => eDemand_any (A := E1) (n := j) (c := E2) (es := shpsL S (lightQ S C (x : Int))) t W (TT.out W b) HLN.out.1 (by have := HLN.out.2; omega) h)
                        have KB := Lib.hid (fun W (b : Below w.heap.size w W) h => eBlock_any (A := E1) (n := j) (c := E2) (es := shpsL S (lightQ S C (x : Int))) t W (TT.out W b) HLN.out.1 (by have := HLN.out.2; omega) h)
                        unfold demV at KD
                        unfold blkV at KB
                        rw [hat, if_pos rfl, <- hdm] at KD
                        rw [hat, if_pos rfl, <- hbk] at KB
                        have hd0 := demE_le HCO.out.2.1.1 (t := t) (by omega)
                        have hb0 := blkE_le HCO.out.2.1.1 (t := t)
                        rw [<- hdm] at hd0
                        rw [<- hbk] at hb0
                        have hwr : IntKind.wrap .i64 (dm + bk) = dm + bk := IntWalk.i64_in _ (by omega)
                        clear hdm hbk hat
                        go_wp2_with fail
                        refine (KD.out _ (HIF.out _ HB.out) HSS.out.shps).mono ?_
                        rintro e y1 ⟨rfl, b⟩
                        have HSS := Lib.hid (OwnS.below HSS.out b)
                        have HOw := Lib.hid (HOw.out.below b)
                        have HB := Lib.hid (HB.out.trans (b.mono HB.out.size))
                        clear b
                        go_wp2_with fail
                        refine (KB.out _ (HIF.out _ HB.out) HSS.out.shps).mono ?_
                        rintro e y2 ⟨rfl, b⟩
                        have HOw := Lib.hid (HOw.out.below b)
                        have HB := Lib.hid (HB.out.trans (b.mono HB.out.size))
                        clear b HSS KD KB
                        by_cases hdz : dm > 0
                        · have hle : ¬ dm + bk > t := by omega
                          have dd1 : decide (dm > 0) = true := decide_eq_true hdz
                          have dd2 : decide (dm + bk > t) = false := decide_eq_false hle
                          have hx8 : x <= 8 := by have := HMM.out; omega
                          go_wp2
                          go_roundw
                          case rel => exact ⟨x + 1, by omega, by go_num, HOw, HB⟩
                          case measure => simp [intOf]; omega
                        · have dd1 : decide (dm > 0) = false := decide_eq_false hdz
                          have hx8 : x <= 8 := by have := HMM.out; omega
                          go_wp2
                          go_roundw
                          case rel => exact ⟨x + 1, by omega, by go_num, HOw, HB⟩
                          case measure => simp [intOf]; omega
            · obtain rfl : x = mm := by omega
              have KP := Lib.hid (plan17_any _ (HPL.out _ HB.out) HFP.out)
              go_wp2_with fail
              refine KP.out.mono ?_
              rintro e w1 ⟨A3, c3, A4, c4, rfl, hP3, b1⟩
              have HB := Lib.hid (HB.out.trans (b1.mono HB.out.size))
              have KR := Lib.hid (aright_any (x : Int) w1 hP3 HFP.out (TT.out _ (HIF.out _ HB.out)) true ⟨fun _ => HOK.out.right, fun _ => rfl⟩)
              clear b1 hP3 KP r0 r1
              go_wp2_with fail
              refine KR.out.mono ?_
              rintro e w2 ⟨rfl, b2⟩
              have HB := Lib.hid (HB.out.trans (b2.mono HB.out.size))
              have hrow := HRF.out _ HB.out
              have r0 := hrow.cell (j := 0) rfl
              have r1 := hrow.cell (j := 1) rfl
              rw [HQ0.out] at r0 r1
              clear b2 KR hrow
              go_wp2
              go_ret
              exact ⟨rfl, HIF.out _ HB.out⟩
    · obtain ⟨rfl, rfl⟩ := HA0.out.non h0
      have hne : (er != 0) = true := by simpa using h0
      have hn1 : n1 = 0 := by have := HP.out.l1; simpa using this.symm
      have hn2 : n2 = 0 := by have := HP.out.l2; simpa using this.symm
      subst hn1 hn2
      have KS := Lib.hid (rsame17_any _ HP.out (IsPl.nil _) HFP.out ⟨by simp, by simp, fun r hr => by simp at hr⟩)
      rw [decide_eq_true ⟨rfl, rfl⟩] at KS
      have r0 := HRW.out.cell (j := 0) rfl
      have r1 := HRW.out.cell (j := 1) rfl
      clear HA0
      go_wp2_with fail
      refine KS.out.mono ?_
      rintro e u1 ⟨rfl, b⟩
      have HI := Lib.hid (HI.out.trans (b.mono HI.out.size))
      clear b KS r0 r1
      go_wp2
      go_ret
      exact ⟨rfl, HI.out⟩
  · have FW := Lib.hid (fun W (b : Below w.heap.size w W) => fewts_any (c := c) W hn (h.via b) false ⟨fun q => Bool.noConfusion q, fun q => absurd q hf⟩)
    clear h hT hn hf
    go_enter Tryz.func5, Tryz.ntmps5
    go_wp2_with fail
    refine (AW.out _ HI.out).mono ?_
    rintro e v1 ⟨rfl, b⟩
    have HI := Lib.hid (HI.out.trans (b.mono HI.out.size))
    clear b
    go_wp2_with fail
    refine (FW.out _ HI.out).mono ?_
    rintro e v2 ⟨rfl, b⟩
    have HI := Lib.hid (HI.out.trans (b.mono HI.out.size))
    clear b
    go_wp2_with fail
    refine (AW.out _ HI.out).mono ?_
    rintro e v3 ⟨rfl, b⟩
    have HI := Lib.hid (HI.out.trans (b.mono HI.out.size))
    clear b
    go_wp2
    go_ret
    exact ⟨rfl, HI.out⟩
end Go.Proofs.YtlfekmbalgkmeaaGreatDoor
