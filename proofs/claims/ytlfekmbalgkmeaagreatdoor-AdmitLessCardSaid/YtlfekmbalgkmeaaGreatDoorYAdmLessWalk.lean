import Derived.Test.YtlfekmbalgkmeaaGreatDoorYAdmMoreWalk
import Derived.Test.YtlfekmbalgkmeaaGreatDoorYM37
import Derived.Test.YtlfekmbalgkmeaaGreatDoorYM32
set_option linter.unusedSimpArgs false
set_option linter.unnecessarySimpa false
set_option linter.unusedVariables false
set_option maxRecDepth 100000
set_option maxHeartbeats 32000000
namespace Go.Proofs.YtlfekmbalgkmeaaGreatDoor
open Go Go.RowKit
theorem law_AdmitLess {A : Option Addr} {n c : Nat} {l : List (Sh × Task)} (m : Int) (w : World) (hT : DTab w) (hn : l.length = n) (h : InTs w A l) (hA : A = none -> n = 0 /\ c = 0) (hc : n <= c) (hm : -9223372036854775808 <= m /\ m <= 9223372036854775807) :
    Calls Tryz.prog 8 #[.slice A n c, .int .i64 m] w fun e w' => e = .returned (.bool true) /\ Below w.heap.size w w' := by
  have AW := Lib.hid (fun W (b : Below w.heap.size w W) => awake17_any W (hT.via b))
  have HI := Lib.hid (Below.refl w.heap.size w)
  by_cases hf : FewTs l
  · have FW := Lib.hid (fun W (b : Below w.heap.size w W) => fewts_any (c := c) W hn (h.via b) true ⟨fun _ => hf, fun _ => rfl⟩)
    by_cases hn0 : n = 0
    · subst hn0
      clear h hT hn hf
      go_enter Tryz.func8, Tryz.ntmps8
      go_wp2_with fail
      refine (AW.out _ HI.out).mono ?_
      rintro e v1 ⟨rfl, b⟩
      have HI := Lib.hid (HI.out.trans (b.mono HI.out.size))
      clear b
      go_wp2_with fail
      refine (FW.out _ HI.out).mono ?_
      rintro e v2 ⟨rfl, b⟩
      have HI := Lib.hid (HI.out.trans (b.mono HI.out.size))
      clear b
      go_wp2_with fail
      refine (AW.out _ HI.out).mono ?_
      rintro e v3 ⟨rfl, b⟩
      have HI := Lib.hid (HI.out.trans (b.mono HI.out.size))
      clear b
      go_wp2
      go_ret
      exact ⟨rfl, HI.out⟩
    · have hd0 : ((n : Int) == 0) = false := by simp; omega
      obtain ⟨k, hk⟩ : ∃ k, n = k + 1 := ⟨n - 1, by omega⟩
      obtain ⟨b, off, rfl, hbl⟩ : ∃ b off, A = some ⟨b, off, none⟩ /\ b < w.heap.size := by
        obtain ⟨b, off, e, hb, _⟩ := h.1 (by omega)
        exact ⟨b, off, e, hb⟩
      obtain ⟨S, C, er, hA0⟩ := admA_is (pairT l) m
      have h12 : n <= 12 := by have := hf.1; omega
      have TT := Lib.hid (fun W (b : Below w.heap.size w W) => (hT.via b : DTab W))
      have TS := Lib.hid (fun W (b : Below w.heap.size w W) => (h.via b).isTs (hT.via b) hf.2)
      have OW := Lib.hid (fun W (b : Below w.heap.size w W) => owns_ts (c := c) W hn h12 ((h.via b).isTs (hT.via b) hf.2) (hT.via b) hf.2)
      have KP := Lib.hid (fun F d (l' : List (Sh × Task)) W (b : Below w.heap.size w W) (hl : l'.length = n) (hp : pairT l' = pairT l) (ht : IsTs W F l') => admit_any (A := F) (n := n) (c := d) (l := l') (m := m) (S := S) (C := C) (er := er) W hl (by omega) ht (hT.via b) (by rw [hp]; exact hA0))
      have OX := Lib.hid (fun (i j c' : Nat) W (b' : Below w.heap.size w W) (hij : i + j <= n) => owns_ts (A := some ⟨b, off + i * 6, none⟩) (n := j) (c := c') (l := (l.drop i).take j) W (by simp; omega) (by omega) (IsTs.cut ((h.via b').isTs (hT.via b') hf.2) i j) (hT.via b') (fun x hx => hf.2 x (List.mem_of_mem_drop (List.mem_of_mem_take hx))))
      have KX := Lib.hid (fun (L : List (Sh × Task)) (j : Nat) (hj : j <= 12) S1 C1 (hA1 : AdmA (pairT L) m S1 C1 0) F d (l' : List (Sh × Task)) W (b' : Below w.heap.size w W) (hl : l'.length = j) (hp : pairT l' = pairT L) (ht : IsTs W F l') => admit_any (A := F) (n := j) (c := d) (l := l') (m := m) (S := S1) (C := C1) (er := 0) W hl (by omega) ht (hT.via b') (by rw [hp]; exact hA1))
      have HN := Lib.hid (show (l.length = n /\ n <= c) /\ n = k + 1 /\ n <= 12 from ⟨⟨hn, hc⟩, hk, by omega⟩)
      have HA0 := Lib.hid hA0
      clear hA0 h hT hn hf hA hm hk hc hbl
      go_enter Tryz.func8, Tryz.ntmps8
      go_wp2_with fail
      refine (AW.out _ HI.out).mono ?_
      rintro e v1 ⟨rfl, b⟩
      have HI := Lib.hid (HI.out.trans (b.mono HI.out.size))
      clear b
      go_wp2_with fail
      refine (FW.out _ HI.out).mono ?_
      rintro e v2 ⟨rfl, b⟩
      have HI := Lib.hid (HI.out.trans (b.mono HI.out.size))
      clear b
      go_wp2_with fail
      refine (OW.out _ HI.out).mono ?_
      rintro e o3 ⟨F3, d3, l3, rfl, hl, hp, hts, hz, b⟩
      have HI := Lib.hid (HI.out.trans (b.mono HI.out.size))
      have KP3 := Lib.hid (KP.out F3 d3 l3 o3 HI.out hl hp hts)
      clear b hl hp hts hz
      go_wp2_with fail
      refine KP3.out.mono ?_
      rintro e p3 ⟨A1, n1, c1, A2, n2, c2, rfl, hP, b⟩
      have HI := Lib.hid (HI.out.trans (b.mono HI.out.size))
      have HP := Lib.hid hP
      clear b KP3 hP
      have hb : Below p3.heap.size p3 (p3.alloc (.cells #[.slice A1 n1 c1, .slice A2 n2 c2] 28)) := below_alloc _
      have HI := Lib.hid (HI.out.trans (hb.mono HI.out.size))
      by_cases h0 : er = 0
      · subst h0
        obtain ⟨LL, hOk⟩ := HA0.out.zero rfl
        have HSL := Lib.hid (show S.length = n from by rw [hOk.len.1, pairT_len, HN.out.1.1])
        have HS0 := Lib.hid hOk.eq
        have HONE := Lib.hid (fun (j : Nat) (hj : j < n) => show ∃ S1 C1, AdmA (pairT ((l.drop j).take 1)) m S1 C1 0 from by
          obtain ⟨x, hx⟩ : ∃ x, l[j]? = some x := ⟨_, List.getElem?_eq_getElem (by rw [HN.out.1.1]; exact hj)⟩
          have e : (l.drop j).take 1 = [x] := by
            have h1 := List.drop_eq_getElem_cons (l := l) (i := j) (by rw [HN.out.1.1]; exact hj)
            have h2 : l[j]'(by rw [HN.out.1.1]; exact hj) = x := by
              have := List.getElem?_eq_getElem (l := l) (i := j) (by rw [HN.out.1.1]; exact hj)
              rw [this] at hx
              exact Option.some.inj hx
            rw [h1, h2]; rfl
          rw [e]
          exact hOk.alone (pairT_at hx))
        have HLAST := Lib.hid (show ∃ s : Shp, S[k]? = some s /\ (heavyS s = true -> ∃ S1 C1, AdmA (pairT ((l.drop 0).take k)) m S1 C1 0) from by
          obtain ⟨x, hx⟩ : ∃ x, l[k]? = some x := ⟨_, List.getElem?_eq_getElem (by rw [HN.out.1.1, HN.out.2.1]; omega)⟩
          refine ⟨shapeT x.2, by rw [hOk.eq]; exact shpsT_at (pairT_at hx), fun hh => ?_⟩
          have := hOk.less (k := k) (by rw [pairT_len, HN.out.1.1, HN.out.2.1]) (pairT_at hx) hh
          rw [List.drop_zero]
          unfold pairT at this ⊢
          rw [List.map_take]
          exact this)
        have HRW := Lib.hid (RowV.new p3 28 [.slice A1 n1 c1, .slice A2 n2 c2])
        have HP := Lib.hid (HP.out.via hb)
        obtain ⟨q0, hq0⟩ : ∃ q, q = p3.heap.size := ⟨_, rfl⟩
        obtain ⟨w5, hw5⟩ : ∃ w5, w5 = p3.alloc (.cells #[.slice A1 n1 c1, .slice A2 n2 c2] 28) := ⟨_, rfl⟩
        have HLT := Lib.hid (show q0 < w5.heap.size by rw [hw5, hq0]; simp)
        have HW5 := Lib.hid hw5
        have HQ0 := Lib.hid hq0
        rw [<- hw5, <- hq0] at HRW
        rw [<- hw5] at HP HI
        obtain rfl : n = n1 := by have := HP.out.l1; have := HSL.out; omega
        clear hb hOk HA0 hq0 hw5 KP
        go_wp2
        go_loopw [7] (fun iv wr => ∃ j : Nat, j <= n /\ iv = .int .i64 j /\ Hid (Below w5.heap.size w5 wr)) (fun i _ => n - (intOf i).toNat)
        case atStart => exact ⟨0, Nat.zero_le _, rfl, Lib.hid (by rw [<- HW5.out]; exact Below.refl _ _)⟩
        case round =>
          obtain ⟨j, hj, rfl, HB⟩ := hrel
          have HI := Lib.hid (HI.out.trans (HB.out.mono HI.out.size))
          by_cases hlt : j < n
          · obtain ⟨S1, C1, hA1⟩ := HONE.out j hlt
            have KO := Lib.hid (OX.out j 1 (c - j) wr HI.out (by omega))
            have KA := Lib.hid (KX.out _ 1 (by omega) S1 C1 hA1)
            clear hA1
            have hwr : IntKind.wrap .i64 ((j : Int) + 1) = (j : Int) + 1 := IntWalk.i64_in _ (by omega)
            have hcc : j + 1 <= c := by have := HN.out.1.2; omega
            go_wp2_with fail
            refine KO.out.mono ?_
            rintro e o1 ⟨F1, d1, l1, rfl, hl, hp, hts, hz, b⟩
            have HI := Lib.hid (HI.out.trans (b.mono HI.out.size))
            have HB := Lib.hid (HB.out.trans (b.mono HB.out.size))
            have KP1 := Lib.hid (KA.out F1 d1 l1 o1 HI.out hl hp hts)
            clear b hl hp hts hz
            go_wp2_with fail
            refine KP1.out.mono ?_
            rintro e p1 ⟨A3, n3, c3, A4, n4, c4, rfl, hP, b⟩
            have HB := Lib.hid (HB.out.trans (b.mono HB.out.size))
            have hb : Below p1.heap.size p1 (p1.alloc (.cells #[.slice A3 n3 c3, .slice A4 n4 c4] 28)) := below_alloc _
            have HB := Lib.hid (HB.out.trans (hb.mono HB.out.size))
            clear b KP1 hP hb
            go_wp2
            go_roundw
            case rel => exact ⟨j + 1, by omega, by go_num, HB⟩
            case measure => simp [intOf]; omega
          · obtain rfl : j = n := by omega
            obtain ⟨s, hs, hhv⟩ := HLAST.out
            have hkn : k < j := by have := HN.out.2.1; omega
            have hwr : IntKind.wrap .i64 ((j : Int) - 1) = (k : Int) := by have := HN.out.2.1; rw [IntKind.wrap_i64]; omega
            have HP := Lib.hid (HP.out.via HB.out)
            have r := HRW.out.below HB.out HLT.out
            have q1 := r.cell (j := 0) rfl
            rw [HQ0.out] at q1
            obtain ⟨b2, off2, st, sl, sm, sd, sp, rfl, hb2, hs2, g0, g1, g2, g3, g4⟩ := HP.out.shp.at_ (k := k) (by rw [HSL.out]; exact hkn)
            obtain rfl := Option.some.inj (hs.symm.trans hs2)
            have KH := Lib.hid (fun W (b : Below w.heap.size w W) => cheavy_any ⟨st, sl, sm, sd, sp⟩ W (TT.out W b))
            unfold Shp.val at KH
            dsimp only at KH
            obtain ⟨hv, hhv2⟩ : ∃ x, x = heavyS ⟨st, sl, sm, sd, sp⟩ := ⟨_, rfl⟩
            rw [<- hhv2] at KH hhv
            have HHV := Lib.hid hhv
            clear hhv hhv2 hs hs2 r
            go_wp2_with fail
            refine (KH.out _ HI.out).mono ?_
            rintro e u1 ⟨rfl, b⟩
            have HI := Lib.hid (HI.out.trans (b.mono HI.out.size))
            clear b KH q1 g0 g1 g2 g3 g4
            cases hv with
            | false =>
              go_wp2
              go_ret
              exact ⟨rfl, HI.out⟩
            | true =>
              obtain ⟨S1, C1, hA1⟩ := HHV.out (by trivial)
              have hko := OX.out 0 k c u1 HI.out (by omega)
              simp only [Nat.zero_mul, Nat.add_zero] at hko
              have KO := Lib.hid hko
              have KA := Lib.hid (KX.out _ k (by have := HN.out; omega) S1 C1 hA1)
              have hcc : k <= c := by have := HN.out.1.2; omega
              clear hA1 hko
              go_wp2_with fail
              refine KO.out.mono ?_
              rintro e o1 ⟨F1, d1, l1, rfl, hl, hp, hts, hz, b⟩
              have HI := Lib.hid (HI.out.trans (b.mono HI.out.size))
              have KP1 := Lib.hid (KA.out F1 d1 l1 o1 HI.out hl hp hts)
              clear b hl hp hts hz
              go_wp2_with fail
              refine KP1.out.mono ?_
              rintro e p1 ⟨A3, n3, c3, A4, n4, c4, rfl, hP, b⟩
              have HI := Lib.hid (HI.out.trans (b.mono HI.out.size))
              have hb : Below p1.heap.size p1 (p1.alloc (.cells #[.slice A3 n3 c3, .slice A4 n4 c4] 28)) := below_alloc _
              have HI := Lib.hid (HI.out.trans (hb.mono HI.out.size))
              clear b KP1 hP hb
              go_wp2
              go_ret
              exact ⟨rfl, HI.out⟩
      · clear hb
        have hne : (er != 0) = true := by simpa using h0
        go_wp2
        go_ret
        exact ⟨rfl, HI.out⟩
  · have FW := Lib.hid (fun W (b : Below w.heap.size w W) => fewts_any (c := c) W hn (h.via b) false ⟨fun q => Bool.noConfusion q, fun q => absurd q hf⟩)
    clear h hT hn hf
    go_enter Tryz.func8, Tryz.ntmps8
    go_wp2_with fail
    refine (AW.out _ HI.out).mono ?_
    rintro e v1 ⟨rfl, b⟩
    have HI := Lib.hid (HI.out.trans (b.mono HI.out.size))
    clear b
    go_wp2_with fail
    refine (FW.out _ HI.out).mono ?_
    rintro e v2 ⟨rfl, b⟩
    have HI := Lib.hid (HI.out.trans (b.mono HI.out.size))
    clear b
    go_wp2_with fail
    refine (AW.out _ HI.out).mono ?_
    rintro e v3 ⟨rfl, b⟩
    have HI := Lib.hid (HI.out.trans (b.mono HI.out.size))
    clear b
    go_wp2
    go_ret
    exact ⟨rfl, HI.out⟩
end Go.Proofs.YtlfekmbalgkmeaaGreatDoor
