import Derived.Test.YtlfekmbalgkmeaaGreatDoorYM34
import Derived.Test.YtlfekmbalgkmeaaGreatDoorYM38
import Derived.Test.YtlfekmbalgkmeaaGreatDoorYM35
import Derived.Test.YtlfekmbalgkmeaaGreatDoorYM6
import Derived.BigQuiet
set_option linter.unusedSimpArgs false
set_option linter.unnecessarySimpa false
set_option linter.unusedVariables false
set_option maxRecDepth 100000
set_option maxHeartbeats 32000000
namespace Go.Proofs.YtlfekmbalgkmeaaGreatDoor
open Go Go.RowKit
theorem light_on (S: List Shp) (C: List (List Int)) (x: Int): shpsL S (lightQ S C x) = onL S C x:=by
 have h2:=light_is S C x (min S.length C.length) (Nat.min_le_left ..) (Nat.min_le_right ..)
 rw [onL_min] at h2
 exact h2
theorem light_onlen (S: List Shp) (C: List (List Int)) (x: Int): (onL S C x).length = (lightQ S C x).length:=by
 rw [<- light_on]
 exact light_len S C x _ (Nat.min_le_left ..)
theorem light_step {S: List Shp} {C: List (List Int)} {x: Int} {j y: Nat} (hj: (lightQ S C x)[j]? = some y): ∃ s,S[y]? = some s /\ shpsL S ((lightQ S C x).take (j + 1)) = shpsL S ((lightQ S C x).take j) ++ [s]:=by
 have hy: y < S.length:=lightQ_lt17 y (List.mem_of_getElem? hj)
 refine ⟨S[y],List.getElem?_eq_getElem hy,?_⟩
 rw [take_one hj]
 unfold shpsL
 rw [List.filterMap_append]
 congr 1
 simp [List.filterMap_cons,List.getElem?_eq_getElem hy]
def RiseTo (q: Int) (c: List Int) (k: Nat): Prop:=(∀ (y: Nat) x,y < k -> c[y]? = some x -> 0 <= x /\ x < q) /\ ∀ (y: Nat) x x',y + 1 < k -> c[y]? = some x -> c[y + 1]? = some x' -> x < x'
theorem RiseTo.next {q: Int} {c: List Int} {k: Nat} {z: Int} (h: RiseTo q c k) (hz: c[k]? = some z) (h0: 0 <= z /\ z < q) (hp: ∀ y,0 < k -> c[k - 1]? = some y -> y < z): RiseTo q c (k + 1):=by
 refine ⟨fun y x hy hx => ?_,fun y x x' hy hx hx' => ?_⟩
 ·by_cases e: y = k
  ·subst e
   obtain rfl:=Option.some.inj (hz.symm.trans hx)
   exact h0
  ·exact h.1 y x (by omega) hx
 ·by_cases e: y + 1 = k
  ·subst e
   obtain rfl:=Option.some.inj (hz.symm.trans hx')
   exact hp x (by omega) (by simpa using hx)
  ·exact h.2 y x x' (by omega) hx hx'
theorem RiseTo.all {q: Int} {c: List Int} (h: RiseTo q c c.length): Rise q 0 c:=Rise.pairs.mpr ⟨fun k x hx => h.1 k x (List.getElem?_eq_some_iff.mp hx).1 hx,fun k x y hx hy => h.2 k x y (List.getElem?_eq_some_iff.mp hy).1 hx hy⟩
theorem rright17_any {A : Option Addr} {n c : Nat} {G : Option Addr} {m d : Nat} {S : List Shp} {C : List (List Int)} (q : Int) (wf : World) (h : IsPl wf A n c G m d S C) (hf : FewP S C) (r : Bool) (hr : r = true ↔ RightQ S C q) :
    Calls Tryz.prog 18 #[.agg #[.slice A n c, .slice G m d], .int .i64 q] wf fun e w' => e = .returned (.bool r) /\ Below wf.heap.size wf w' := by
  obtain ⟨q0, hq0⟩ : ∃ q0, q0 = wf.heap.size := ⟨_, rfl⟩
  obtain ⟨w5, hw5⟩ : ∃ w5, w5 = wf.alloc (.cells #[.slice A n c, .slice G m d] 28) := ⟨_, rfl⟩
  have hrw : RowV q0 28 [.slice A n c, .slice G m d] w5 := by rw [hq0, hw5]; exact RowV.new _ _ _
  have hlt5 : q0 < w5.heap.size := by rw [hw5, hq0]; simp
  have hb5 : Below wf.heap.size wf w5 := by rw [hw5]; exact below_alloc _
  have HPL := Lib.hid (fun W (b : Below w5.heap.size w5 W) => (h.via (hb5.trans (b.mono hb5.size)) : IsPl W A n c G m d S C))
  have HRF := Lib.hid (fun W (b : Below w5.heap.size w5 W) => hrw.below b hlt5)
  have HIF := Lib.hid (fun W (b : Below w5.heap.size w5 W) => (hb5.trans (b.mono hb5.size) : Below wf.heap.size wf W))
  have HN := Lib.hid (show S.length = n /\ C.length = m from ⟨h.l1, h.l2⟩)
  have HF := Lib.hid hf
  have HRr := Lib.hid hr
  have HQ0 := Lib.hid hq0
  have HW5 := Lib.hid hw5
  have z0 := hrw.cell (j := 0) rfl
  have z1 := hrw.cell (j := 1) rfl
  rw [hw5, hq0] at z0 z1
  have HB5 := Lib.hid (show Below w5.heap.size w5 (wf.alloc (.cells #[.slice A n c, .slice G m d] 28)) from by rw [<- hw5]; exact Below.refl _ _)
  clear h hf hr hq0 hw5 hrw hlt5 hb5
  by_cases hq : 1 <= q /\ q <= 8
  · obtain ⟨qn, rfl⟩ : ∃ qn : Nat, q = (qn : Int) := ⟨q.toNat, by omega⟩
    have HQ := Lib.hid hq
    have u1 : decide ((qn : Int) < 1) = false := decide_eq_false (by omega)
    have u2 : decide ((qn : Int) > 8) = false := decide_eq_false (by omega)
    by_cases h8 : n <= 8
    · have u3 : decide ((n : Int) > 8) = false := decide_eq_false (by omega)
      by_cases hmn : m = n
      · subst hmn
        clear hq
        go_enter Tryz.func18, Tryz.ntmps18
        go_wp2
        clear u1 u2 u3 z0 z1
        have H8 := Lib.hid h8
        go_loopw [5] (fun iv wr => ∃ j : Nat, j <= m /\ iv = .int .i64 j /\ Hid (∀ (x : Nat) s c, x < j -> S[x]? = some s -> C[x]? = some c -> SuitQ (qn : Int) s c) /\ Hid (Below w5.heap.size w5 wr)) (fun i _ => m - (intOf i).toNat)
        case atStart => exact ⟨0, Nat.zero_le _, rfl, Lib.hid (fun x s c hx => absurd hx (Nat.not_lt_zero _)), HB5⟩
        case round =>
          obtain ⟨j, hj, rfl, HSu, HB⟩ := hrel
          have hrow := HRF.out _ HB.out
          have r0 := hrow.cell (j := 0) rfl
          have r1 := hrow.cell (j := 1) rfl
          rw [HQ0.out] at r0 r1
          clear hrow
          by_cases hlt : j < m
          · obtain ⟨b, off, t, lg, mo, dd, pp, rfl, hbg, hek, c0, c1, c2, c3, c4⟩ := (HPL.out _ HB.out).shp.at_ (k := j) (by rw [HN.out.1]; exact hlt)
            obtain ⟨b2, off2, cr, K, nk, ck, rfl, hb2, hcr, hnk, x1, i1, z1⟩ := (HPL.out _ HB.out).lol.at_ (k := j) (by rw [HN.out.2]; exact hlt)
            have HEK := Lib.hid hek
            have HCR := Lib.hid hcr
            obtain ⟨fs, hfs⟩ : ∃ y, y = faultS ⟨t, lg, mo, dd, pp⟩ := ⟨_, rfl⟩
            obtain ⟨cs, hcs⟩ : ∃ y, y = coresS ⟨t, lg, mo, dd, pp⟩ := ⟨_, rfl⟩
            have KC := Lib.hid (rcores_any ⟨t, lg, mo, dd, pp⟩ wr)
            rw [<- hfs, <- hcs] at KC
            unfold Shp.val at KC
            dsimp only at KC
            have HFS := Lib.hid hfs
            have HCS := Lib.hid hcs
            have HNK := Lib.hid (show cr.length = nk /\ nk <= 12 from ⟨hnk, by have := HF.out.f3 _ (List.mem_of_getElem? hcr); omega⟩)
            have HX := Lib.hid (fun W (b' : Below wr.heap.size wr W) => And.intro ((b'.cell (p := ⟨b2, off2 + j, none⟩) hb2).trans x1) ((i1.below b').more b'.size))
            clear hek hcr hfs hcs hnk x1 i1 z1 hb2 hbg
            go_wp2_with fail
            refine KC.out.mono ?_
            rintro e w1 ⟨rfl, b1⟩
            have HB1 := Lib.hid (HB.out.trans (b1.mono HB.out.size))
            have HX := Lib.hid (HX.out w1 b1)
            have hrow := HRF.out _ HB1.out
            have q1 := hrow.cell (j := 1) rfl
            rw [HQ0.out] at q1
            have y1 := HX.out.1
            clear hrow b1 KC r0 r1 c0 c1 c2 c3 c4
            by_cases hf0 : fs = 0
            · subst hf0
              by_cases hl : (nk : Int) = cs
              · subst hl
                clear hj
                go_wp2
                clear q1 y1
                go_loopw [9] (fun kv wx => ∃ k : Nat, k <= nk /\ kv = .int .i64 k /\ Hid (RiseTo (qn : Int) cr k) /\ Hid (Below w1.heap.size w1 wx)) (fun v _ => nk - (intOf v).toNat)
                case atStart => exact ⟨0, Nat.zero_le _, rfl, Lib.hid ⟨fun y x hy => absurd hy (Nat.not_lt_zero _), fun y x x' hy => absurd hy (Nat.not_lt_zero _)⟩, Lib.hid (Below.refl _ _)⟩
                case round =>
                  obtain ⟨k, hk, rfl, HR, HBx⟩ := hrel
                  have hnk12 : nk <= 12 := HNK.out.2
                  by_cases hkn : k < nk
                  · have hI := (HX.out.2.below HBx.out)
                    obtain ⟨b4, off4, zz, rfl, hb4, hz, y4⟩ := hI.at_ (k := k) (by rw [HNK.out.1]; exact hkn)
                    have HZ := Lib.hid hz
                    by_cases g1 : zz < 0
                    · have d1 : decide (zz < 0) = true := decide_eq_true g1
                      have HG := Lib.hid g1
                      clear hI hz hb4 g1 hlt
                      go_wp2
                      go_quiet (fail)
                      have HF0 := Lib.hid (show r = false by
                        cases r with
                        | false => rfl
                        | true => exact absurd (HRr.out.mp rfl) (fun z => by have := ((Rise.pairs.mp (z.suit j _ _ HEK.out HCR.out).2.2).1 k zz HZ.out).1; have := HG.out; omega))
                      go_wp2
                      refine bodyPost_ret (v := .bool false) ?_ rfl ⟨by rw [HF0.out], HIF.out _ (HB1.out.trans ((HBx.out.trans ((below_drewN (Below.refl _ _) nq).mono HBx.out.size)).mono HB1.out.size))⟩
                      simp [results, Tryz.results18, go_sem]
                    · have d1 : decide (zz < 0) = false := decide_eq_false g1
                      by_cases g2 : zz ≥ (qn : Int)
                      · have d2 : decide (zz ≥ (qn : Int)) = true := decide_eq_true g2
                        have HG := Lib.hid g2
                        clear hI hz hb4 g1 g2 hlt
                        go_wp2
                        go_quiet (fail)
                        have HF0 := Lib.hid (show r = false by
                          cases r with
                          | false => rfl
                          | true => exact absurd (HRr.out.mp rfl) (fun z => by have := ((Rise.pairs.mp (z.suit j _ _ HEK.out HCR.out).2.2).1 k zz HZ.out).2; have := HG.out; omega))
                        go_wp2
                        refine bodyPost_ret (v := .bool false) ?_ rfl ⟨by rw [HF0.out], HIF.out _ (HB1.out.trans ((HBx.out.trans ((below_drewN (Below.refl _ _) nq).mono HBx.out.size)).mono HB1.out.size))⟩
                        simp [results, Tryz.results18, go_sem]
                      · have d2 : decide (zz ≥ (qn : Int)) = false := decide_eq_false g2
                        have HG := Lib.hid (show 0 <= zz /\ zz < (qn : Int) from ⟨by omega, by omega⟩)
                        by_cases hk0 : 0 < k
                        · have d3 : decide ((k : Int) > 0) = true := decide_eq_true (by omega)
                          have d3' : decide (0 < k) = true := decide_eq_true (by omega)
                          obtain ⟨k1, hk1⟩ : ∃ k1 : Nat, k1 = k - 1 := ⟨_, rfl⟩
                          obtain ⟨b5, off5, zp, hA5, hb5, hzp, y5⟩ := hI.at_ (k := k1) (by rw [HNK.out.1]; omega)
                          injection hA5 with hA5
                          injection hA5 with e1 e2
                          subst e1 e2
                          have hzp' : cr[k - 1]? = some zp := by rw [<- hk1]; exact hzp
                          have HZP := Lib.hid hzp'
                          have d4 : IntKind.i64.wrap ((k : Int) - 1) = (k1 : Int) := by rw [IntWalk.i64_in _ (by omega)]; omega
                          have d5 : k1 < nk := by omega
                          have HK1 := Lib.hid (show k1 + 1 = k by omega)
                          by_cases g3 : zp ≥ zz
                          · have d6 : decide (zp ≥ zz) = true := decide_eq_true g3
                            have HG3 := Lib.hid g3
                            clear hI hz hb4 g1 g2 hlt hk1 hzp hzp' hb5 hk0 g3
                            go_wp2
                            go_quiet (fail)
                            have HF0 := Lib.hid (show r = false by
                              cases r with
                              | false => rfl
                              | true => exact absurd (HRr.out.mp rfl) (fun z => by have := (Rise.pairs.mp (z.suit j _ _ HEK.out HCR.out).2.2).2 k1 zp zz (by have := HZP.out; rw [<- HK1.out, Nat.add_sub_cancel] at this; exact this) (by rw [HK1.out]; exact HZ.out); have := HG3.out; omega))
                            go_wp2
                            refine bodyPost_ret (v := .bool false) ?_ rfl ⟨by rw [HF0.out], HIF.out _ (HB1.out.trans ((HBx.out.trans ((below_drewN (Below.refl _ _) nq).mono HBx.out.size)).mono HB1.out.size))⟩
                            simp [results, Tryz.results18, go_sem]
                          · have d6 : decide (zp ≥ zz) = false := decide_eq_false g3
                            have HR2 := Lib.hid (HR.out.next HZ.out HG.out (fun y _ hy => by rw [hzp'] at hy; have := Option.some.inj hy; omega))
                            clear hI hz hb4 g1 g2 hlt hk1 hzp hzp' hb5 hk0 g3
                            go_wp2
                            go_quiet (fail)
                            have HB3 := Lib.hid (HBx.out.trans ((below_drewN (Below.refl _ _) nq).mono HBx.out.size))
                            clear d1 d2 d3 d3' d4 d5 d6 y4 y5
                            go_wp2
                            go_roundw
                            case rel => exact ⟨k + 1, by omega, by go_num, HR2, HB3⟩
                            case measure => simp [intOf]; omega
                        · have d3 : decide ((k : Int) > 0) = false := decide_eq_false (by omega)
                          have d3' : decide (0 < k) = false := decide_eq_false (by omega)
                          have HR2 := Lib.hid (HR.out.next HZ.out HG.out (fun y hy _ => absurd hy hk0))
                          clear hI hz hb4 g1 g2 hlt hk0
                          go_wp2
                          go_quiet (fail)
                          have HB3 := Lib.hid (HBx.out.trans ((below_drewN (Below.refl _ _) nq).mono HBx.out.size))
                          clear d1 d2 d3 d3' y4
                          go_wp2
                          go_roundw
                          case rel => exact ⟨k + 1, by omega, by go_num, HR2, HB3⟩
                          case measure => simp [intOf]; omega
                  · obtain rfl : k = nk := by omega
                    have HS1 := Lib.hid (show SuitQ (qn : Int) ⟨t, lg, mo, dd, pp⟩ cr from ⟨HFS.out.symm, by rw [HNK.out.1]; exact HCS.out, by have := HR.out; rw [<- HNK.out.1] at this; exact this.all⟩)
                    have HB3 := Lib.hid (HB1.out.trans (HBx.out.mono HB1.out.size))
                    have h8 := H8.out
                    clear hnk12
                    go_wp2
                    go_roundw
                    case rel => exact ⟨j + 1, by omega, by go_num, Lib.hid (fun x s c hx hs hc => by
                      by_cases e : x = j
                      · subst e
                        rw [HEK.out] at hs
                        rw [HCR.out] at hc
                        obtain rfl := Option.some.inj hs
                        obtain rfl := Option.some.inj hc
                        exact HS1.out
                      · exact HSu.out x s c (by omega) hs hc), HB3⟩
                    case measure => simp [intOf]; omega
              · have e1 : ((nk : Int) == cs) = false := by simpa using hl
                have HL := Lib.hid hl
                clear hl hj
                go_wp2
                have HF0 := Lib.hid (show r = false by
                  cases r with
                  | false => rfl
                  | true => exact absurd (HRr.out.mp rfl) (fun z => HL.out (by rw [<- HNK.out.1, HCS.out]; exact (z.suit j _ _ HEK.out HCR.out).2.1)))
                refine bodyPost_ret (v := .bool false) ?_ rfl ⟨by rw [HF0.out], HIF.out _ HB1.out⟩
                simp [results, Tryz.results18, go_sem]
            · have e1 : (fs == 0) = false := by simpa using hf0
              have e2 : (fs != 0) = true := by simpa using hf0
              have HL := Lib.hid hf0
              clear hf0 hj
              go_wp2
              have HF0 := Lib.hid (show r = false by
                cases r with
                | false => rfl
                | true => exact absurd (HRr.out.mp rfl) (fun z => HL.out (by rw [HFS.out]; exact (z.suit j _ _ HEK.out HCR.out).1)))
              refine bodyPost_ret (v := .bool false) ?_ rfl ⟨by rw [HF0.out], HIF.out _ HB1.out⟩
              simp [results, Tryz.results18, go_sem]
          · obtain rfl : m = j := by omega
            have HSA := Lib.hid (show ∀ (x : Nat) s c, S[x]? = some s -> C[x]? = some c -> SuitQ (qn : Int) s c from fun x s c hs hc => HSu.out x s c (by have := (List.getElem?_eq_some_iff.mp hs).1; rw [HN.out.1] at this; exact this) hs hc)
            clear HSu hlt hj
            go_wp2
            clear r0 r1
            go_loopw [10] (fun xv wr => ∃ x : Nat, x <= qn /\ xv = .int .i64 x /\ Hid (∀ y : Int, 0 <= y -> y < (x : Int) -> EnoughQ S C y) /\ Hid (Below w5.heap.size w5 wr)) (fun v _ => qn - (intOf v).toNat)
            case atStart => exact ⟨0, Nat.zero_le _, rfl, Lib.hid (fun y h1 h2 => by omega), HB⟩
            case round =>
              obtain ⟨x, hx, rfl, HE, HB⟩ := hrel
              by_cases hxq : x < qn
              · have HXQ := Lib.hid hxq
                have hq8 : qn <= 8 := by have := HQ.out; omega
                go_wp2
                clear h8 hxq hx hq8
                go_loopw [11, 12] (fun cv iv wr => ∃ (i k : Nat), i <= m /\ k <= i /\ iv = .int .i64 i /\ cv = .int .i64 k /\ Hid (cntH (S.take i) (C.take i) (x : Int) = k) /\ Hid (Below w5.heap.size w5 wr)) (fun _ v _ => m - (intOf v).toNat)
                case atStart => exact ⟨0, 0, Nat.zero_le _, Nat.le_refl _, rfl, rfl, Lib.hid (by simp [cntH]), HB⟩
                case round =>
                  clear HB
                  obtain ⟨i, k, hi, hki, rfl, rfl, HC, HB⟩ := hrel
                  have h8 : m <= 8 := H8.out
                  have hrow := HRF.out _ HB.out
                  have r0 := hrow.cell (j := 0) rfl
                  have r1 := hrow.cell (j := 1) rfl
                  rw [HQ0.out] at r0 r1
                  clear hrow
                  by_cases hlt : i < m
                  · obtain ⟨b, off, t, lg, mo, dd, pp, rfl, hbg, hek, c0, c1, c2, c3, c4⟩ := (HPL.out _ HB.out).shp.at_ (k := i) (by rw [HN.out.1]; exact hlt)
                    obtain ⟨b2, off2, cr, K, nk, ck, rfl, hb2, hcr, hnk, x1, i1, z1⟩ := (HPL.out _ HB.out).lol.at_ (k := i) (by rw [HN.out.2]; exact hlt)
                    have HEK := Lib.hid hek
                    have HCR := Lib.hid hcr
                    have hOk : Shp.Ok ⟨t, lg, mo, dd, pp⟩ := (coresS_pos (HSA.out i _ _ hek hcr).1).2.2.1
                    have HCN := Lib.hid (cntH_snoc (k := (x : Int)) hek hcr)
                    by_cases hdt : t > dd
                    · have e1 : decide (t > dd) = true := decide_eq_true hdt
                      have hhv : heavyS ⟨t, lg, mo, dd, pp⟩ = true := decide_eq_true ⟨hOk, hdt⟩
                      obtain ⟨rr, hrr⟩ : ∃ y, y = decide ((x : Int) ∈ cr) := ⟨_, rfl⟩
                      have hnk12 : nk <= 12 := by have := HF.out.f3 _ (List.mem_of_getElem? hcr); omega
                      have CH := Lib.hid (fun N => (has_any K ck cr (x : Int) (wr.drewN N) nk hnk (by omega) ((i1.below (below_drewN (Below.refl _ _) N)).more (below_drewN (Below.refl wr.heap.size wr) N).size)).mono fun e w' (h : e = .returned (.bool (decide ((x : Int) ∈ cr))) /\ wr.drewN N = w') => (show e = .returned (.bool rr) /\ w' = wr.drewN N from ⟨by rw [h.1, <- hrr], h.2.symm⟩))
                      have HC2 := Lib.hid (show cntH (S.take (i + 1)) (C.take (i + 1)) (x : Int) = k + if rr = true then 1 else 0 from by
                        rw [HCN.out, HC.out, hhv]
                        cases rr with
                        | false => rw [if_neg (fun z => of_decide_eq_false hrr.symm z.2)]; rfl
                        | true => rw [if_pos ⟨rfl, of_decide_eq_true hrr.symm⟩]; rfl)
                      clear hek hcr hbg hb2 hnk hOk hdt hhv hrr i1 z1 HCN c1 c2 c4
                      go_wp2
                      go_quiet (first | (go_at_call 26; exact Calls.quiet_of_same (CH.out _)))
                      have HB3 := Lib.hid (HB.out.trans ((below_drewN (Below.refl _ _) nq).mono HB.out.size))
                      clear CH c0 c3 x1 r0 r1 e1
                      cases rr with
                      | false =>
                        go_wp2
                        go_roundw
                        case rel => exact ⟨i + 1, k, by omega, by omega, by go_num, rfl, Lib.hid HC2.out, HB3⟩
                        case measure => simp [intOf]; omega
                      | true =>
                        go_wp2
                        go_roundw
                        case rel => exact ⟨i + 1, k + 1, by omega, by omega, by go_num, by go_num, Lib.hid HC2.out, HB3⟩
                        case measure => simp [intOf]; omega
                    · have e1 : decide (t > dd) = false := decide_eq_false hdt
                      have hhv : heavyS ⟨t, lg, mo, dd, pp⟩ = false := decide_eq_false (fun z => hdt z.2)
                      have HC2 := Lib.hid (show cntH (S.take (i + 1)) (C.take (i + 1)) (x : Int) = k from by
                        rw [HCN.out, HC.out, hhv, if_neg (fun z => Bool.noConfusion z.1)]
                        rfl)
                      clear hek hcr hbg hb2 hnk hOk hdt hhv i1 z1 HCN c1 c2 c4
                      go_wp2
                      go_quiet (fail)
                      have HB3 := Lib.hid (HB.out.trans ((below_drewN (Below.refl _ _) nq).mono HB.out.size))
                      clear c0 c3 x1 r0 r1 e1
                      go_wp2
                      go_roundw
                      case rel => exact ⟨i + 1, k, by omega, by omega, by go_num, rfl, HC2, HB3⟩
                      case measure => simp [intOf]; omega
                  · obtain rfl : m = i := by omega
                    have HC := Lib.hid (show cntH S C (x : Int) = k from by
                      have := HC.out
                      rw [List.take_of_length_le (by rw [HN.out.1]; exact Nat.le_refl _), List.take_of_length_le (by rw [HN.out.2]; exact Nat.le_refl _)] at this
                      exact this)
                    have KL := Lib.hid (rlight17_any (x : Int) wr (HPL.out _ HB.out) HF.out)
                    have HKI := Lib.hid hki
                    clear hlt hi hki
                    go_wp2_with fail
                    refine KL.out.mono ?_
                    rintro e w2 ⟨Gl, ns, ds, rfl, b2, hns, hO2⟩
                    have HB := Lib.hid (HB.out.trans (b2.mono HB.out.size))
                    clear r0 r1
                    have hrow := HRF.out _ HB.out
                    have r0 := hrow.cell (j := 0) rfl
                    rw [HQ0.out] at r0
                    clear hrow
                    have HNS := Lib.hid (show (lightQ S C (x : Int)).length = ns /\ ns <= 20 from ⟨hns, by have := lightQ_le S C (x : Int); have := HF.out.f1; omega⟩)
                    have HSH := Lib.hid (show Ints w2 w2.heap.size Gl (nums (lightQ S C (x : Int))) from hO2.ints)
                    clear b2 hns hO2 KL
                    have be : Below w2.heap.size w2 (w2.alloc (.cells #[] 44)) := below_alloc _
                    have HE := Lib.hid be
                    have HS0 := Lib.hid (show OwnS (w2.alloc (.cells #[] 44)) w2.heap.size (.slice (some ⟨w2.heap.size, 0, none⟩) 0 0) [] from ⟨rfl, .inr ⟨w2.heap.size, 0, #[], rfl, Nat.le_refl _, heap_alloc_new w2 _, Nat.le_refl _, by simp [maxLen], rfl, rfl⟩⟩)
                    clear be
                    go_wp2
                    go_loopw [14, 15] (fun ev jv wr => ∃ (j d2 : Nat) (F2 : Option Addr), j <= ns /\ jv = .int .i64 j /\ ev = .slice F2 j d2 /\ Hid (OwnS wr w2.heap.size (.slice F2 j d2) (shpsL S ((lightQ S C (x : Int)).take j))) /\ Hid (Below w2.heap.size w2 wr)) (fun _ v _ => ns - (intOf v).toNat)
                    case atStart => exact ⟨0, _, _, Nat.zero_le _, rfl, rfl, HS0, HE⟩
                    case round =>
                      obtain ⟨j, E2, E1, hj, rfl, rfl, HSS, HB2⟩ := hrel
                      clear HS0 HE
                      have HB5 := Lib.hid (HB.out.trans (HB2.out.mono HB.out.size))
                      by_cases hjn : j < ns
                      · obtain ⟨b4, off4, z, rfl, hb4, hz, y1⟩ := (HSH.out).at_ (k := j) (by rw [nums_len, HNS.out.1]; exact hjn)
                        obtain ⟨idx, hidx, rfl⟩ := nums_at17 hz
                        obtain ⟨s, hs, hsn⟩ := light_step hidx
                        have hil : idx < m := by have := (List.getElem?_eq_some_iff.1 hs).1; rw [HN.out.1] at this; exact this
                        obtain ⟨b, off, st, sl, sm, sd, sp, rfl, hbl, hsk, g0, g1, g2, g3, g4⟩ := (HPL.out _ HB.out).shp.at_ (k := idx) (by rw [HN.out.1]; exact hil)
                        obtain rfl := Option.some.inj (hs.symm.trans hsk)
                        have HX1 := Lib.hid (fun W (b' : Below w2.heap.size w2 W) => (b'.cell (p := ⟨b4, off4 + j, none⟩) hb4).trans y1)
                        have HX2 := Lib.hid (fun W (b' : Below w2.heap.size w2 W) => And.intro (And.intro ((b'.cell (p := ⟨b, off + idx * 5, none⟩) hbl).trans g0) ((b'.cell (p := ⟨b, off + idx * 5 + 1, none⟩) hbl).trans g1)) (And.intro ((b'.cell (p := ⟨b, off + idx * 5 + 2, none⟩) hbl).trans g2) (And.intro ((b'.cell (p := ⟨b, off + idx * 5 + 3, none⟩) hbl).trans g3) ((b'.cell (p := ⟨b, off + idx * 5 + 4, none⟩) hbl).trans g4))))
                        have HSN := Lib.hid hsn
                        have HW2 := Lib.hid (show w2.heap.size <= wr.heap.size from HB2.out.size)
                        obtain ⟨vL, hvL⟩ : ∃ v, v = Value.slice E1 j E2 := ⟨_, rfl⟩
                        obtain ⟨es, hes⟩ : ∃ es, es = shpsL S ((lightQ S C (x : Int)).take j) := ⟨_, rfl⟩
                        have hgl : ∀ e, vL.ownBlock = some e -> e < wr.heap.size := fun e he => by
                          rw [hvL] at he
                          obtain ⟨_, cur, hh⟩ := own_at HSS.out he
                          exact (Array.getElem?_eq_some_iff.1 hh).1
                        have HGl := Lib.hid hgl
                        have HEL := Lib.hid (show es.length = j /\ j <= 20 from ⟨by rw [hes, shpsL_len (fun y hy => lightQ_lt17 y (List.mem_of_mem_take hy)), List.length_take, HNS.out.1]; omega, by have := HNS.out.2; omega⟩)
                        rw [<- hvL, <- hes] at HSS
                        rw [<- hvL]
                        have HES := Lib.hid hes
                        clear hz hidx hs hsn hsk hbl hb4 y1 g0 g1 g2 g3 g4 hvL hes hgl
                        go_wp2_with fail
                        refine wp_region_univ0 [147, 148, 149, 150, 151, 152, 153, 154, 155, 156, 157, 14] (by kernel_rfl) (by kernel_rfl) (by kernel_rfl) (by intro d hd; simp at hd ⊢; omega) (by simp) (fun W => Below w2.heap.size w2 W /\ wr.heap.size <= W.heap.size) (PhiSg w2.heap.size q0 b off m c b4 off4 ns ds j idx vL es ⟨st, sl, sm, sd, sp⟩) (PreSg w2.heap.size vL es) (RSg w2.heap.size vL es) ?hI ?hΦ ?hP ?h0 ?hp0 ?hstep ?hend
                        case hI =>
                          rintro i w w' ⟨q1, q2⟩ hr
                          rcases rSg_ways hr with ⟨_, hO, hg⟩ | ⟨_, hb⟩
                          · exact ⟨q1.grown hg q1.size (fun e he => (own_at hO he).1), Nat.le_trans q2 hg.size⟩
                          · exact ⟨q1.trans (hb.mono q1.size), Nat.le_trans q2 hb.size⟩
                        case hΦ =>
                          intro i y v w w' hki hnw h hr
                          refine phiSg_keep hki ?_ h hr
                          rintro ⟨rfl, rfl⟩
                          have := hnw _ rfl
                          simp [Region.binds] at this
                        case hP =>
                          intro i y w w' hki h hr
                          by_cases h10 : y = 10
                          · subst h10
                            rcases rSg_ways hr with ⟨e, _, _⟩ | ⟨_, hb⟩
                            · exact absurd e.symm hki
                            · exact own_below (show OwnS w w2.heap.size vL es from h) hb
                          · unfold PreSg
                            split
                            · exact absurd rfl h10
                            · exact trivial
                        case h0 => exact ⟨HB2.out.drew, Nat.le_refl _⟩
                        case hp0 =>
                          intro y
                          unfold PreSg
                          split
                          · exact own_below HSS.out (Below.refl _ _).drew
                          · exact trivial
                        case hstep =>
                          rintro y o ho a w ⟨hI, hsz⟩ hPre hA hd hl K hK
                          obtain ⟨ρ, hρ⟩ : ∃ ρ, a.eval = ρ := ⟨_, rfl⟩
                          rw [hρ] at hA hd hl
                          match y, ho, hPre, hl, hK with
                          | 0, ho, hPre, hl, hK =>
                            have f16 : ρ (.tmp 14) = vL := hl 11 _ rfl (by kernel_rfl)
                            have hoo := Option.some.inj ho
                            subst hoo
                            exact ux_val hK hρ (by decide) vL w (by simp [execOp, f16, go_sem]) rfl (Below.refl _ _)
                          | 1, ho, hPre, hl, hK =>
                            have hoo := Option.some.inj ho
                            subst hoo
                            have f7 : ρ (.tmp 2) = .pointer (some ⟨q0, 0, none⟩) := (hA.tmp 2 (by decide)).trans (by rw [HQ0.out]; rfl)
                            exact ux_val hK hρ (by decide) (.pointer (some ⟨q0, 0, none⟩)) w (by simp [execOp, f7, go_sem]) rfl (Below.refl _ _)
                          | 2, ho, hPre, hl, hK =>
                            have hoo := Option.some.inj ho
                            subst hoo
                            have f1 : ρ (.tmp 148) = .pointer (some ⟨q0, 0, none⟩) := hd ⟨1, .data⟩ (by simp) (by rfl)
                            have r0 := (HRF.out _ (HB.out.trans (hI.mono HB.out.size))).cell (j := 0) rfl
                            exact ux_val hK hρ (by decide) (.slice (some ⟨b, off, none⟩) m c) w (by simp [execOp, f1, r0, go_sem]) rfl (Below.refl _ _)
                          | 3, ho, hPre, hl, hK =>
                            have hoo := Option.some.inj ho
                            subst hoo
                            have h15 : ρ (.tmp 13) = .slice (some ⟨b4, off4, none⟩) ns ds := hA.tmp 13 (by decide)
                            exact ux_val hK hρ (by decide) (.slice (some ⟨b4, off4, none⟩) ns ds) w (by simp [execOp, h15, go_sem]) rfl (Below.refl _ _)
                          | 4, ho, hPre, hl, hK =>
                            have hoo := Option.some.inj ho
                            subst hoo
                            have h17 : ρ (.tmp 15) = .int .i64 j := hA.tmp 15 (by decide)
                            exact ux_val hK hρ (by decide) (.int .i64 j) w (by simp [execOp, h17, go_sem]) rfl (Below.refl _ _)
                          | 5, ho, hPre, hl, hK =>
                            have hoo := Option.some.inj ho
                            subst hoo
                            have f3 : ρ (.tmp 150) = .slice (some ⟨b4, off4, none⟩) ns ds := hd ⟨3, .data⟩ (by simp) (by rfl)
                            have f4 : ρ (.tmp 151) = .int .i64 j := hd ⟨4, .data⟩ (by simp) (by rfl)
                            exact ux_val hK hρ (by decide) (.pointer (some ⟨b4, off4 + j, none⟩)) w (by simp [execOp, f3, f4, hjn, go_sem]) rfl (Below.refl _ _)
                          | 6, ho, hPre, hl, hK =>
                            have hoo := Option.some.inj ho
                            subst hoo
                            have f5 : ρ (.tmp 152) = .pointer (some ⟨b4, off4 + j, none⟩) := hd ⟨5, .data⟩ (by simp) (by rfl)
                            have y1 := HX1.out w hI
                            exact ux_val hK hρ (by decide) (.int .i64 idx) w (by simp [execOp, f5, y1, go_sem]) rfl (Below.refl _ _)
                          | 7, ho, hPre, hl, hK =>
                            have hoo := Option.some.inj ho
                            subst hoo
                            have f2 : ρ (.tmp 149) = .slice (some ⟨b, off, none⟩) m c := hd ⟨2, .data⟩ (by simp) (by rfl)
                            have f6 : ρ (.tmp 153) = .int .i64 idx := hd ⟨6, .data⟩ (by simp) (by rfl)
                            exact ux_val hK hρ (by decide) (.pointer (some ⟨b, off + idx * 5, none⟩)) w (by simp [execOp, f2, f6, hil, go_sem]) rfl (Below.refl _ _)
                          | 8, ho, hPre, hl, hK =>
                            have hoo := Option.some.inj ho
                            subst hoo
                            have f7 : ρ (.tmp 154) = .pointer (some ⟨b, off + idx * 5, none⟩) := hd ⟨7, .data⟩ (by simp) (by rfl)
                            obtain ⟨⟨x0, x1⟩, x2, x3, x4⟩ := HX2.out w hI
                            exact ux_val hK hρ (by decide) (.agg #[.int .i64 st, .int .i64 sl, .int .i64 sm, .int .i64 sd, .int .i64 sp]) w (by simp [execOp, f7, x0, x1, x2, x3, x4, go_sem]) rfl (Below.refl _ _)
                          | 9, ho, hPre, hl, hK =>
                            have hoo := Option.some.inj ho
                            subst hoo
                            have f8 : ρ (.tmp 155) = .agg #[.int .i64 st, .int .i64 sl, .int .i64 sm, .int .i64 sd, .int .i64 sp] := hd ⟨8, .data⟩ (by simp) (by rfl)
                            refine ux_val hK hρ (by decide) (.slice (some ⟨w.heap.size, 0, none⟩) 1 1) (w.alloc (.cells (shpC ⟨st, sl, sm, sd, sp⟩).toArray 44)) (by simp [execOp, f8, shpC, go_sem]) ⟨_, rfl, heap_alloc_new w _, fun e => ?_⟩ (below_alloc _)
                            have := HGl.out _ e
                            omega
                          | 10, ho, hPre, hl, hK =>
                            have hoo := Option.some.inj ho
                            subst hoo
                            have f0 : ρ (.tmp 147) = vL := hd ⟨0, .data⟩ (by simp) (by rfl)
                            obtain ⟨e, f9, he, hne⟩ : PhiSg w2.heap.size q0 b off m c b4 off4 ns ds j idx vL es ⟨st, sl, sm, sd, sp⟩ 9 (ρ (.tmp 156)) w := hd ⟨9, .data⟩ (by simp) (by rfl)
                            obtain ⟨F3, d3, w', hr, hO', hg'⟩ := push_shp (n := j) HEL.out.1 hPre he (by have := HEL.out.2; omega) hI.size
                            exact ux_val hK hρ (by decide) (.slice F3 (j + 1) d3) w' (exec_append16 (.tmp 147) (.tmp 156) 25 _ _ rfl f0 f9 hr) ⟨F3, d3, rfl, hO'⟩ ⟨hPre, hg'⟩
                          | 11, ho, hPre, hl, hK =>
                            have hoo := Option.some.inj ho
                            subst hoo
                            have f10 : PhiSg w2.heap.size q0 b off m c b4 off4 ns ds j idx vL es ⟨st, sl, sm, sd, sp⟩ 10 (ρ (.tmp 157)) w := hd ⟨10, .data⟩ (by simp) (by rfl)
                            exact ux_val hK hρ (by decide) (ρ (.tmp 157)) w (by simp [execOp, go_sem]) f10 (Below.refl _ _)
                          | y + 12, ho, _, _, _ => simp at ho
                        case hend =>
                          rintro vals w3 ⟨hI, hsz⟩ hF
                          obtain ⟨F3, d3, e11, hO3⟩ : PhiSg w2.heap.size q0 b off m c b4 off4 ns ds j idx vL es ⟨st, sl, sm, sd, sp⟩ 11 (vals 14) w3 := hF 11 (by decide)
                          have HSS := Lib.hid hO3
                          rw [HES.out, <- HSN.out] at HSS
                          have HB2 := Lib.hid hI
                          have hj20 : j <= 20 := HEL.out.2
                          clear hI hsz hF hO3
                          simp only [fillA, fillL, List.contains_cons, List.contains_nil, Nat.reduceBEq, Bool.or_false, Bool.false_or, Bool.or_true, Bool.true_or, cond_true, cond_false, Nat.zero_add, Nat.reduceAdd, e11]
                          clear e11
                          go_wp2
                          go_roundw
                          case rel => exact ⟨j + 1, d3, F3, by omega, by go_num, rfl, HSS, HB2⟩
                          case measure => simp [intOf]; omega
                      · obtain rfl : ns = j := by omega
                        have HLN := Lib.hid (show (onL S C (x : Int)).length = ns /\ ns <= 20 from ⟨by rw [light_onlen, HNS.out.1], HNS.out.2⟩)
                        rw [List.take_of_length_le (by rw [HNS.out.1]; exact Nat.le_refl _), light_on] at HSS
                        have HB := HB5
                        have hns20 : ns <= 20 := HNS.out.2
                        have hk20 : k <= 8 := by have := HKI.out; have := H8.out; omega
                        obtain ⟨rf, hrf⟩ : ∃ rf : Bool, rf = true ↔ FitE (onL S C (x : Int)) := by
                          by_cases z : FitE (onL S C (x : Int))
                          · exact ⟨true, fun _ => z, fun _ => rfl⟩
                          · exact ⟨false, fun y => Bool.noConfusion y, fun y => absurd y z⟩
                        have HRF2 := Lib.hid hrf
                        have KF := Lib.hid (rfits_any (A := E1) (n := ns) (c := E2) (es := onL S C (x : Int)) rf hrf wr HLN.out.1 (by omega) HSS.out.shps)
                        clear hrf hjn hj
                        by_cases g1 : (k : Int) > 1
                        · have d1 : decide ((k : Int) > 1) = true := decide_eq_true g1
                          have d1' : decide (1 < k) = true := decide_eq_true (by omega)
                          have HG := Lib.hid g1
                          clear g1
                          go_wp2
                          have HF0 := Lib.hid (show r = false by
                            cases r with
                            | false => rfl
                            | true => exact absurd (HRr.out.mp rfl) (fun z => by have := (z.enough (x : Int) (by omega) (by have := HXQ.out; omega)).1; rw [HC.out] at this; have := HG.out; omega))
                          refine bodyPost_ret (v := .bool false) ?_ rfl ⟨by rw [HF0.out], HIF.out _ HB.out⟩
                          simp [results, Tryz.results18, go_sem]
                        · by_cases g2 : k = 1
                          · subst g2
                            have HG2 := Lib.hid (show (1 : Nat) = 1 from rfl)
                            by_cases g3 : (ns : Int) > 0
                            · have d3 : decide ((ns : Int) > 0) = true := decide_eq_true g3
                              have d3' : decide (0 < ns) = true := decide_eq_true (by omega)
                              have HG := Lib.hid g3
                              clear g1 g3
                              go_wp2
                              have HF0 := Lib.hid (show r = false by
                                cases r with
                                | false => rfl
                                | true => exact absurd (HRr.out.mp rfl) (fun z => by have := (z.enough (x : Int) (by omega) (by have := HXQ.out; omega)).2.1 (by rw [HC.out]); have h2 := HLN.out.1; rw [this] at h2; have h3 : (0 : Nat) = ns := h2; have := HG.out; omega))
                              refine bodyPost_ret (v := .bool false) ?_ rfl ⟨by rw [HF0.out], HIF.out _ HB.out⟩
                              simp [results, Tryz.results18, go_sem]
                            · have d3 : decide ((ns : Int) > 0) = false := decide_eq_false g3
                              have d3' : decide (0 < ns) = false := decide_eq_false (by omega)
                              have HG := Lib.hid (show cntH S C (x : Int) <= 1 /\ (cntH S C (x : Int) = 1 -> onL S C (x : Int) = []) from ⟨by rw [HC.out]; omega, fun _ => List.length_eq_zero_iff.mp (by rw [HLN.out.1]; omega)⟩)
                              clear g1 g3
                              clear hns20 hk20
                              go_wp2_with fail
                              refine KF.out.mono ?_
                              rintro e w4 ⟨rfl, b4⟩
                              have HB := Lib.hid (HB.out.trans (b4.mono HB.out.size))
                              clear b4 KF
                              cases rf with
                              | true =>
                                have HE2 := Lib.hid (show ∀ y : Int, 0 <= y -> y < ((x + 1 : Nat) : Int) -> EnoughQ S C y from fun y y0 y1 => by
                                  by_cases e : y = (x : Int)
                                  · rw [e]; exact ⟨HG.out.1, HG.out.2, HRF2.out.mp rfl⟩
                                  · exact HE.out y y0 (by omega))
                                have hxq := HXQ.out
                                have hq8 : qn <= 8 := by have := HQ.out; omega
                                go_wp2
                                go_roundw
                                case rel => exact ⟨x + 1, by omega, by go_num, HE2, HB⟩
                                case measure => simp [intOf]; omega
                              | false =>
                                have HF0 := Lib.hid (show r = false by
                                  cases r with
                                  | false => rfl
                                  | true => exact absurd (HRr.out.mp rfl) (fun z => by have := HRF2.out.mpr (z.enough (x : Int) (by omega) (by have := HXQ.out; omega)).2.2; cases this))
                                go_wp2
                                refine bodyPost_ret (v := .bool false) ?_ rfl ⟨by rw [HF0.out], HIF.out _ HB.out⟩
                                simp [results, Tryz.results18, go_sem]
                          · obtain rfl : k = 0 := by omega
                            have HG := Lib.hid (show cntH S C (x : Int) <= 1 /\ (cntH S C (x : Int) = 1 -> onL S C (x : Int) = []) from ⟨by rw [HC.out]; omega, fun z => by rw [HC.out] at z; exact absurd z g2⟩)
                            clear g1 g2
                            clear hns20 hk20
                            go_wp2_with fail
                            refine KF.out.mono ?_
                            rintro e w4 ⟨rfl, b4⟩
                            have HB := Lib.hid (HB.out.trans (b4.mono HB.out.size))
                            clear b4 KF
                            cases rf with
                            | true =>
                              have HE2 := Lib.hid (show ∀ y : Int, 0 <= y -> y < ((x + 1 : Nat) : Int) -> EnoughQ S C y from fun y y0 y1 => by
                                by_cases e : y = (x : Int)
                                · rw [e]; exact ⟨HG.out.1, HG.out.2, HRF2.out.mp rfl⟩
                                · exact HE.out y y0 (by omega))
                              have hxq := HXQ.out
                              have hq8 : qn <= 8 := by have := HQ.out; omega
                              go_wp2
                              go_roundw
                              case rel => exact ⟨x + 1, by omega, by go_num, HE2, HB⟩
                              case measure => simp [intOf]; omega
                            | false =>
                              have HF0 := Lib.hid (show r = false by
                                cases r with
                                | false => rfl
                                | true => exact absurd (HRr.out.mp rfl) (fun z => by have := HRF2.out.mpr (z.enough (x : Int) (by omega) (by have := HXQ.out; omega)).2.2; cases this))
                              go_wp2
                              refine bodyPost_ret (v := .bool false) ?_ rfl ⟨by rw [HF0.out], HIF.out _ HB.out⟩
                              simp [results, Tryz.results18, go_sem]
              · obtain rfl : qn = x := by omega
                have HF0 := Lib.hid (show r = true from HRr.out.mpr ⟨HQ.out, by rw [HN.out.1]; exact H8.out, by rw [HN.out.1, HN.out.2], HSA.out, HE.out⟩)
                clear hxq hx
                go_wp2
                refine bodyPost_ret (v := .bool true) ?_ rfl ⟨by rw [HF0.out], HIF.out _ HB.out⟩
                simp [results, Tryz.results18, go_sem]
      · have he : ((m : Int) == (n : Int)) = false := by simp; omega
        have he2 : (m == n) = false := by simpa using hmn
        have HF0 := Lib.hid (show r = false by
          cases r with
          | false => rfl
          | true => exact absurd (HRr.out.mp rfl) (fun z => hmn (by rw [<- HN.out.1, <- HN.out.2]; exact z.len)))
        clear hq h8 hmn
        go_enter Tryz.func18, Tryz.ntmps18
        go_wp2
        refine bodyPost_ret (v := .bool false) ?_ rfl ⟨by rw [HF0.out], HIF.out _ HB5.out⟩
        simp [results, Tryz.results18, go_sem]
    · have u3 : decide ((n : Int) > 8) = true := decide_eq_true (by omega)
      have HF0 := Lib.hid (show r = false by
        cases r with
        | false => rfl
        | true => exact absurd (HRr.out.mp rfl) (fun z => h8 (by rw [<- HN.out.1]; exact z.few)))
      clear hq h8
      go_enter Tryz.func18, Tryz.ntmps18
      go_wp2
      refine bodyPost_ret (v := .bool false) ?_ rfl ⟨by rw [HF0.out], HIF.out _ HB5.out⟩
      simp [results, Tryz.results18, go_sem]
  · have HL := Lib.hid hq
    have HF0 := Lib.hid (show r = false by
      cases r with
      | false => rfl
      | true => exact absurd (HRr.out.mp rfl) (fun z => HL.out z.may))
    by_cases h1 : q < 1
    · have u1 : decide (q < 1) = true := decide_eq_true h1
      clear hq h1
      go_enter Tryz.func18, Tryz.ntmps18
      go_wp2
      refine bodyPost_ret (v := .bool false) ?_ rfl ⟨by rw [HF0.out], HIF.out _ HB5.out⟩
      simp [results, Tryz.results18, go_sem]
    · have u1 : decide (q < 1) = false := decide_eq_false h1
      have u2 : decide (q > 8) = true := decide_eq_true (by omega)
      clear hq h1
      go_enter Tryz.func18, Tryz.ntmps18
      go_wp2
      refine bodyPost_ret (v := .bool false) ?_ rfl ⟨by rw [HF0.out], HIF.out _ HB5.out⟩
      simp [results, Tryz.results18, go_sem]
end Go.Proofs.YtlfekmbalgkmeaaGreatDoor
