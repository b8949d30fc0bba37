import Derived.Test.YtfpnkcpjhbkgnaaGreatDoorZM10
import Derived.Test.YtfpnkcpjhbkgnaaGreatDoorZM8
import Derived.Test.YtfpnkcpjhbkgnaaGreatDoorZStealAwake
import Derived.Test.YtfpnkcpjhbkgnaaGreatDoorZM35
import Derived.Test.YtfpnkcpjhbkgnaaGreatDoorZM2
import Derived.Test.YtfpnkcpjhbkgnaaGreatDoorZM1
import Derived.Deep.SlicePairs
import Derived.Lib.SmallJoins
set_option linter.unusedSimpArgs false
set_option linter.unusedVariables false
set_option maxRecDepth 100000
set_option maxHeartbeats 8000000
namespace Go.Proofs.YtfpnkcpjhbkgnaaGreatDoor
open Go.RowKit
section
variable {E: List (Int × Int)} {need: List Int} {cores: Nat} {t: List (List Int)}
theorem ranT_const {x : Int} {a : Nat} : ∀ b, a <= b -> (∀ j, a <= j -> j < b -> x ∉ rowT t j) -> ranT t x b = ranT t x a
  | 0, h, _ => by rw [show a = 0 by omega]
  | b + 1, h, hno => by
    rcases Nat.lt_or_ge b a with h1 | h1
    · rw [show a = b + 1 by omega]
    · rw [ranT_step, List.count_eq_zero.mpr (hno b h1 (by omega)), Nat.add_zero]
      exact ranT_const b h1 fun j h2 h3 => hno j h2 (by omega)
theorem Track.end_ {ran lt lc: Nat -> Int} (h: Track cores t t.length ran lt lc) (G: Good E need cores t) (hp: ∀ z ∈ need,1 <= z) {n: Nat} (hx: n < need.length): endV need t (n: Int) = if doneB need ran (n: Int) = true then lt n + 1 else -1:=by
 have h0: (0: Int) <= (n: Int):=by omega
 have hx': (n: Int) < need.length:=by omega
 have hov:=h.over (by rw [List.take_length]; exact G) hp h0 hx'
 have hpos:=needT_pos hp h0 hx'
 rw [hov]
 by_cases hd: needT need (n: Int) <= ranT t (n: Int) t.length
 ·rw [if_pos (decide_eq_true hd)]
  obtain ⟨k,c,e1,e2,hk,hc,hnum,hlast⟩:=h.last n (by omega)
  have hc1: ranT t (n: Int) t.length = ranT t (n: Int) (k + 1):=ranT_const _ (by omega) fun j h1 h2 => hlast j (by omega) h2
  have hmem: (n: Int) ∈ rowT t k:=by rw [<- hnum]; exact num_mem (by rw [G.len hk]; exact hc)
  have hcnt:=List.count_pos_iff.mpr hmem
  have hst:=ranT_step t (n: Int) k
  have hle:=G.ran_le hp h0 hx' (k + 1)
  rw [e1]
  rw [endV_some (k:=k + 1) (by omega) (by omega) (fun j hj => by
   have:=ranT_mono t (n: Int) (show j <= k by omega)
   omega)]
  omega
 ·rw [if_neg (by simpa using hd)]
  exact endV_none (by omega)
end
open Classical in
noncomputable def endsV (W: List Int) (E: List (Int × Int)) (need: List Int) (cores: Int) (t: List (List Int)): List Int:=if schedE W E need cores t = 0 then (List.range need.length).map fun n: Nat => endV need t (n: Int) else []
theorem endsV_ok {W: List Int} {E: List (Int × Int)} {need: List Int} {cores: Int} {t: List (List Int)} (h: schedE W E need cores t = 0): endsV W E need cores t = (List.range need.length).map fun n: Nat => endV need t (n: Int):=by unfold endsV; rw [if_pos h]
theorem endsV_bad {W: List Int} {E: List (Int × Int)} {need: List Int} {cores: Int} {t: List (List Int)} (h: schedE W E need cores t ≠ 0): endsV W E need cores t = []:=by unfold endsV; rw [if_neg h]
theorem row_ints10 {g: Nat} {us: List Int} {w: World} (h: RowV g 3 (intsV us) w): Ints w w.heap.size (some ⟨g,0,none⟩) us:=fun _ =>
 ⟨g,0,rfl,h.lt,fun k hk => by rw [Nat.zero_add]; exact h.cell (intsV_at hk)⟩
section
variable {A: Option Addr} {n c: Nat} {F: Option Addr} {m d: Nat} {W: List Int} {E: List (Int × Int)} {N: Option Addr} {nn nc: Nat} {need: List Int} {T: Option Addr} {tn tc: Nat} {t: List (List Int)}
theorem ends_any (cores : Int) (w : World) (h : IsG w A n c F m d W E) (hS : IsS w N nn nc T tn tc need t) :
    Calls Tryz.prog 19 #[.agg #[.slice A n c, .slice F m d], .slice N nn nc, .int .i64 cores, .slice T tn tc] w (GotInts (endsV W E need cores t) w) := by
  have H := Lib.hid h
  have HS := Lib.hid hS
  have HB0 : Hid (Below w.heap.size w (w.alloc (.cells #[.slice A n c, .slice F m d] 25))) := Lib.hid (below_alloc _)
  have C1 := Lib.hid (scheck_any cores _ (h.below HB0.out) (hS.below HB0.out))
  have C2 := Lib.hid (fun W' (h : IsS W' N nn nc T tn tc need t) => watch_any N nn nc need W' h.hn h.ints)
  by_cases hz : schedE W E need cores t = 0
  · have HE := Lib.hid (endsV_ok hz)
    rw [hz] at C1
    have HOK := Lib.hid (schedE_zero.mp hz)
    have hln := hS.ln
    have hlt := hS.lt
    clear hz h hS
    obtain ⟨l, hl⟩ : ∃ l, l = endsV W E need cores t := ⟨_, rfl⟩
    rw [<- hl] at HE ⊢
    clear hl
    go_enter Tryz.func19, Tryz.ntmps19
    go_wp2_with fail
    refine C1.out.mono ?_
    rintro e w1 ⟨rfl, b⟩
    have HB1 := Lib.hid (HB0.out.trans (b.mono (by simp)))
    clear b HB0 C1
    go_wp2_with fail
    refine (C2.out _ (HS.out.below HB1.out)).mono ?_
    rintro e w2 ⟨gp, gv, gn, rfl, hw, b, hgn, hgv, hgp⟩
    obtain ⟨k0, hk0, hok⟩ := HOK.out
    have HOK2 := Lib.hid hok
    have HGP := Lib.hid (Nat.le_trans HB1.out.size hgp)
    have HX : Hid (∃ ran lt lc, Watch gp gv gn N nn nc need ran lt lc w2 /\ Track k0 t 0 ran lt lc) := Lib.hid ⟨_, _, _, hw, Track.start _ _ _ _⟩
    have HB2 := Lib.hid (HB1.out.trans (b.mono HB1.out.size))
    clear hw b hgn hgv hgp hok HOK C2 HB1
    subst hk0
    go_wp2
    go_loopw [28] (fun v wr => ∃ i : Nat, i <= tn /\ v = .int .i64 i /\ Hid (∃ ran lt lc, Watch gp gv gn N nn nc need ran lt lc wr /\ Track k0 t i ran lt lc) /\ Hid (Below w.heap.size w wr)) (fun v _ => tn - (intOf v).toNat)
    case atStart => exact ⟨0, Nat.zero_le _, rfl, HX, HB2⟩
    case round =>
      obtain ⟨i, hi, rfl, HK, HB⟩ := hrel
      clear HX HB2
      by_cases hlt : i < tn
      · obtain ⟨bt, ot, row, A1, n1, c1, rfl, hbt, hrow, hn1, hcell, hints, hnil⟩ := HS.out.rows.at_ (k := i) (by rw [HS.out.ht]; exact hlt)
        obtain rfl : n1 = k0 := hn1.symm.trans (HOK2.out.good.rows row (List.mem_of_getElem? hrow))
        have hd : wr.cell? ⟨bt, ot + i, none⟩ = some (.slice A1 n1 c1) := (HB.out.cell hbt).trans hcell
        have hbt2 : bt < wr.heap.size := Nat.lt_of_lt_of_le hbt HB.out.size
        obtain ⟨ran, lt, lc, hw, htr⟩ := HK.out
        have hti : i < t.length := by rw [HS.out.ht]; exact hlt
        have hn8 : n1 <= 8 := by have := HOK2.out.form.2.2.2; omega
        have CA := Lib.hid (add_any (i : Int) A1 n1 c1 row wr hn1 (by omega) ((hints.below HB.out).more HGP.out) (fun x hx => by
          have h1 := HOK2.out.good.mem hti (x := x) (by rw [rowT_at hrow]; exact hx)
          have h2 := HOK2.out.form.1
          have h3 := HOK2.out.may.nodes
          omega) (fun j => htr.bound HOK2.out.good.rows (by omega) (by rw [HS.out.ht]; exact HS.out.lt) (by omega) j) hw.past)
        have HNX := Lib.hid (htr.next hti hrow hn1)
        have HW := Lib.hid hw
        clear hw htr hti hcell hints hrow hn1 hnil hn8
        go_wp2_with (go_at_call 51; refine CA.out.mono ?_; rintro e w5 ⟨rfl, hp, b⟩; have HP5 := Lib.hid hp; have HB5 := Lib.hid b; clear hp b)
        go_roundw
        case rel => exact ⟨i + 1, by omega, by go_num, Lib.hid ⟨_, _, _, HW.out.turned HB5.out HP5.out, HNX.out⟩, Lib.hid (HB.out.trans (HB5.out.mono HGP.out))⟩
        case measure => simp [intOf]; omega
      · obtain rfl : i = tn := by omega
        obtain ⟨ran, lt, lc, hw, htr⟩ := HK.out
        have HW := Lib.hid hw
        have hlen : t.length = i := HS.out.ht
        have HEND := Lib.hid (fun (n : Nat) (hx : n < need.length) => Track.end_ (by rw [hlen]; exact htr) HOK2.out.good (fun z hz => (HOK2.out.form.2.1 z hz).1) hx)
        have hnn64 : nn <= 64 := by
          have h2 := HOK2.out.form.1
          have h3 := HOK2.out.may.nodes
          have h4 := HS.out.hn
          omega
        have hb64 : ∀ j : Nat, j < 64 -> -2 <= lt j + 1 \/ True := fun _ _ => .inr trivial
        have hmk := fun W' => make_ints nn (by omega) W'
        have X0 : Hid (RowV wr.heap.size 3 (intsV (List.replicate nn 0)) (wr.alloc (.cells (List.replicate nn (Value.int .i64 0)).toArray 3))) := Lib.hid (by
          have := RowV.new wr 3 (intsV (List.replicate nn 0))
          rw [show intsV (List.replicate nn 0) = List.replicate nn (Value.int .i64 0) by simp [intsV]] at this ⊢
          exact this)
        have HTL := Lib.hid (fun (j : Nat) (hj : doneB need ran (j : Int) = true) (hx : j < need.length) => show 0 <= lt j /\ lt j <= 400 by
          have hov := htr.over (E := E) (by rw [<- hlen, List.take_length]; exact HOK2.out.good) (fun z hz => (HOK2.out.form.2.1 z hz).1) (x := (j : Int)) (by omega) (by omega)
          rw [hov, decide_eq_true_iff] at hj
          have hpos := needT_pos (need := need) (fun z hz => (HOK2.out.form.2.1 z hz).1) (x := (j : Int)) (by omega) (by omega)
          obtain ⟨k, c, e1, _, hk, _⟩ := htr.last j (by omega)
          have := HS.out.lt
          omega)
        clear hw htr hlen hlt hb64
        obtain ⟨w5, hw5⟩ : ∃ w5, w5 = wr := ⟨_, rfl⟩
        subst hw5
        go_wp2
        go_loopw [43] (fun v wi => ∃ (k : Nat) (us : List Int), k <= nn /\ v = .int .i64 k /\ Hid (us.length = nn /\ ∀ j, j < k -> us[j]? = some (endV need t (j : Int))) /\ Hid (RowV w5.heap.size 3 (intsV us) wi) /\ Hid (Below w5.heap.size w5 wi)) (fun v _ => nn - (intOf v).toNat)
        case atStart => exact ⟨0, List.replicate nn 0, Nat.zero_le _, rfl, Lib.hid ⟨by simp, fun j hj => absurd hj (Nat.not_lt_zero _)⟩, X0, Lib.hid (below_alloc _)⟩
        case round =>
          obtain ⟨k, us, hk, rfl, HU, HROW, HBI⟩ := hrel
          clear X0 hmk
          have hsz := HROW.out.lt
          by_cases hlt2 : k < nn
          · have hkn : k < need.length := by rw [HS.out.hn]; exact hlt2
            have hcell := HROW.out.cell (intsV_at (l := us) (j := k) (by rw [HU.out.1]; exact hlt2))
            have hfr := HROW.out.frozen k
            have hrow1 : RowV w5.heap.size 3 (intsV (us.set k (-1))) (wr.setCell ⟨w5.heap.size, k, none⟩ (.int .i64 (-1))) := by
              rw [intsV_set]
              exact HROW.out.set k _
            have HR1 := Lib.hid hrow1
            have HBX : Hid (Below w5.heap.size w5 (wr.setCell ⟨w5.heap.size, k, none⟩ (.int .i64 (-1)))) := Lib.hid (HBI.out.setCell (Nat.le_refl _) _)
            have CD := Lib.hid (doneB_any (k : Int) _ (HW.out.below HBX.out) (by omega) (by omega) hnn64)
            have HEK := Lib.hid (HEND.out k hkn)
            obtain ⟨db, hdb⟩ : ∃ b, b = doneB need ran (k : Int) := ⟨_, rfl⟩
            have HTK := Lib.hid (fun h => HTL.out k h hkn)
            rw [<- hdb] at CD HEK HTK
            clear hrow1 hdb
            go_wp2_with fail
            refine CD.out.mono ?_
            rintro e w6 ⟨rfl, b⟩
            have HB6 := Lib.hid (HBX.out.trans (b.mono HBX.out.size))
            have HR6 := Lib.hid (HR1.out.below b HR1.out.lt)
            obtain ⟨_, d2, _⟩ := (HW.out.below HB6.out).past.cells (show k < 64 by omega)
            have hgp6 := (HW.out.below HB6.out).past.lt_
            have hc6 := HR6.out.cell (intsV_at (l := us.set k (-1)) (j := k) (by rw [List.length_set, HU.out.1]; exact hlt2))
            have hf6 := HR6.out.frozen k
            have hl6 := HR6.out.lt
            clear b hcell hfr CD HR1 HBX
            cases db with
            | true =>
              obtain ⟨h1, h2⟩ := HTK.out rfl
              have HV : Hid (endV need t (k : Int) = lt k + 1) := Lib.hid (by rw [HEK.out]; rfl)
              obtain ⟨z, hz⟩ : ∃ z, z = lt k := ⟨_, rfl⟩
              rw [<- hz] at d2 h1 h2 HV
              clear hz HTK HEK
              go_wp2
              go_roundw
              case rel => exact ⟨k + 1, us.set k (z + 1), by omega, by go_num, Lib.hid ⟨by rw [List.length_set]; exact HU.out.1, fun j hj => by
                rw [List.getElem?_set]
                by_cases e : k = j
                · subst e
                  rw [if_pos rfl, if_pos (by rw [HU.out.1]; exact hlt2), HV.out]
                · rw [if_neg e]
                  exact HU.out.2 j (by omega)⟩, Lib.hid (by
                have := HR6.out.set k (.int .i64 (z + 1))
                rw [<- intsV_set, List.set_set] at this
                exact this), Lib.hid (HB6.out.setCell (Nat.le_refl _) _)⟩
              case measure => simp [intOf]; omega
            | false =>
              have HV : Hid (endV need t (k : Int) = -1) := Lib.hid (by rw [HEK.out]; rfl)
              clear HTK HEK
              go_wp2
              go_roundw
              case rel => exact ⟨k + 1, us.set k (-1), by omega, by go_num, Lib.hid ⟨by rw [List.length_set]; exact HU.out.1, fun j hj => by
                rw [List.getElem?_set]
                by_cases e : k = j
                · subst e
                  rw [if_pos rfl, if_pos (by rw [HU.out.1]; exact hlt2), HV.out]
                · rw [if_neg e]
                  exact HU.out.2 j (by omega)⟩, HR6, HB6⟩
              case measure => simp [intOf]; omega
          · obtain rfl : k = nn := by omega
            have HUL : Hid (us = l) := Lib.hid (by
              rw [HE.out]
              apply List.ext_getElem?
              intro j
              rcases Nat.lt_or_ge j k with hj | hj
              · rw [HU.out.2 j hj, List.getElem?_map, List.getElem?_range (by rw [HS.out.hn]; exact hj)]; rfl
              · rw [List.getElem?_eq_none (by rw [HU.out.1]; exact hj), List.getElem?_eq_none (by rw [List.length_map, List.length_range, HS.out.hn]; exact hj)])
            go_wp2
            go_ret
            refine ⟨some ⟨w5.heap.size, 0, none⟩, k, ?_, by rw [<- HUL.out]; exact row_ints10 HROW.out, HB.out.trans (HBI.out.mono HB.out.size)⟩
            rw [<- HUL.out, HU.out.1]
            rfl
  · have HE := endsV_bad hz
    obtain ⟨z, hz2⟩ : ∃ z, z = schedE W E need cores t := ⟨_, rfl⟩
    rw [<- hz2] at C1 hz
    have hne : (z == 0) = false := by simpa using hz
    rw [HE]
    clear hz hz2 h hS HE C2
    go_enter Tryz.func19, Tryz.ntmps19
    go_wp2_with fail
    refine C1.out.mono ?_
    rintro e w1 ⟨rfl, b⟩
    have HB1 := Lib.hid (HB0.out.trans (b.mono (by simp)))
    clear b HB0 C1
    go_wp2
    go_ret
    exact ⟨none, 0, rfl, Ints.nil_ _ _ _, HB1.out⟩
end
def okAt (E: List (Int × Int)) (need: List Int) (t: List (List Int)) (i k: Nat): Prop:=(-1) ∈ rowT t i -> ranT t (k: Int) i = 0 -> (k: Int) ∉ rowT t i -> ¬ FreeT E need t (k: Int) i
theorem greedy_iff {E: List (Int × Int)} {need: List Int} {t: List (List Int)}: GreedyT E need t ↔ ∀ i,i < t.length -> ∀ k,k < need.length -> okAt E need t i k :=
 ⟨fun h i hi k hk h1 h2 h3 => h i hi h1 k hk h2 h3,fun h i hi h1 k hk h2 h3 => h i hi k hk h1 h2 h3⟩
open Classical in
noncomputable def greedyB (W: List Int) (E: List (Int × Int)) (need: List Int) (cores: Int) (t: List (List Int)): Bool:=decide (schedE W E need cores t = 0 /\ GreedyT E need t)
open Classical in
theorem greedyB_iff {W: List Int} {E: List (Int × Int)} {need: List Int} {cores: Int} {t: List (List Int)}: greedyB W E need cores t = true ↔ schedE W E need cores t = 0 /\ GreedyT E need t:=by unfold greedyB; rw [decide_eq_true_iff]
section
variable {A: Option Addr} {n c: Nat} {F: Option Addr} {m d: Nat} {W: List Int} {E: List (Int × Int)} {N: Option Addr} {nn nc: Nat} {need: List Int} {T: Option Addr} {tn tc: Nat} {t: List (List Int)}
theorem greedy_any (cores: Int) (w: World) (h: IsG w A n c F m d W E) (hS: IsS w N nn nc T tn tc need t) :
  Calls Tryz.prog 21 #[.agg #[.slice A n c,.slice F m d],.slice N nn nc,.int .i64 cores,.slice T tn tc] w fun e w' => e = .returned (.bool (greedyB W E need cores t)) /\ Below w.heap.size w w':=by
 have H:=Lib.hid h
 have HS:=Lib.hid hS
 obtain ⟨w0,hw0⟩: ∃ w0,w0 = w.alloc (.cells #[.slice A n c,.slice F m d] 25):=⟨_,rfl⟩
 have HW0:=Lib.hid hw0
 have HB0: Hid (Below w.heap.size w w0):=Lib.hid (by rw [hw0]; exact below_alloc _)
 have HS0: Hid (w.heap.size < w0.heap.size):=Lib.hid (by rw [hw0]; simp)
 have P0: Hid (w0.cell? ⟨w.heap.size,0,none⟩ = some (.slice A n c)):=Lib.hid (by rw [hw0,World.cell?_alloc_at _ _ _ _ rfl]; rfl)
 have P1: Hid (w0.cell? ⟨w.heap.size,1,none⟩ = some (.slice F m d)):=Lib.hid (by rw [hw0,World.cell?_alloc_at _ _ _ _ rfl]; rfl)
 have C0:=Lib.hid (scheck_any cores _ (h.below HB0.out) (hS.below HB0.out))
 have C1:=Lib.hid (fun W' (h: IsG W' A n c F m d W E) => preds10_any W' h)
 have C2:=Lib.hid (fun W' (h: IsS W' N nn nc T tn tc need t) => watch_any N nn nc need W' h.hn h.ints)
 obtain ⟨r,hr⟩: ∃ r,r = greedyB W E need cores t:=⟨_,rfl⟩
 rw [<- hr]
 have HRR:=Lib.hid hr
 clear h hS hr hw0
 by_cases hz: schedE W E need cores t = 0
 ·rw [hz] at C0
  have HOK:=Lib.hid (schedE_zero.mp hz)
  have HRV: Hid (∀ b: Bool,(b = true ↔ GreedyT E need t) -> r = b):=Lib.hid (fun b hb => by
   rw [HRR.out,Bool.eq_iff_iff,greedyB_iff,hb]
   exact ⟨fun q => q.2,fun q => ⟨hz,q⟩⟩)
  clear hz
  go_enter Tryz.func21,Tryz.ntmps21
  go_wp2_with fail
  rw [<- HW0.out]
  refine C0.out.mono ?_
  rintro e w1 ⟨rfl,b⟩
  have HB1:=Lib.hid (HB0.out.trans (b.mono HB0.out.size))
  have q0:=(b.cell HS0.out).trans P0.out
  have q1:=(b.cell HS0.out).trans P1.out
  have HS1:=Lib.hid (Nat.lt_of_lt_of_le HS0.out b.size)
  clear b C0
  go_wp2_with fail
  refine (C1.out _ (H.out.below HB1.out)).mono ?_
  rintro e w2 ⟨gw,rfl,hw,hb,hgw⟩
  have HB2: Hid (Below w.heap.size w w2):=Lib.hid (HB1.out.trans (hb.mono HB1.out.size))
  have HWT:=Lib.hid hw
  clear hw hb hgw C1 q0 q1
  go_wp2_with fail
  refine (C2.out _ (HS.out.below HB2.out)).mono ?_
  rintro e w3 ⟨gp,gv,gn,rfl,hw,hb,hgn,hgv,hgp⟩
  obtain ⟨k0,hk0,hok⟩:=HOK.out
  have HOK2:=Lib.hid hok
  have HMID: Hid (Mid w gw gp gv gn n W E N nn nc need k0 t 0 w3):=Lib.hid ⟨HB2.out.trans (hb.mono HB2.out.size),(HWT.out.below hb).more hgp,Nat.le_of_lt hw.past.lt_,⟨_,_,_,hw,Track.start k0 t _ _⟩,hok.good.take 0,Nat.lt_of_lt_of_le HWT.out.lt hgp,Nat.le_trans HB2.out.size hgp⟩
  clear hw hb hgn hgv hgp HWT HB2 C2 hok HOK
  subst hk0
  go_wp2
  go_loopw [31] (fun v wr => ∃ i: Nat,i <= tn /\ v = .int .i64 i /\ Hid (Mid w gw gp gv gn n W E N nn nc need k0 t i wr) /\ Hid (∀ j,j < i -> ∀ k,k < need.length -> okAt E need t j k)) (fun v _ => tn - (intOf v).toNat)
  case atStart => exact ⟨0,Nat.zero_le _,rfl,HMID,Lib.hid (fun j hj => absurd hj (Nat.not_lt_zero _))⟩
  case round =>
   obtain ⟨i,hi,rfl,HK,HO⟩:=hrel
   clear HMID
   by_cases hlt: i < tn
   ·obtain ⟨bt,ot,row,A1,n1,c1,rfl,hbt,hrow,hn1,hcell,hints,hnil⟩:=HS.out.rows.at_ (k:=i) (by rw [HS.out.ht]; exact hlt)
    obtain rfl: n1 = k0:=hn1.symm.trans (HOK2.out.good.rows row (List.mem_of_getElem? hrow))
    have hd: wr.cell? ⟨bt,ot + i,none⟩ = some (.slice A1 n1 c1):=(HK.out.bel.cell hbt).trans hcell
    have HI1:=Lib.hid hints
    have HROW:=Lib.hid hrow
    have HN1:=Lib.hid hn1
    have hbt2: bt < wr.heap.size:=Nat.lt_of_lt_of_le hbt HK.out.bel.size
    have hn8: n1 <= 8:=by have:=HOK2.out.form.2.2.2; omega
    have htn: tn <= 400:=HS.out.lt
    have hnn: nn <= 64:=by
     have h1:=HOK2.out.form.1
     have h2:=HOK2.out.may.nodes
     have h3:=HS.out.hn
     omega
    have HTI: Hid (i < t.length):=Lib.hid (by rw [HS.out.ht]; exact hlt)
    clear hcell hints hrow hn1 hnil
    go_wp2
    go_loopw [38] (fun v wi => ∃ k: Nat,k <= nn /\ v = .int .i64 k /\ Hid (Mid w gw gp gv gn n W E N nn nc need n1 t i wi) /\ Hid (∀ j,j < k -> okAt E need t i j)) (fun v _ => nn - (intOf v).toNat)
    case atStart => exact ⟨0,Nat.zero_le _,rfl,HK,Lib.hid (fun j hj => absurd hj (Nat.not_lt_zero _))⟩
    case round =>
     obtain ⟨k,hk,rfl,HK2,HF⟩:=hrel
     by_cases hlt2: k < nn
     ·obtain ⟨ran,lt,lc,hw,htr⟩:=HK2.out.watch
      have HW:=Lib.hid hw
      obtain ⟨d1,_,_⟩:=hw.past.cells (show k < 64 by omega)
      have hgp:=hw.past.lt_
      have HV1:=Lib.hid (htr.ran k)
      obtain ⟨v1,hv1⟩: ∃ v,v = ran k:=⟨_,rfl⟩
      rw [<- hv1] at d1 HV1
      have hfr:=htr.free HK2.out.good (fun z hz => (HOK2.out.form.2.1 z hz).1) HOK2.out.may HOK2.out.form.1.symm (k: Int)
      have HNX: Hid (okAt E need t i k -> ∀ j,j < k + 1 -> okAt E need t i j):=Lib.hid (fun hok j hj => by
       rcases Nat.lt_or_ge j k with h1 | h1
       ·exact HF.out j h1
       ·rw [show j = k by omega]; exact hok)
      clear hv1 hw htr
      by_cases hv: v1 = 0
      ·subst hv
       have HR0: Hid (ranT t (k: Int) i = 0):=Lib.hid (by have:=HV1.out; omega)
       have hkn: k < n:=by
        have h1:=HOK2.out.form.1
        have h3:=HS.out.hn
        have h4:=H.out.hn
        omega
       obtain ⟨A2,c2,e1,e2⟩:=HK2.out.waits.at_ k hkn
       have hpl: (predsV W E (k: Int)).length <= n:=by
        unfold predsV
        rw [if_pos HOK2.out.may,H.out.hn]
        exact predsL_length _ _ _
       have hpx: ∀ y ∈ predsV W E (k: Int),0 <= y /\ y < need.length:=by
        intro y hy
        unfold predsV at hy
        rw [if_pos HOK2.out.may] at hy
        unfold predsL at hy
        rw [List.mem_filter,List.mem_map] at hy
        obtain ⟨⟨z,hz,rfl⟩,_⟩:=hy
        have:=HOK2.out.form.1
        simp at hz ⊢
        omega
       have hall:=all_any A2 c2 _ _ wr rfl (by have:=H.out.ln; omega) (e2.more HK2.out.gplt) hpx hnn HW.out
       rw [hfr] at hall
       obtain ⟨l2,hl2⟩: ∃ l,l = (predsV W E (k: Int)).length:=⟨_,rfl⟩
       rw [<- hl2] at hall e1
       have hgw: gw < wr.heap.size:=Nat.lt_of_lt_of_le HK2.out.waits.lt HK2.out.gplt
       clear e2 hfr hpl hpx hl2
       by_cases hf: FreeT E need t (k: Int) i
       ·rw [decide_eq_true hf] at hall
        have C6:=Lib.hid hall
        have HFR:=Lib.hid hf
        clear hf hall
        go_wp2_with fail
        refine C6.out.mono ?_
        rintro e w6 ⟨rfl,b⟩
        have HK6:=Lib.hid (HK2.out.below b)
        have hrm:=rowT_at HROW.out
        have CA:=Lib.hid (contains_any A1 c1 n1 row (-1) w.heap.size w6 HN1.out (by omega) (HI1.out.below HK6.out.bel))
        have CB:=Lib.hid (contains_any A1 c1 n1 row (k: Int) w.heap.size w6 HN1.out (by omega) (HI1.out.below HK6.out.bel))
        clear b C6 d1 e1
        by_cases h1: (-1: Int) ∈ row
        ·rw [decide_eq_true h1] at CA
         by_cases h2: (k: Int) ∈ row
         ·rw [decide_eq_true h2] at CB
          have HNK: Hid (∀ j,j < k + 1 -> okAt E need t i j):=Lib.hid (HNX.out fun _ _ q => by rw [hrm] at q; exact absurd h2 q)
          clear h1 h2 hrm
          go_wp2_with fail
          refine CA.out.mono ?_
          rintro e w7 ⟨rfl,rfl⟩
          go_wp2_with fail
          refine CB.out.mono ?_
          rintro e w8 ⟨rfl,rfl⟩
          go_wp2
          go_roundw
          case rel => exact ⟨k + 1,by omega,by go_num,HK6,HNK⟩
          case measure => simp [intOf]; omega
         ·rw [decide_eq_false h2] at CB
          obtain rfl: r = false:=HRV.out false ⟨fun q => absurd q (by decide),fun q => absurd HFR.out (greedy_iff.mp q i HTI.out k (by rw [HS.out.hn]; exact hlt2) (by rw [hrm]; exact h1) HR0.out (by rw [hrm]; exact h2))⟩
          clear h1 h2 hrm
          go_wp2_with fail
          refine CA.out.mono ?_
          rintro e w7 ⟨rfl,rfl⟩
          go_wp2_with fail
          refine CB.out.mono ?_
          rintro e w8 ⟨rfl,rfl⟩
          go_wp2
          go_ret
          exact ⟨rfl,HK6.out.bel⟩
        ·rw [decide_eq_false h1] at CA
         have HNK: Hid (∀ j,j < k + 1 -> okAt E need t i j):=Lib.hid (HNX.out fun q _ _ => by rw [hrm] at q; exact absurd q h1)
         clear h1 hrm CB
         go_wp2_with fail
         refine CA.out.mono ?_
         rintro e w7 ⟨rfl,rfl⟩
         go_wp2
         go_roundw
         case rel => exact ⟨k + 1,by omega,by go_num,HK6,HNK⟩
         case measure => simp [intOf]; omega
       ·rw [decide_eq_false hf] at hall
        have C6:=Lib.hid hall
        have HNK: Hid (∀ j,j < k + 1 -> okAt E need t i j):=Lib.hid (HNX.out fun _ _ _ => hf)
        clear hf hall
        go_wp2_with fail
        refine C6.out.mono ?_
        rintro e w6 ⟨rfl,b⟩
        have HK6:=Lib.hid (HK2.out.below b)
        clear b C6 d1 e1
        go_wp2
        go_roundw
        case rel => exact ⟨k + 1,by omega,by go_num,HK6,HNK⟩
        case measure => simp [intOf]; omega
      ·have hv': (v1 == 0) = false:=by simpa using hv
       have HNK: Hid (∀ j,j < k + 1 -> okAt E need t i j):=Lib.hid (HNX.out fun _ q _ => by have:=HV1.out; omega)
       clear hv hfr
       go_wp2
       go_roundw
       case rel => exact ⟨k + 1,by omega,by go_num,HK2,HNK⟩
       case measure => simp [intOf]; omega
     ·obtain rfl: k = nn:=by omega
      obtain ⟨ran,lt,lc,hw,htr⟩:=HK2.out.watch
      have CA:=Lib.hid (add_any (i: Int) A1 n1 c1 row wr HN1.out (by omega) ((HI1.out.below HK2.out.bel).more HK2.out.lp) (fun x hx => by
       have h1:=HOK2.out.good.mem HTI.out (x:=x) (by rw [rowT_at HROW.out]; exact hx)
       have h2:=HOK2.out.form.1
       have h3:=HOK2.out.may.nodes
       omega) (fun j => htr.bound HOK2.out.good.rows (by have:=HTI.out; omega) (by rw [HS.out.ht]; exact htn) (by omega) j) hw.past)
      have HNX:=Lib.hid (htr.next HTI.out HROW.out HN1.out)
      have HW:=Lib.hid hw
      clear hw htr
      go_wp2_with (go_at_call 51; refine CA.out.mono ?_; rintro e w5 ⟨rfl,hp,b⟩; have HP5:=Lib.hid hp; have HB5:=Lib.hid b; clear hp b)
      go_roundw
      case rel => exact ⟨i + 1,by omega,by go_num,Lib.hid ⟨HK2.out.bel.trans (HB5.out.mono HK2.out.lp),HK2.out.waits.below HB5.out,Nat.le_of_lt HP5.out.lt_,⟨_,_,_,HW.out.turned HB5.out HP5.out,HNX.out⟩,HOK2.out.good.take _,HK2.out.lw,HK2.out.lp⟩,Lib.hid (fun j hj k' hk' => by
       rcases Nat.lt_or_ge j i with h1 | h1
       ·exact HO.out j h1 k' hk'
       ·rw [show j = i by omega]; exact HF.out k' (by rw [<- HS.out.hn]; exact hk'))⟩
      case measure => simp [intOf]; omega
   ·obtain rfl: i = tn:=by omega
    obtain rfl: r = true:=HRV.out true ⟨fun _ => greedy_iff.mpr fun j hj k hk => HO.out j (by rw [<- HS.out.ht]; exact hj) k hk,fun _ => rfl⟩
    go_wp2
    go_ret
    exact ⟨rfl,HK.out.bel⟩
 ·obtain ⟨z,hz2⟩: ∃ z,z = schedE W E need cores t:=⟨_,rfl⟩
  obtain rfl: r = false:=by
   rw [HRR.out,<- Bool.not_eq_true,greedyB_iff]
   exact fun q => hz q.1
  rw [<- hz2] at C0 hz
  have hne: (z == 0) = false:=by simpa using hz
  clear hz hz2 C1 C2 HRR
  go_enter Tryz.func21,Tryz.ntmps21
  go_wp2_with fail
  rw [<- HW0.out]
  refine C0.out.mono ?_
  rintro e w1 ⟨rfl,b⟩
  have HB1:=Lib.hid (HB0.out.trans (b.mono HB0.out.size))
  clear b C0
  go_wp2
  go_ret
  exact ⟨rfl,HB1.out⟩
end
end Go.Proofs.YtfpnkcpjhbkgnaaGreatDoor
namespace Go.Proofs.YtfpnkcpjhbkgnaaGreatDoor
open Go Go.RowKit
def litV: Int -> List Int -> Bool
 | _,[] => true
 | left,z :: r => if z < 0 then true else if left < z then false else litV (left - z) r
theorem lit_sum : ∀ {need : List Int} {left : Int}, 0 <= left -> (∀ z ∈ need, 0 <= z) -> litV left need = true -> need.sum <= left
  | [], left, h, _, _ => by simpa using h
  | z :: r, left, h, hn, hl => by
    have hz := hn z List.mem_cons_self
    unfold litV at hl
    rw [if_neg (by omega)] at hl
    split at hl
    · cases hl
    · have := lit_sum (by omega) (fun y hy => hn y (List.mem_cons_of_mem _ hy)) hl
      rw [List.sum_cons]; omega
theorem little_any {N: Option Addr} {nn nc: Nat} {need: List Int} (w: World) (hn: need.length = nn) (hl: nn <= 400) (hI: Ints w w.heap.size N need) :
  Calls Tryz.prog 10 #[.slice N nn nc] w fun e w' => e = .returned (.bool (litV 300 need)) /\ w' = w:=by
 have HI:=Lib.hid hI
 have HN:=Lib.hid hn
 obtain ⟨r,hr⟩: ∃ r,r = litV 300 need:=⟨_,rfl⟩
 rw [<- hr]
 have HR:=Lib.hid hr
 clear hI hn hr
 go_enter Tryz.func10,Tryz.ntmps10
 go_wp2
 go_loop [3,4] (fun v i => ∃ (j: Nat) (left: Int),j <= nn /\ i = .int .i64 j /\ v = .int .i64 left /\ 0 <= left /\ left <= 300 /\ Hid (r = litV left (need.drop j))) (fun _ i => nn - (intOf i).toNat)
 case atStart => exact ⟨0,300,Nat.zero_le _,rfl,rfl,by decide,by decide,Lib.hid (by rw [HR.out]; rfl)⟩
 case round =>
  obtain ⟨j,left,hj,rfl,rfl,hl0,hl3,HO⟩:=hrel
  by_cases hlt: j < nn
  ·obtain ⟨bk,off,z,rfl,hbk,hz,d1⟩:=HI.out.at_ (k:=j) (by rw [HN.out]; exact hlt)
   have HZ: Hid (need.drop j = z :: need.drop (j + 1)):=Lib.hid (by
    rw [List.drop_eq_getElem_cons (by rw [HN.out]; exact hlt)]
    congr 1
    rw [List.getElem?_eq_getElem (by rw [HN.out]; exact hlt)] at hz
    exact Option.some.inj hz)
   have HS: Hid (r = if z < 0 then true else if left < z then false else litV (left - z) (need.drop (j + 1))):=Lib.hid (by rw [HO.out,HZ.out]; rfl)
   clear hz hbk HO HZ
   by_cases h0: z < 0
   ·obtain rfl: r = true:=by rw [HS.out,if_pos h0]
    have h0a: decide (z < 0) = true:=decide_eq_true h0
    go_wp2
    go_ret
    exact ⟨rfl,rfl⟩
   have h0a: decide (z < 0) = false:=decide_eq_false h0
   by_cases h1: left < z
   ·obtain rfl: r = false:=by rw [HS.out,if_neg h0,if_pos h1]
    have h1a: decide (left < z) = true:=decide_eq_true h1
    go_wp2
    go_ret
    exact ⟨rfl,rfl⟩
   have h1a: decide (left < z) = false:=decide_eq_false h1
   have HS2: Hid (r = litV (left - z) (need.drop (j + 1))):=Lib.hid (by rw [HS.out,if_neg h0,if_neg h1])
   have hz0: 0 <= z:=by omega
   have hzl: z <= left:=by omega
   clear h0 h1 HS
   go_wp2
   go_round
   case rel => exact ⟨j + 1,left - z,by omega,by go_num,by go_num,by omega,by omega,HS2⟩
   case measure => simp [intOf]; omega
  ·obtain rfl: nn = j:=by omega
   obtain rfl: r = true:=by rw [HO.out,List.drop_of_length_le (by rw [HN.out]; exact Nat.le_refl _)]; rfl
   go_wp2
   go_ret
   exact ⟨rfl,rfl⟩
theorem OwnI.sliceO {w: World} {base: Nat} {v: Value} {zs: List Int} (h: OwnI w base v zs): ∃ A c,v = .slice A zs.length c /\ Ints w w.heap.size A zs /\ (A = none -> zs.length = 0 /\ c = 0):=by
 obtain ⟨A,c,rfl,hI⟩:=h.slice
 refine ⟨A,c,rfl,hI,fun e => ?_⟩
 subst e
 rcases h.2 with ⟨e,h0⟩ | ⟨g,cap,cur,e,_⟩
 ·injection e with _ e2 e3
  exact ⟨e2,e3⟩
 ·injection e with e1 _ _
  cases e1
theorem new_sum {W: List Int} {E: List (Int × Int)} {need: List Int} {cores: Int} (hl: litV 300 need = true) (h: newE W E need cores = 0): need.sum <= 300:=by
 obtain ⟨_,_,h2,_⟩:=newE_zero.mp h
 exact lit_sum (by decide) (fun z hz => by have:=(h2 z hz).1; omega) hl
structure BxT (w0: World) (A: Option Addr) (n c: Nat) (F: Option Addr) (m d: Nat) (T: Option Addr) (tn tc: Nat) (r: List (List Int)) (x: World): Prop where
 b: BxB w0 w0.heap.size A n c F m d x
 t: Trc x x.heap.size T r
 hr: r.length = tn /\ tn <= 300 /\ (∀ x ∈ r,x.length <= 400) /\ (T = none -> tn = 0 /\ tc = 0)
section
variable {A: Option Addr} {n c: Nat} {F: Option Addr} {m d: Nat} {T: Option Addr} {tn tc: Nat} {r: List (List Int)} {w0 x y: World}
theorem BxT.next (h: BxT w0 A n c F m d T tn tc r x) (hb: Below x.heap.size x y): BxT w0 A n c F m d T tn tc r y:=⟨h.b.next hb,(h.t.below hb).more hb.size,h.hr⟩
theorem BxT.bel (h: BxT w0 A n c F m d T tn tc r x): Below w0.heap.size w0 x:=h.b.bel
theorem BxT.cells (h: BxT w0 A n c F m d T tn tc r x): x.cell? ⟨w0.heap.size,0,none⟩ = some (.slice A n c) /\ x.cell? ⟨w0.heap.size,1,none⟩ = some (.slice F m d):=h.b.cells
theorem BxT.isS (h: BxT w0 A n c F m d T tn tc r x) {N: Option Addr} {nn nc: Nat} {need: List Int} (hn: need.length = nn) (hl: nn <= 70) (hI: Ints x x.heap.size N need /\ (N = none -> nn = 0 /\ nc = 0)): IsS x N nn nc T tn tc need r :=
 ⟨hn,h.hr.1,by omega,by have:=h.hr.2.1; omega,h.hr.2.2.1,hI.1,h.t,hI.2,h.hr.2.2.2⟩
end
structure InNL (w: World) (N: Option Addr) (nn nc: Nat) (need: List Int): Prop where
 hn: need.length = nn
 ln: nn <= 9223372036854775807
 ints: Ints w w.heap.size N need
 hN: N = none -> nn = 0 /\ nc = 0
theorem ints13_any (w: World) (A: Option Addr) (c n: Nat) (zs: List Int) (hn: zs.length = n) (hl: n <= 1000) (hI: Ints w w.heap.size A zs) (hA: A = none -> n = 0 /\ c = 0) :
  Calls Tryz.prog 13 #[.slice A n c] w fun e w' => ∃ A' c',e = .returned (.slice A' n c') /\ OwnI w' w.heap.size (.slice A' n c') zs /\ n <= c' /\ (A' = none -> n = 0 /\ c' = 0) /\ Below w.heap.size w w':=by
 subst hn
 obtain ⟨v',w1,hr,hO,hB⟩:=new_ints8 w 22 A c zs hl hI hA
 obtain ⟨A',c',rfl,hI',hN⟩:=hO.sliceO
 have HO:=Lib.hid hO
 have HB:=Lib.hid hB
 have HN:=Lib.hid hN
 have HC:=Lib.hid hO.capLe
 obtain ⟨n,hn⟩: ∃ n,n = zs.length:=⟨_,rfl⟩
 rw [<- hn] at hr hl HO HN HC ⊢
 clear hI hA hO hB hn hI' hN
 go_enter Tryz.func13,Tryz.ntmps13
 go_wp2_with (at_builtin; refine wpList_append_plain rfl _ _ 22 _ _ rfl rfl rfl hr ?_)
 go_ret
 exact ⟨A',c',rfl,HO.out,HC.out,HN.out,HB.out⟩
theorem traceG_ok {W: List Int} {E: List (Int × Int)} {need picks: List Int} {m: Nat} (h: newE W E need m = 0): RunOk W.length E need m (traceG W.length m E need picks):=by
 obtain ⟨hm,h1,h2,h3,h4⟩:=newE_zero.mp h
 exact gang_run hm.fits hm.acyc h2 (by omega) (by omega) h1 hm.nodes picks
theorem traceG_small {W: List Int} {E: List (Int × Int)} {need picks: List Int} {m: Nat} (h: newE W E need m = 0) (hs: need.sum <= 300): (traceG W.length m E need picks).length <= 300 /\ ∀ x ∈ traceG W.length m E need picks,x.length <= 400:=by
 have k:=traceG_ok (picks:=picks) h
 obtain ⟨_,_,_,h3,h4⟩:=newE_zero.mp h
 refine ⟨by have:=k.len; omega,fun x hx => ?_⟩
 rw [k.good.rows x hx]
 omega
theorem traceG_sched {W: List Int} {E: List (Int × Int)} {need picks: List Int} {c: Nat} (h: newE W E need c = 0): schedE W E need c (traceG W.length c E need picks) = 0 /\ greedyB W E need c (traceG W.length c E need picks) = true /\
  endsV W E need c (traceG W.length c E need picks) = (List.range need.length).map (fun n: Nat => endV need (traceG W.length c E need picks) (n: Int)) /\ ((traceG W.length c E need picks).length: Int) <= boundV W E need c:=by
 have k:=traceG_ok (picks:=picks) h
 obtain ⟨hm,hf⟩:=newE_zero.mp h
 obtain ⟨h1,h2,h3,h4⟩:=id hf
 have h0: schedE W E need c (traceG W.length c E need picks) = 0:=schedE_zero.mpr ⟨c,rfl,hm,hf,k.good⟩
 refine ⟨h0,greedyB_iff.mpr ⟨h0,k.greedy⟩,endsV_ok h0,?_⟩
 have hM:=need_may hm hf
 have hlo:=longV_total hM
 unfold boundV
 rw [if_pos ⟨hm,hf⟩]
 refine k.bound hm.fits h2 (by omega) h1 _ (longV_is hM) ?_
 have: 0 <= ((c: Int) - 1) * longV need E:=Int.mul_nonneg (by omega) hlo.2
 have: 0 <= need.sum:=sum_nonneg' fun z hz => by have:=h2 z hz; omega
 omega
end Go.Proofs.YtfpnkcpjhbkgnaaGreatDoor
namespace Go.Proofs.YtfpnkcpjhbkgnaaGreatDoor
open Go.ChangeShapes Go.WideShapes Go.ChangeAt Go.RowKit Go.Joins Go.Deep
structure InN (w: World) (N: Option Addr) (nn nc: Nat) (need: List Int): Prop where
 hn: need.length = nn
 ln: nn <= 9223372036854775807
 ints: Ints w w.heap.size N need
 hN: N = none -> nn = 0 /\ nc = 0
structure InT (w: World) (T: Option Addr) (tn tc: Nat) (t: List (List Int)): Prop where
 ht: t.length = tn
 lt: tn <= 9223372036854775807
 lr: ∀ r ∈ t,r.length <= 9223372036854775807
 rows: Trc w w.heap.size T t
 hT: T = none -> tn = 0 /\ tc = 0
 cT: tn <= tc
theorem InN.with {w: World} {N: Option Addr} {nn nc: Nat} {need: List Int} {T: Option Addr} {tn tc: Nat} {t: List (List Int)} (h: InN w N nn nc need) (g: InT w T tn tc t): InS w N nn nc T tn tc need t :=
 ⟨h.hn,g.ht,h.ln,g.lt,g.lr,h.ints,g.rows,h.hN,g.hT,g.cT⟩
theorem edges_of {w: World} {a: Addr} {len m: Nat} {V0 V1: Nat -> Value} (hl: len <= m)
  (h: ∀ i,i < m -> w.cell? (a.add (i * 2)) = some (V0 i) /\ w.cell? (a.add (i * 2 + 1)) = some (V1 i) /\ (∃ n,V0 i = .int .i64 n /\ (Lit.int .i64 n).wf = true) /\ (∃ n,V1 i = .int .i64 n /\ (Lit.int .i64 n).wf = true)) :
  ∃ es: List (Int × Int),es.length = len /\ Pairs w w.heap.size (some a) es /\ ∀ e ∈ es,(-9223372036854775808 <= e.1 /\ e.1 <= 9223372036854775807) /\ (-9223372036854775808 <= e.2 /\ e.2 <= 9223372036854775807):=by
 have e1: IntKind.i64.min = -9223372036854775808:=by decide
 have e2: IntKind.i64.max = 9223372036854775807:=by decide
 let f: Nat -> Int × Int:=fun i => (match V0 i with | .int _ n => n | _ => 0,match V1 i with | .int _ n => n | _ => 0)
 have hf: ∀ i,i < m -> V0 i = .int .i64 (f i).1 /\ V1 i = .int .i64 (f i).2 /\ (Lit.int .i64 (f i).1).wf = true /\ (Lit.int .i64 (f i).2).wf = true:=by
  intro i hi
  obtain ⟨_,_,⟨n0,h0,k0⟩,⟨n1,h1,k1⟩⟩:=h i hi
  simp only [f,h0,h1]
  exact ⟨trivial,trivial,k0,k1⟩
 refine ⟨(List.range len).map f,by simp,fun hp => ?_,?_⟩
 ·have hp: 0 < len:=by simpa using hp
  obtain ⟨b,off,spot⟩:=a
  have hspot: spot = none:=by simpa [Addr.add] using World.cell?_spot (h 0 (by omega)).1
  subst hspot
  have hc: ∀ i,i < m -> w.cell? ⟨b,off + i * 2,none⟩ = some (.int .i64 (f i).1) /\ w.cell? ⟨b,off + i * 2 + 1,none⟩ = some (.int .i64 (f i).2):=by
   intro i hi
   obtain ⟨c0,c1,_,_⟩:=h i hi
   obtain ⟨v0,v1,_,_⟩:=hf i hi
   rw [addr_add,v0] at c0
   rw [addr_add,v1] at c1
   exact ⟨c0,by rw [show off + i * 2 + 1 = off + (i * 2 + 1) by omega]; exact c1⟩
  refine ⟨b,off,rfl,cell_below (hc 0 (by omega)).1,fun k e he => ?_⟩
  obtain ⟨i,hi,rfl⟩:=List.mem_map.mp (List.mem_of_getElem? he)
  have hk: k < len:=by
   have:=(List.getElem?_eq_some_iff.1 he).1
   simpa using this
  rw [List.getElem?_map,List.getElem?_range hk] at he
  have he: f k = f i:=by simpa using he
  rw [<- he]
  exact hc k (by omega)
 ·intro e he
  obtain ⟨i,hi,rfl⟩:=List.mem_map.mp he
  have hi: i < len:=by simpa using hi
  obtain ⟨_,_,k0,k1⟩:=hf i (by omega)
  simp [Lit.wf,e1,e2] at k0 k1
  omega
theorem open_dag {H: Type} {enc: TypeId × Value -> H} {W: World} {base: Nat} {v: Value} {d: DataW H} {p: List MemPlace}
  (hv: Value.okWide Tryz.prog W .any base 25 v) (h: DataW.Trod enc Tryz.prog W 0 (fun _ => true) true 25 v d p) :
  ∃ A n c F m dd Wl El,v = .agg #[.slice A n c,.slice F m dd] /\ InG W A n c F m dd Wl El:=by
 obtain ⟨v0,v1,y0,y1,k,rfl,_,_,h0,h1⟩:=open_agg2 Tryz.underlying25 (by kernel_rfl) (by kernel_rfl) hv h
 obtain ⟨A,n,c,zs,rfl,hrow⟩: ∃ A n c zs,v0 = .slice A n c /\ IsRow .i64 W A n c zs:=by
  rcases open_ints Tryz.underlying22 Tryz.underlying3 (by kernel_rfl) h0 with ⟨hcs,_⟩ | ⟨x,l,c,zs,hcs,_,hl,hm,hz,_,hcell,hwz⟩
  ·simp at hcs
   exact ⟨none,0,0,[],hcs,.inl ⟨rfl,rfl,rfl,rfl⟩⟩
  ·simp at hcs
   exact ⟨_,_,_,zs,hcs,.inr ⟨_,rfl,hl,hm,by simpa using hz,hcell,hwz⟩⟩
 obtain ⟨F,m,dd,es,rfl,hm,hp,hmx,hw,hF⟩: ∃ F m dd,∃ es: List (Int × Int),v1 = .slice F m dd /\ es.length = m /\ Pairs W W.heap.size F es /\ m <= 9223372036854775807 /\
   (∀ e ∈ es,(-9223372036854775808 <= e.1 /\ e.1 <= 9223372036854775807) /\ (-9223372036854775808 <= e.2 /\ e.2 <= 9223372036854775807)) /\ (F = none -> m = 0 /\ dd = 0):=by
  rcases open_slice_pairs Tryz.underlying23 Tryz.underlying181 (by kernel_rfl) rfl rfl (by kernel_rfl) (by kernel_rfl) h1 with ⟨hcs,_⟩ | ⟨a,len,cap,m,nn,V0,V1,D0,D1,P0,P1,hcs,_,hl,hm,hmm,_,hx⟩
  ·simp at hcs
   exact ⟨none,0,0,[],hcs,rfl,fun h => absurd h (by simp),by omega,fun e he => by simp at he,fun _ => ⟨rfl,rfl⟩⟩
  ·simp at hcs
   have hlm: len <= m:=by rw [hmm]; simpa using hl
   obtain ⟨es,k1,k2,k3⟩:=edges_of (w:=W) (a:=a) (len:=len) (m:=m) (V0:=V0) (V1:=V1) hlm (fun i hi => by
    obtain ⟨c0,c1,t0,t1⟩:=hx i hi
    obtain ⟨n0,e0,_,w0⟩:=DataW.trod_int Tryz.underlying3 t0
    obtain ⟨n1,e1,_,w1⟩:=DataW.trod_int Tryz.underlying3 t1
    simp at e0 e1
    exact ⟨c0,c1,⟨n0,e0,w0⟩,⟨n1,e1,w1⟩⟩)
   refine ⟨some a,len,cap,es,hcs,k1,k2,by unfold maxLen at hm; omega,k3,fun e => by cases e⟩
 obtain ⟨r1,r2,r3,r4,r5⟩:=row_ints hrow
 refine ⟨A,n,c,F,m,dd,zs.take n,es,rfl,⟨r2,hm,r4,hmx,r1,hp,fun e => ?_,hF⟩⟩
 have:=r3 e
 omega
section
variable {H: Type} {enc: TypeId × Value -> H} {W: World}
theorem open_intsS {fuel: Nat} {cs: List Value} {x: DataW H × List MemPlace} (h1: DataW.trod enc Tryz.prog W 0 (fun _ => true) true fuel 22 cs = some x) :
  ∃ A n c,∃ zs: List Int,cs = [.slice A n c] /\ zs.length = n /\ Ints W W.heap.size A zs /\ n <= 9223372036854775807 /\ n <= c /\ (A = none -> n = 0 /\ c = 0):=by
 obtain ⟨A,n,c,zs,rfl,hrow⟩: ∃ A n c zs,cs = [.slice A n c] /\ IsRow .i64 W A n c zs:=by
  rcases open_ints Tryz.underlying22 Tryz.underlying3 (by kernel_rfl) h1 with ⟨hcs,_⟩ | ⟨x,l,c,zs,hcs,_,hl,hm,hz,_,hcell,hwz⟩
  ·exact ⟨none,0,0,[],hcs,.inl ⟨rfl,rfl,rfl,rfl⟩⟩
  ·exact ⟨_,_,_,zs,hcs,.inr ⟨_,rfl,hl,hm,by simpa using hz,hcell,hwz⟩⟩
 obtain ⟨r1,r2,r3,r4,r5⟩:=row_ints hrow
 refine ⟨A,n,c,zs.take n,rfl,r2,r1,r4,r5,fun e => ?_⟩
 have:=r3 e
 omega
theorem open_need {base: Nat} {v: Value} {d: DataW H} {p: List MemPlace}
  (hv: Value.okWide Tryz.prog W .any base 22 v) (h: DataW.Trod enc Tryz.prog W 0 (fun _ => true) true 22 v d p) :
  ∃ A n c zs,v = .slice A n c /\ InN W A n c zs:=by
 obtain ⟨a0,len0,cap0,rfl⟩:=okWide_slice Tryz.underlying22 hv
 obtain ⟨fuel,hf⟩:=h
 obtain ⟨A,n,c,zs,e0,l0,m0,b0,s0,w0⟩:=open_intsS hf
 simp [Value.cells] at e0
 obtain ⟨rfl,rfl,rfl⟩:=e0
 exact ⟨_,_,_,zs,rfl,⟨l0,b0,m0,w0⟩⟩
end
end Go.Proofs.YtfpnkcpjhbkgnaaGreatDoor
