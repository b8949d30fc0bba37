/- sched.Busy and sched.Bound in the seat YtpaambpajpmjdaaDoor: their contracts. No statement is proved here. -/
import Derived.Test.YtpaambpajpmjdaaDoorZSchedCheck
import Derived.Test.YtpaambpajpmjdaaDoorZM12
import Derived.Deep.RegionHeld3
set_option linter.unusedSimpArgs false
set_option linter.unusedVariables false
namespace Go.Proofs.YtpaambpajpmjdaaDoor
open Go.RowKit

def busyR (r : List Int) : Nat := r.countP (fun x => x != -1)
theorem busyR_succ {r : List Int} {k : Nat} {x : Int} (h : r[k]? = some x) : busyR (r.take (k + 1)) = busyR (r.take k) + if x = -1 then 0 else 1 := by
  unfold busyR
  rw [take_snoc' h, List.countP_append, List.countP_singleton]
  by_cases e : x = -1
  · simp [e]
  · simp [e]
theorem busyT_succ {t : List (List Int)} {k : Nat} {r : List Int} (h : t[k]? = some r) : busyT (t.take (k + 1)) = busyT (t.take k) + busyR r := by
  unfold busyT busyR
  rw [take_snoc' h, List.flatten_append, List.countP_append]
  simp
theorem busyR_le (r : List Int) : busyR r ≤ r.length := List.countP_le_length
open Classical in
/-- Graham's bound, rounded down; 0 where needs and cores may not be. -/
noncomputable def boundV (W : List Int) (E : List (Int × Int)) (need : List Int) (cores : Int) : Int := if May W E ∧ FormOk W need cores then (need.sum + (cores - 1) * longV need E) / cores else 0
theorem need_may {W : List Int} {E : List (Int × Int)} {need : List Int} {cores : Int} (hM : May W E) (hF : FormOk W need cores) : May need E :=
  ⟨by rw [hF.1]; exact hM.nodes, hM.edges, fun z hz => ⟨by have := (hF.2.1 z hz).1; omega, (hF.2.1 z hz).2⟩, by rw [hF.1]; exact hM.fits, hM.apart, hM.once, hM.acyc⟩
section
variable {A : Option Addr} {n c : Nat} {F : Option Addr} {m d : Nat} {W : List Int} {E : List (Int × Int)} {N : Option Addr} {nn nc : Nat} {need : List Int} {T : Option Addr} {tn tc : Nat} {t : List (List Int)}
set_option maxRecDepth 100000 in
set_option maxHeartbeats 4000000 in
theorem busy_any (w : World) (ht : t.length = tn) (hl : tn ≤ 400) (hr : ∀ r ∈ t, r.length ≤ 400) (hT : Trc w w.heap.size T t) :
    Calls Tryd.prog 25 #[.slice T tn tc] w fun e w' => e = .returned (.int .i64 (busyT t)) ∧ w' = w := by
  have HT := Lib.hid hT
  have HL := Lib.hid ht
  have HRL := Lib.hid hr
  obtain ⟨r, hr2⟩ : ∃ r, r = busyT t := ⟨_, rfl⟩
  rw [← hr2]
  have HR := Lib.hid hr2
  clear hT ht hr hr2
  go_enter Tryd.func25, Tryd.ntmps25
  go_wp2
  go_loop [3, 10] (fun s v => ∃ i b : Nat, i ≤ tn ∧ v = .int .i64 i ∧ s = .int .i64 b ∧ b ≤ 400 * i ∧ Hid (b = busyT (t.take i))) (fun _ v => tn - (intOf v).toNat)
  case atStart => exact ⟨0, 0, Nat.zero_le _, rfl, rfl, by omega, Lib.hid (by simp [busyT])⟩
  case round =>
    obtain ⟨i, b, hi, rfl, rfl, hb, HBI⟩ := hrel
    by_cases hlt : i < tn
    · obtain ⟨bt, ot, row, A1, n1, c1, rfl, hbt, hrow, hn1, hcell, hints, hnil⟩ := HT.out.at_ (k := i) (by rw [HL.out]; exact hlt)
      have HI1 := Lib.hid hints
      have HN1 := Lib.hid hn1
      have HTS := Lib.hid (busyT_succ hrow)
      have h400 : n1 ≤ 400 := by rw [← hn1]; exact HRL.out row (List.mem_of_getElem? hrow)
      clear hints hrow hn1 hnil
      go_wp2
      go_loop [3, 16] (fun s v => ∃ k q : Nat, k ≤ n1 ∧ v = .int .i64 k ∧ s = .int .i64 q ∧ q ≤ 400 * i + k ∧ Hid (q = b + busyR (row.take k))) (fun _ v => n1 - (intOf v).toNat)
      case atStart => exact ⟨0, b, Nat.zero_le _, rfl, rfl, by omega, Lib.hid (by simp [busyR])⟩
      case round =>
        obtain ⟨k, q, hk, rfl, rfl, hq, HQ⟩ := hrel
        by_cases hlt2 : k < n1
        · obtain ⟨bk, off, x, rfl, hbk, hxk, hcx⟩ := HI1.out.at_ (k := k) (by rw [HN1.out]; exact hlt2)
          have HRS := Lib.hid (busyR_succ hxk)
          clear hxk
          by_cases hx : x = -1
          · subst hx
            have HQ2 : Hid (q = b + busyR (row.take (k + 1))) := Lib.hid (by rw [HRS.out, if_pos rfl]; exact HQ.out)
            go_wp2
            go_round
            case rel => exact ⟨k + 1, q, by omega, by go_num, rfl, by omega, HQ2⟩
            case measure => simp [intOf]; omega
          · have HQ2 : Hid (q + 1 = b + busyR (row.take (k + 1))) := Lib.hid (by rw [HRS.out, if_neg hx]; have := HQ.out; omega)
            have hne : (x == -1) = false := by simpa using hx
            clear hx
            go_wp2
            go_round
            case rel => exact ⟨k + 1, q + 1, by omega, by go_num, by go_num, by omega, HQ2⟩
            case measure => simp [intOf]; omega
        · obtain rfl : k = n1 := by omega
          have HQ2 : Hid (q = busyT (t.take (i + 1))) := Lib.hid (by
            have h1 := HQ.out
            rw [List.take_of_length_le (by rw [HN1.out]; omega)] at h1
            rw [HTS.out, ← HBI.out]; exact h1)
          go_wp2
          go_round
          case rel => exact ⟨i + 1, q, by omega, by go_num, rfl, by omega, HQ2⟩
          case measure => simp [intOf]; omega
    · obtain rfl : i = tn := by omega
      have hrv : r = b := by rw [HR.out, HBI.out, List.take_of_length_le (by rw [HL.out]; omega)]
      subst hrv
      go_wp2
      go_ret
      exact ⟨rfl, rfl⟩
/-- A graph lies in box g. -/
structure BxB (w : World) (g : Nat) (A : Option Addr) (n c : Nat) (F : Option Addr) (m d : Nat) (x : World) : Prop where
  bel : Below w.heap.size w x
  p0 : x.cell? ⟨g, 0, none⟩ = some (.slice A n c)
  p1 : x.cell? ⟨g, 1, none⟩ = some (.slice F m d)
theorem BxB.next {w x y : World} {g : Nat} (h : BxB w g A n c F m d x) (b : Below x.heap.size x y) : BxB w g A n c F m d y :=
  ⟨h.bel.trans (b.mono h.bel.size), (b.cell (World.block_lt_of_cell? _ _ h.p0)).trans h.p0, (b.cell (World.block_lt_of_cell? _ _ h.p1)).trans h.p1⟩
theorem BxB.cells {w x : World} {g : Nat} (h : BxB w g A n c F m d x) : x.cell? ⟨g, 0, none⟩ = some (.slice A n c) ∧ x.cell? ⟨g, 1, none⟩ = some (.slice F m d) := ⟨h.p0, h.p1⟩
theorem BxB.start {w w1 : World} (h : Below w.heap.size w w1) (A : Option Addr) (n c : Nat) (F : Option Addr) (m d : Nat) : BxB w w1.heap.size A n c F m d (w1.alloc (.cells #[.slice A n c, .slice F m d] 25)) :=
  ⟨h.trans ((below_alloc _).mono h.size), by rw [World.cell?_alloc_at _ _ _ _ rfl]; rfl, by rw [World.cell?_alloc_at _ _ _ _ rfl]; rfl⟩
theorem bxB_bel {p : Prop} {w x : World} {g : Nat} (h : p ∧ Hid (BxB w g A n c F m d x)) : Below w.heap.size w x := h.2.out.bel
theorem bxB_n {p : Prop} {w x y : World} {g : Nat} (h : p ∧ Hid (BxB w g A n c F m d x)) (b : Below x.heap.size x y) : BxB w g A n c F m d y := h.2.out.next b
set_option maxRecDepth 100000 in
set_option maxHeartbeats 4000000 in
theorem bound_any (cores : Int) (w : World) (h : IsG w A n c F m d W E) (hn : need.length = nn) (hl : nn ≤ 400) (hI : Ints w w.heap.size N need) (hN : N = none → nn = 0 ∧ nc = 0) :
    Calls Tryd.prog 23 #[.agg #[.slice A n c, .slice F m d], .slice N nn nc, .int .i64 cores] w fun e w' => e = .returned (.int .i64 (boundV W E need cores)) ∧ Below w.heap.size w w' := by
  have H := Lib.hid h
  obtain ⟨w0, hw0⟩ : ∃ w0, w0 = w.alloc (.cells #[.slice A n c, .slice F m d] 25) := ⟨_, rfl⟩
  have HW0 := Lib.hid hw0
  have HB0 : Hid (Below w.heap.size w w0) := Lib.hid (by rw [hw0]; exact below_alloc _)
  have HS0 : Hid (w.heap.size < w0.heap.size) := Lib.hid (by rw [hw0]; simp)
  have P0 : Hid (w0.cell? ⟨w.heap.size, 0, none⟩ = some (.slice A n c)) := Lib.hid (by rw [hw0, World.cell?_alloc_at _ _ _ _ rfl]; rfl)
  have P1 : Hid (w0.cell? ⟨w.heap.size, 1, none⟩ = some (.slice F m d)) := Lib.hid (by rw [hw0, World.cell?_alloc_at _ _ _ _ rfl]; rfl)
  have hS : IsS w N nn nc none 0 0 need [] := ⟨hn, rfl, hl, by omega, fun r hr => by simp at hr, hI, Trc.nil_ _ _ _, hN, fun _ => ⟨rfl, rfl⟩⟩
  have HS := Lib.hid hS
  have C0 := Lib.hid (scheck_any cores _ (h.below HB0.out) (hS.below HB0.out))
  obtain ⟨r, hr⟩ : ∃ r, r = boundV W E need cores := ⟨_, rfl⟩
  rw [← hr]
  have HRR := Lib.hid hr
  clear h hS hr hw0 hn hI
  by_cases hz : schedE W E need cores [] = 0
  · rw [hz] at C0
    obtain ⟨k, rfl, hok⟩ := schedE_zero.mp hz
    have hM := need_may hok.may hok.form
    have HM := Lib.hid hM
    have hk1 : 1 ≤ k := by have := hok.form.2.2.1; omega
    have hk2 : k ≤ 8 := by have := hok.form.2.2.2; omega
    have hlo := longV_total hM
    have hsum := sum_le need hM.work
    have hnn : nn ≤ 64 := by
      have h1 := hM.nodes
      have h2 := HS.out.hn
      omega
    have HRV : Hid (r = (need.sum + ((k : Int) - 1) * longV need E) / k) := Lib.hid (by
      rw [HRR.out]
      unfold boundV
      rw [if_pos ⟨hok.may, hok.form⟩])
    have HG : Hid (∀ W', IsG w0 A n c F m d W E → W' = w0 → IsG W' N nn nc F m d need E) := Lib.hid (fun W' h e => by
      subst e
      exact ⟨HS.out.hn, h.hm, by omega, h.lm, (HS.out.ints.below HB0.out).more HB0.out.size, h.pairs, HS.out.hN, h.hF, h.tab⟩)
    have HGW : Hid (∀ W', Below w.heap.size w W' → IsG W' N nn nc F m d need E) := Lib.hid (fun W' hb => by
      have h := H.out.below hb
      exact ⟨HS.out.hn, h.hm, by omega, h.lm, (HS.out.ints.below hb).more hb.size, h.pairs, HS.out.hN, h.hF, h.tab⟩)
    have CT := Lib.hid (fun W' (h : IsG W' N nn nc F m d need E) => total_done W' h)
    have CL := Lib.hid (fun W' (h : IsG W' N nn nc F m d need E) => long_done W' h)
    have htv : totalV need E = need.sum := by unfold totalV; rw [if_pos hM]
    rw [htv] at CT
    obtain ⟨s, hs⟩ : ∃ s, s = need.sum := ⟨_, rfl⟩
    obtain ⟨L, hL⟩ : ∃ L, L = longV need E := ⟨_, rfl⟩
    rw [← hs] at CT HRV hsum hlo
    rw [← hL] at CL HRV hlo
    have hs2 : s ≤ 64000 := by
      have h2 := HS.out.hn
      omega
    obtain ⟨hl1, hl2⟩ := hlo
    clear hz hok hM hs hL htv hsum HG
    go_enter Tryd.func23, Tryd.ntmps23
    go_wp2_with fail
    rw [← HW0.out]
    refine C0.out.mono ?_
    rintro e w1 ⟨rfl, b⟩
    have HB1 := Lib.hid (HB0.out.trans (b.mono HB0.out.size))
    have q0 := (b.cell HS0.out).trans P0.out
    have q1 := (b.cell HS0.out).trans P1.out
    have HS1 := Lib.hid (Nat.lt_of_lt_of_le HS0.out b.size)
    clear b C0
    go_wp2
    have B2 := Lib.hid (BxB.start HB1.out N nn nc F m d)
    obtain ⟨g, hg⟩ : ∃ g, g = w1.heap.size := ⟨_, rfl⟩
    obtain ⟨w2, hw2⟩ : ∃ w2, w2 = w1.alloc (.cells #[.slice N nn nc, .slice F m d] 25) := ⟨_, rfl⟩
    rw [← hw2, ← hg] at B2
    rw [← hw2, ← hg]
    have B2d := Lib.hid (B2.out.next (Below.refl w2.heap.size w2).drew)
    have hk0 : (k : Int) ≠ 0 := by omega
    have hk0n : ¬ k = 0 := by omega
    have hk0b : ((k : Int) == 0) = false := by simpa using hk0n
    have hmul : 0 ≤ ((k : Int) - 1) * L := Int.mul_nonneg (by omega) hl2
    have hmul2 : ((k : Int) - 1) * L ≤ 7 * 64000 := Int.mul_le_mul (by omega) (by omega) hl2 (by omega)
    clear q0 q1 hw2 hg
    go_region_held3 (fun x => (x.cell? ⟨g, 0, none⟩ = some (.slice N nn nc) ∧ x.cell? ⟨g, 1, none⟩ = some (.slice F m d)) ∧ Hid (BxB w g N nn nc F m d x))
      (first | exact ⟨B2d.out.cells, B2d⟩ | exact ⟨HB.out.cells, HB⟩)
      (first
        | (go_at_call 26; refine (CT.out _ (HGW.out _ (bxB_bel (by assumption)))).mono ?_; rintro e x1 ⟨rfl, b⟩; have HB := Lib.hid (bxB_n (by assumption) b); clear b)
        | (go_at_call 27; refine (CL.out _ (HGW.out _ (bxB_bel (by assumption)))).mono ?_; rintro e x1 ⟨rfl, b⟩; have HB := Lib.hid (bxB_n (by assumption) b); clear b))
    go_wp2
    go_ret
    refine ⟨?_, HB.out.bel⟩
    have e1 := IntWalk.i64_in ((k : Int) - 1) (by omega)
    have e2 := IntWalk.i64_in (((k : Int) - 1) * L) (by omega)
    have e3 := IntWalk.i64_in (s + ((k : Int) - 1) * L) (by omega)
    have e4 := IntWalk.i64_quo (s + ((k : Int) - 1) * L) k ⟨by omega, by omega, by omega⟩
    rw [HRV.out]
    show Ending.returned (Value.int .i64 (IntKind.i64.wrap ((IntKind.i64.wrap (s + IntKind.i64.wrap (IntKind.i64.wrap ((k : Int) - 1) * L))).tdiv (k : Int)))) = _
    rw [e1, e2, e3, e4]
  · obtain ⟨z, hz2⟩ : ∃ z, z = schedE W E need cores [] := ⟨_, rfl⟩
    obtain rfl : r = 0 := by
      rw [HRR.out]
      unfold boundV
      rw [if_neg]
      rintro ⟨h1, h2⟩
      refine hz ?_
      obtain ⟨k, rfl⟩ : ∃ k : Nat, cores = (k : Int) := ⟨cores.toNat, by have := h2.2.2; omega⟩
      exact schedE_zero.mpr ⟨k, rfl, h1, h2, ⟨fun r hr => by simp at hr, fun i hi => by simp at hi⟩⟩
    rw [← hz2] at C0 hz
    have hne : (z == 0) = false := by simpa using hz
    clear hz hz2 HRR
    go_enter Tryd.func23, Tryd.ntmps23
    go_wp2_with fail
    rw [← HW0.out]
    refine C0.out.mono ?_
    rintro e w1 ⟨rfl, b⟩
    have HB1 := Lib.hid (HB0.out.trans (b.mono HB0.out.size))
    clear b C0
    go_wp2
    go_ret
    exact ⟨rfl, HB1.out⟩
end
end Go.Proofs.YtpaambpajpmjdaaDoor
