/- The walk of SchedBounds in the seat YtpaambpajpmjdaaDoor (printed by sched/mk_bounds.py). No statement is proved here. -/
import Derived.Test.YtpaambpajpmjdaaDoorZM19
import Derived.Test.YtpaambpajpmjdaaDoorZSchedGx
import Derived.Test.YtpaambpajpmjdaaDoorZSchedRef6
set_option linter.unusedSimpArgs false
set_option linter.unusedVariables false
set_option linter.unusedSimpArgs false
namespace Go.Proofs.YtpaambpajpmjdaaDoor
open Go Go.RowKit

section
variable {A : Option Addr} {n c : Nat} {F : Option Addr} {m d : Nat} {W : List Int} {E : List (Int × Int)} {N : Option Addr} {nn nc : Nat} {need : List Int} {T : Option Addr} {tn tc : Nat} {t : List (List Int)}

end
def PhiBd (w0 : World) (A : Option Addr) (n c : Nat) (F : Option Addr) (m d : Nat) (W : List Int) (E : List (Int × Int)) (N : Option Addr) (nn nc : Nat) (need : List Int) (T : Option Addr) (tn tc : Nat) (t : List (List Int)) (cores : Int) : Nat → Value → World → Prop
  | 0, v, w => v = .agg #[.slice A n c, .slice F m d]
  | 1, v, w => GXd n m W E v w
  | 2, v, w => v = .slice N nn nc
  | 3, v, w => GXn nn need v w
  | 4, v, w => v = .int .i64 cores
  | 5, v, w => v = .int .i64 (boundV W E need cores)
  | 6, v, w => v = .agg #[.slice A n c, .slice F m d]
  | 7, v, w => v = .slice N nn nc
  | 8, v, w => v = .int .i64 cores
  | 9, v, w => v = .int .i64 (boundV W E need cores)
  | 10, v, w => v = .bool true
  | 11, v, w => v = .bool true
  | 12, v, w => v = .slice T tn tc
  | 13, v, w => GXt tn t v w
  | 14, v, w => v = .int .i64 (busyT t)
  | 15, v, w => v = .int .i64 (busyT t)
  | 16, v, w => v = .bool true
  | 17, v, w => v = .bool true
  | 18, v, w => v = .bool true
  | _, _, _ => True
theorem phiBd_below (w0 : World) (A : Option Addr) (n c : Nat) (F : Option Addr) (m d : Nat) (W : List Int) (E : List (Int × Int)) (N : Option Addr) (nn nc : Nat) (need : List Int) (T : Option Addr) (tn tc : Nat) (t : List (List Int)) (cores : Int) : ∀ kq v w w', PhiBd w0 A n c F m d W E N nn nc need T tn tc t cores kq v w → Below w.heap.size w w' → PhiBd w0 A n c F m d W E N nn nc need T tn tc t cores kq v w' := by
  intro kq v w w' h hb
  match kq, h with
  | 0, h => exact h
  | 1, h => exact GXd.below h hb
  | 2, h => exact h
  | 3, h => exact GXn.below h hb
  | 4, h => exact h
  | 5, h => exact h
  | 6, h => exact h
  | 7, h => exact h
  | 8, h => exact h
  | 9, h => exact h
  | 10, h => exact h
  | 11, h => exact h
  | 12, h => exact h
  | 13, h => exact GXt.below h hb
  | 14, h => exact h
  | 15, h => exact h
  | 16, h => exact h
  | 17, h => exact h
  | 18, h => exact h
  | kq + 19, h => exact trivial
section
variable {A : Option Addr} {n c : Nat} {F : Option Addr} {m d : Nat} {W : List Int} {E : List (Int × Int)} {N : Option Addr} {nn nc : Nat} {need : List Int} {T : Option Addr} {tn tc : Nat} {t : List (List Int)}
set_option maxRecDepth 100000 in
set_option maxHeartbeats 16000000 in
theorem bounds_many (w0 : World) (cores : Int) (hT : Tab64 w0) (hg : InG w0 A n c F m d W E) (hs : InS w0 N nn nc T tn tc need t) (h : ¬ ((n ≤ 70 ∧ m ≤ 300) ∧ FewS need t)) : Calls Tryd.prog 4 #[.agg #[.slice A n c, .slice F m d], .slice N nn nc, .int .i64 cores, .slice T tn tc] w0 fun e w' => e = .returned (.bool true) ∧ Below w0.heap.size w0 w' := by
  have HTW := Lib.hid (fun W (h : Below w0.heap.size w0 W) => Tab64.via hT h)
  have B0 := Lib.hid (BxB.start (Below.refl w0.heap.size w0) A n c F m d)
  by_cases hd : n ≤ 70 ∧ m ≤ 300
  · have F1 := Lib.hid (fun W => few_yes A F n c m d W hd.1 hd.2)
    have F2 := Lib.hid (fun W (hb : Below w0.heap.size w0 W) => rfew_any (N := N) (nc := nc) (tc := tc) false ⟨fun e => absurd e (by decide), fun q => absurd ⟨hd, q⟩ h⟩ w0.heap.size W hs.hn hs.ht hs.ln hs.lt hs.lr (hs.rows.below hb))
    clear hg hs h hd hT
    go_enter Tryd.func4, Tryd.ntmps4
    go_wp2_with fail
    refine (awake10_any _ (HTW.out _ B0.out.bel)).mono ?_
    rintro e y1 ⟨rfl, b⟩
    have B1 := Lib.hid (B0.out.next b)
    clear b
    obtain ⟨q0, q1⟩ := B1.out.cells
    go_wp2_with fail
    refine (F1.out _).mono ?_
    rintro e y2 ⟨rfl, b⟩
    have B2 := Lib.hid (B1.out.next b)
    clear b q0 q1
    go_wp2_with fail
    refine (F2.out _ B2.out.bel).mono ?_
    rintro e y2' ⟨rfl, rfl⟩
    go_wp2_with fail
    refine (awake10_any _ (HTW.out _ B2.out.bel)).mono ?_
    rintro e y3 ⟨rfl, b⟩
    have B3 := Lib.hid (B2.out.next b)
    clear b
    go_wp2_with fail
    go_ret
    exact ⟨rfl, B3.out.bel⟩
  · have F1 := Lib.hid (fun W => few_no A F n c m d W hg.ln hg.lm hd)
    clear hg hs h hd hT
    go_enter Tryd.func4, Tryd.ntmps4
    go_wp2_with fail
    refine (awake10_any _ (HTW.out _ B0.out.bel)).mono ?_
    rintro e y1 ⟨rfl, b⟩
    have B1 := Lib.hid (B0.out.next b)
    clear b
    obtain ⟨q0, q1⟩ := B1.out.cells
    go_wp2_with fail
    refine (F1.out _).mono ?_
    rintro e y2 ⟨rfl, b⟩
    have B2 := Lib.hid (B1.out.next b)
    clear b q0 q1
    go_wp2_with fail
    refine (awake10_any _ (HTW.out _ B2.out.bel)).mono ?_
    rintro e y3 ⟨rfl, b⟩
    have B3 := Lib.hid (B2.out.next b)
    clear b
    go_wp2_with fail
    go_ret
    exact ⟨rfl, B3.out.bel⟩

set_option maxRecDepth 100000 in
set_option maxHeartbeats 16000000 in
theorem bounds_few (w0 : World) (cores : Int) (hG : IsG w0 A n c F m d W E) (hS0 : IsS w0 N nn nc T tn tc need t) (l1 : n ≤ 70) (l2 : m ≤ 300) (hf : FewS need t) : Calls Tryd.prog 4 #[.agg #[.slice A n c, .slice F m d], .slice N nn nc, .int .i64 cores, .slice T tn tc] w0 fun e w' => e = .returned (.bool true) ∧ Below w0.heap.size w0 w' := by
  have HTW := Lib.hid (fun W (h : Below w0.heap.size w0 W) => Tab64.via hG.tab h)
  have HG := Lib.hid (fun W' (h : Below w0.heap.size w0 W') => hG.below h)
  have HS := Lib.hid (fun W' (h : Below w0.heap.size w0 W') => hS0.below h)
  have HZ := Lib.hid hS0
  have B0 := Lib.hid (BxB.start (Below.refl w0.heap.size w0) A n c F m d)
  have F1 := Lib.hid (fun W => few_yes A F n c m d W l1 l2)
  have F2 := Lib.hid (fun W (hb : Below w0.heap.size w0 W) => rfew_any (N := N) (nc := nc) (tc := tc) true ⟨fun _ => hf, fun _ => rfl⟩ w0.heap.size W hS0.hn hS0.ht (by have := hS0.ln; omega) (by have := hS0.lt; omega) (fun r hr => by have := hS0.lr r hr; omega) (hS0.rows.below hb))
  have hnn : nn ≤ 70 := by have := hf.1; have := hS0.hn; omega
  have htn : tn ≤ 120 := by have := hf.2.1; have := hS0.ht; omega
  have HLR := Lib.hid (fun r (hr : r ∈ t) => hS0.lr r hr)
  clear hG hS0 hf
  go_enter Tryd.func4, Tryd.ntmps4
  go_wp2_with fail
  refine (awake10_any _ (HTW.out _ B0.out.bel)).mono ?_
  rintro e y1 ⟨rfl, b⟩
  have B1 := Lib.hid (B0.out.next b)
  clear b
  obtain ⟨q0, q1⟩ := B1.out.cells
  go_wp2_with fail
  refine (F1.out _).mono ?_
  rintro e y2 ⟨rfl, b⟩
  have B2 := Lib.hid (B1.out.next b)
  clear b q0 q1
  go_wp2_with fail
  refine (F2.out _ B2.out.bel).mono ?_
  rintro e y2' ⟨rfl, rfl⟩
  go_wp2
  go_loop [9, 10] (fun s v => ∃ i b : Nat, i ≤ tn ∧ v = .int .i64 i ∧ s = .int .i64 b ∧ b ≤ 400 * i ∧ Hid (b = busyT (t.take i))) (fun _ v => tn - (intOf v).toNat)
  case atStart => exact ⟨0, 0, Nat.zero_le _, rfl, rfl, by omega, Lib.hid (by simp [busyT])⟩
  case round =>
    obtain ⟨i, b, hi, rfl, rfl, hb, HBI⟩ := hrel
    by_cases hlt : i < tn
    · obtain ⟨bt, ot, row, A1, n1, c1, rfl, hbt, hrow, hn1, hcell0, hints, hnil⟩ := HZ.out.rows.at_ (k := i) (by rw [HZ.out.ht]; exact hlt)
      have hcell := (B2.out.bel.cell (p := ⟨bt, ot + i, none⟩) hbt).trans hcell0
      have hbt2 := Nat.lt_of_lt_of_le hbt B2.out.bel.size
      have HI1 := Lib.hid hints
      have HN1 := Lib.hid hn1
      have HTS := Lib.hid (busyT_succ hrow)
      have h400 : n1 ≤ 400 := by rw [← hn1]; exact HLR.out row (List.mem_of_getElem? hrow)
      clear hints hrow hn1 hnil hcell0
      go_wp2
      go_loop [9, 11] (fun s v => ∃ k q : Nat, k ≤ n1 ∧ v = .int .i64 k ∧ s = .int .i64 q ∧ q ≤ 400 * i + k ∧ Hid (q = b + busyR (row.take k))) (fun _ v => n1 - (intOf v).toNat)
      case atStart => exact ⟨0, b, Nat.zero_le _, rfl, rfl, by omega, Lib.hid (by simp [busyR])⟩
      case round =>
        obtain ⟨k, q, hk, rfl, rfl, hq, HQ⟩ := hrel
        by_cases hlt2 : k < n1
        · obtain ⟨bk, off, x, rfl, hbk, hxk, hcx0⟩ := HI1.out.at_ (k := k) (by rw [HN1.out]; exact hlt2)
          have hcx := (B2.out.bel.cell (p := ⟨bk, off + k, none⟩) hbk).trans hcx0
          have hbk2 := Nat.lt_of_lt_of_le hbk B2.out.bel.size
          have HRS := Lib.hid (busyR_succ hxk)
          clear hxk hcx0
          by_cases hx : x = -1
          · subst hx
            have HQ2 : Hid (q = b + busyR (row.take (k + 1))) := Lib.hid (by rw [HRS.out, if_pos rfl]; exact HQ.out)
            go_wp2
            go_round
            case rel => exact ⟨k + 1, q, by omega, by go_num, rfl, by omega, HQ2⟩
            case measure => simp [intOf]; omega
          · have HQ2 : Hid (q + 1 = b + busyR (row.take (k + 1))) := Lib.hid (by rw [HRS.out, if_neg hx]; have := HQ.out; omega)
            have hne : (x == -1) = false := by simpa using hx
            clear hx
            go_wp2
            go_round
            case rel => exact ⟨k + 1, q + 1, by omega, by go_num, by go_num, by omega, HQ2⟩
            case measure => simp [intOf]; omega
        · obtain rfl : k = n1 := by omega
          have HQ2 : Hid (q = busyT (t.take (i + 1))) := Lib.hid (by
            have h1 := HQ.out
            rw [List.take_of_length_le (by rw [HN1.out]; omega)] at h1
            rw [HTS.out, ← HBI.out]; exact h1)
          go_wp2
          go_round
          case rel => exact ⟨i + 1, q, by omega, by go_num, rfl, by omega, HQ2⟩
          case measure => simp [intOf]; omega
    · obtain rfl : i = tn := by omega
      have hbz : b = busyT t := by rw [HBI.out, List.take_of_length_le (by rw [HZ.out.ht]; omega)]
      subst hbz
      go_wp2
      refine wp_region_facts' [51, 52, 53, 54, 55, 56, 57, 58, 59, 60, 61, 62, 63, 64, 65, 66, 67, 68, 8] [] [(11, true)] (by kernel_rfl) (by kernel_rfl) (by kernel_rfl) (by intro d hd; simp at hd ⊢; omega) (fun y => BxB w0 w0.heap.size A n c F m d y) (PhiBd w0 A n c F m d W E N nn nc need T i tc t cores)
        (fun x y h hb => h.next hb) (phiBd_below w0 A n c F m d W E N nn nc need T i tc t cores) (B2.out.next (Below.refl _ _).drew) (fun p hp v w hv => by
          simp only [List.mem_cons, List.not_mem_nil, or_false] at hp
          subst hp
          exact hv) (fun kq hkq => by simp at hkq) ?hstep ?hend
      case hstep =>
        intro kq o ho hw a w hI hA hd K hK
        obtain ⟨ρ, hρ⟩ : ∃ ρ, a.eval = ρ := ⟨_, rfl⟩
        rw [hρ] at hA hd
        match kq, ho with
        | 0, ho =>
          have hoo := Option.some.inj ho
          subst hoo
          exact fx_val hK hρ _ (by have h := hA.tmp 4 (by decide); have h0 := hI.p0; have h1 := hI.p1; simp [execOp, h, h0, h1, go_sem]) rfl
        | 1, ho =>
          have hoo := Option.some.inj ho
          subst hoo
          have f0 : (ρ (.tmp 51)) = .agg #[.slice A n c, .slice F m d] := hd ⟨0, .data⟩ (by simp) (by rfl)
          exact fx_call hK hρ 15 _ _ #[.agg #[.slice A n c, .slice F m d]] rfl (by simp only [List.map_toArray, List.map_cons, List.map_nil, hA.const, f0]) (eg_of Tryd.func15 (by kernel_rfl) rfl) ((own_g10 (HG.out w hI.bel)).mono fun e w' ⟨A', c', F', d', he, hg, hb⟩ => ⟨_, he, ⟨A', c', F', d', rfl, hg⟩, hb⟩)
        | 2, ho =>
          have hoo := Option.some.inj ho
          subst hoo
          exact fx_val hK hρ (.slice N nn nc) (by have h := hA.tmp 1 (by decide); simp [execOp, h, go_sem]) rfl
        | 3, ho =>
          have hoo := Option.some.inj ho
          subst hoo
          have f2 : (ρ (.tmp 53)) = .slice N nn nc := hd ⟨2, .data⟩ (by simp) (by rfl)
          exact fx_call hK hρ 16 _ _ #[.slice N nn nc] rfl (by simp only [List.map_toArray, List.map_cons, List.map_nil, hA.const, f2]) (eg_of Tryd.func16 (by kernel_rfl) rfl) ((ints10_any w HZ.out.hn (by have := HZ.out.ln; omega) (HS.out w hI.bel).ints HZ.out.hN).mono fun e w' ⟨A', c', he, h1, h2, hb⟩ => ⟨_, he, ⟨A', c', rfl, h1, h2⟩, hb⟩)
        | 4, ho =>
          have hoo := Option.some.inj ho
          subst hoo
          exact fx_val hK hρ (.int .i64 cores) (by have h := hA.tmp 2 (by decide); simp [execOp, h, go_sem]) rfl
        | 5, ho =>
          have hoo := Option.some.inj ho
          subst hoo
          have f1 : GXd n m W E (ρ (.tmp 52)) w := hd ⟨1, .data⟩ (by simp) (by rfl)
          have f3 : GXn nn need (ρ (.tmp 54)) w := hd ⟨3, .data⟩ (by simp) (by rfl)
          have f4 : (ρ (.tmp 55)) = .int .i64 cores := hd ⟨4, .data⟩ (by simp) (by rfl)
          obtain ⟨A1, c1, F1, d1, f1', hg1⟩ := f1
          obtain ⟨A2, c2, f3', hi2, hn2⟩ := f3
          exact fx_call hK hρ 23 _ _ #[.agg #[.slice A1 n c1, .slice F1 m d1], .slice A2 nn c2, .int .i64 cores] rfl (by simp only [List.map_toArray, List.map_cons, List.map_nil, hA.const, f1', f3', f4]) (eg_of Tryd.func23 (by kernel_rfl) rfl) ((bound_any cores w hg1 HZ.out.hn HZ.out.ln hi2 hn2).mono fun e w' ⟨he, hb⟩ => ⟨_, he, rfl, hb⟩)
        | 6, ho =>
          have hoo := Option.some.inj ho
          subst hoo
          exact fx_val hK hρ _ (by have h := hA.tmp 4 (by decide); have h0 := hI.p0; have h1 := hI.p1; simp [execOp, h, h0, h1, go_sem]) rfl
        | 7, ho =>
          have hoo := Option.some.inj ho
          subst hoo
          exact fx_val hK hρ (.slice N nn nc) (by have h := hA.tmp 1 (by decide); simp [execOp, h, go_sem]) rfl
        | 8, ho =>
          have hoo := Option.some.inj ho
          subst hoo
          exact fx_val hK hρ (.int .i64 cores) (by have h := hA.tmp 2 (by decide); simp [execOp, h, go_sem]) rfl
        | 9, ho =>
          have hoo := Option.some.inj ho
          subst hoo
          have f6 : (ρ (.tmp 57)) = .agg #[.slice A n c, .slice F m d] := hd ⟨6, .data⟩ (by simp) (by rfl)
          have f7 : (ρ (.tmp 58)) = .slice N nn nc := hd ⟨7, .data⟩ (by simp) (by rfl)
          have f8 : (ρ (.tmp 59)) = .int .i64 cores := hd ⟨8, .data⟩ (by simp) (by rfl)
          exact fx_call hK hρ 24 _ _ #[.agg #[.slice A n c, .slice F m d], .slice N nn nc, .int .i64 cores] rfl (by simp only [List.map_toArray, List.map_cons, List.map_nil, hA.const, f6, f7, f8]) (eg_of Tryd.func24 (by kernel_rfl) rfl) ((rbound_any cores w (HG.out w hI.bel) HZ.out.hn HZ.out.ln (HS.out w hI.bel).ints HZ.out.hN).mono fun e w' ⟨he, hb⟩ => ⟨_, he, rfl, hb⟩)
        | 10, ho =>
          have hoo := Option.some.inj ho
          subst hoo
          have f5 : (ρ (.tmp 56)) = .int .i64 (boundV W E need cores) := hd ⟨5, .data⟩ (by simp) (by rfl)
          have f9 : (ρ (.tmp 60)) = .int .i64 (boundV W E need cores) := hd ⟨9, .data⟩ (by simp) (by rfl)
          exact fx_val hK hρ (.bool true) (by simp [execOp, f5, f9, hA.const, go_sem]) rfl
        | 11, ho =>
          have hoo := Option.some.inj ho
          subst hoo
          have f10 : (ρ (.tmp 61)) = .bool true := hd ⟨10, .data⟩ (by simp) (by rfl)
          exact fx_val hK hρ (.bool true) (by simp [execOp, f10, hA.const, go_sem]) rfl
        | 12, ho =>
          have hoo := Option.some.inj ho
          subst hoo
          exact fx_val hK hρ (.slice T i tc) (by have h := hA.tmp 3 (by decide); simp [execOp, h, go_sem]) rfl
        | 13, ho =>
          have hoo := Option.some.inj ho
          subst hoo
          have f12 : (ρ (.tmp 63)) = .slice T i tc := hd ⟨12, .data⟩ (by simp) (by rfl)
          exact fx_call hK hρ 17 _ _ #[.slice T i tc] rfl (by simp only [List.map_toArray, List.map_cons, List.map_nil, hA.const, f12]) (eg_of Tryd.func17 (by kernel_rfl) rfl) ((sown_any w HZ.out.ht HZ.out.lt HZ.out.lr (HS.out w hI.bel).rows).mono fun e w' ⟨A', c', he, h1, h2, hb⟩ => ⟨_, he, ⟨A', c', rfl, h1, h2⟩, hb⟩)
        | 14, ho =>
          have hoo := Option.some.inj ho
          subst hoo
          have f13 : GXt i t (ρ (.tmp 64)) w := hd ⟨13, .data⟩ (by simp) (by rfl)
          obtain ⟨A3, c3, f13', ht3, hn3⟩ := f13
          exact fx_call hK hρ 25 _ _ #[.slice A3 i c3] rfl (by simp only [List.map_toArray, List.map_cons, List.map_nil, hA.const, f13']) (eg_of Tryd.func25 (by kernel_rfl) rfl) ((busy_any w HZ.out.ht HZ.out.lt HZ.out.lr ht3).mono fun e w' ⟨he, hw⟩ => ⟨_, he, rfl, hw ▸ Below.refl _ _⟩)
        | 15, ho =>
          have hoo := Option.some.inj ho
          subst hoo
          exact fx_val hK hρ (.int .i64 (busyT t)) (by have h := hA.tmp 9 (by decide); simp [execOp, h, go_sem]) rfl
        | 16, ho =>
          have hoo := Option.some.inj ho
          subst hoo
          have f14 : (ρ (.tmp 65)) = .int .i64 (busyT t) := hd ⟨14, .data⟩ (by simp) (by rfl)
          have f15 : (ρ (.tmp 66)) = .int .i64 (busyT t) := hd ⟨15, .data⟩ (by simp) (by rfl)
          exact fx_val hK hρ (.bool true) (by simp [execOp, f14, f15, hA.const, go_sem]) rfl
        | 17, ho =>
          have hoo := Option.some.inj ho
          subst hoo
          have f11 : (ρ (.tmp 62)) = .bool true := hd ⟨11, .data⟩ (by simp) (by rfl)
          have f16 : (ρ (.tmp 67)) = .bool true := hd ⟨16, .data⟩ (by simp) (by rfl)
          exact fx_val hK hρ (.bool true) (by simp [execOp, f11, f16, hA.const, hA.const, go_sem]) rfl
        | 18, ho =>
          have hoo := Option.some.inj ho
          subst hoo
          have f17 : (ρ (.tmp 68)) = .bool true := hd ⟨17, .data⟩ (by simp) (by rfl)
          exact fx_val hK hρ (.bool true) (by simp [execOp, f17, hA.const, go_sem]) rfl
        | kq + 19, ho => simp at ho
      case hend =>
        intro vals xw hI hF
        have fz : vals 8 = .bool true := hF 18 (by decide)
        have HBE := Lib.hid hI.bel
        clear hF hI
        simp only [fillA, fillL, List.contains_cons, List.contains_nil, Nat.reduceBEq, Bool.or_false, Bool.false_or, Bool.or_true, Bool.true_or, cond_true, cond_false, Nat.zero_add, Nat.reduceAdd]
        rw [fz]
        clear fz
        go_wp2
        go_ret
        exact ⟨rfl, HBE.out⟩
theorem walk_SchedBounds (w0 : World) (hg : InG w0 A n c F m d W E) (hN : InN w0 N nn nc need) (cores : Int) (hc : -9223372036854775808 ≤ cores ∧ cores ≤ 9223372036854775807) (hT' : InT w0 T tn tc t) (hT : Tab64 w0) : Calls Tryd.prog 4 #[.agg #[.slice A n c, .slice F m d], .slice N nn nc, .int .i64 cores, .slice T tn tc] w0 fun e w' => e = .returned (.bool true) ∧ Below w0.heap.size w0 w' := by
  have hs := hN.with hT'
  by_cases h : (n ≤ 70 ∧ m ≤ 300) ∧ FewS need t
  · exact bounds_few w0 cores (hg.isG hT h.1.1 h.1.2) (hs.isS h.2) h.1.1 h.1.2 h.2
  · exact bounds_many w0 cores hT hg hs h
end
end Go.Proofs.YtpaambpajpmjdaaDoor
