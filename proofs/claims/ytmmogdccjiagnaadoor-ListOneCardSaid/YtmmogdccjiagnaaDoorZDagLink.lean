/- dag.rightWork and dag.link in the seat YtmmogdccjiagnaaDoor: their contracts. No statement is proved here. -/
import Derived.Test.YtmmogdccjiagnaaDoorZDagSet
import Derived.Test.YtmmogdccjiagnaaDoorZM5
import Derived.Deep.RegionWith
set_option linter.unusedSimpArgs false
set_option linter.unusedVariables false
namespace Go.Proofs.YtmmogdccjiagnaaDoor
open Go.RowKit

set_option maxHeartbeats 2000000 in
theorem right_any (A : Option Addr) (c n : Nat) (W : List Int) (w : World) (hn : W.length = n) (hl : n ≤ 1000) (hI : Ints w w.heap.size A W) (r : Bool) (hr : r = true ↔ WorkOk W) :
    Calls Tryd.prog 85 #[.slice A n c] w fun e w' => e = .returned (.bool r) ∧ w = w' := by
  have HI := Lib.hid hI
  have HN := Lib.hid hn
  have HR := Lib.hid hr
  clear hI hn hr
  go_enter Tryd.func85, Tryd.ntmps85
  go_wp2
  go_loop [7] (fun i => ∃ j : Nat, j ≤ n ∧ i = .int .i64 j ∧ Hid (WorkOk (W.take j))) (fun i => n - (intOf i).toNat)
  case atStart => exact ⟨0, Nat.zero_le _, rfl, Lib.hid (fun z hz => by simp at hz)⟩
  case round =>
    obtain ⟨j, hj, rfl, HO⟩ := hrel
    by_cases hlt : j < n
    · obtain ⟨bk, o, z, rfl, hbg, hzj, hc1⟩ := HI.out.at_ (k := j) (by rw [HN.out]; exact hlt)
      have HS := Lib.hid (workOk_snoc hzj)
      have HBAD := Lib.hid (fun h : ¬ (0 ≤ z ∧ z ≤ 1000) => (by
        cases hb : r with
        | true => exact absurd ((HR.out.mp hb) z (List.mem_of_getElem? hzj)) h
        | false => rfl : r = false))
      clear hzj
      by_cases h0 : z < 0
      · have HX := Lib.hid (HBAD.out (by omega))
        go_wp2
        go_ret
        exact ⟨by rw [HX.out]; rfl, rfl⟩
      · by_cases h1 : 1000 < z
        · have HX := Lib.hid (HBAD.out (by omega))
          go_wp2
          go_ret
          exact ⟨by rw [HX.out]; rfl, rfl⟩
        · have HX : Hid (WorkOk (W.take (j + 1))) := Lib.hid (HS.out.mpr ⟨HO.out, by omega, by omega⟩)
          have g0 : decide (z < 0) = false := decide_eq_false h0
          have g1 : decide (1000 < z) = false := decide_eq_false h1
          go_wp2
          go_round
          case rel => exact ⟨j + 1, by omega, by go_num, HX⟩
          case measure => simp [intOf]; omega
    · obtain rfl : j = n := by omega
      have HX : Hid (r = true) := Lib.hid (HR.out.mpr (by have h := HO.out; rwa [List.take_of_length_le (by rw [HN.out]; omega)] at h))
      go_wp2
      go_ret
      exact ⟨by rw [HX.out]; rfl, rfl⟩

/-! For each node those from which an edge leads to it -/
structure PredsOf (n : Nat) (E : List (Int × Int)) (ps : List Nat) : Prop where
  len : ps.length = n
  lt : ∀ y, y < n → ps.getD y 0 < 18446744073709551616
  bit : ∀ y, y < n → ∀ a, (ps.getD y 0).testBit a = decide (ed E a y)
theorem PredsOf.nil (n : Nat) : PredsOf n [] (List.replicate n 0) := by
  have h : ∀ y, (List.replicate n 0).getD y 0 = 0 := fun y => by
    rw [List.getD_eq_getElem?_getD, List.getElem?_replicate]
    split <;> rfl
  refine ⟨by simp, fun y hy => by rw [h]; decide, fun y hy a => ?_⟩
  rw [h, Nat.zero_testBit]
  exact (decide_eq_false (by unfold ed; simp)).symm
theorem PredsOf.snoc {n : Nat} {E : List (Int × Int)} {ps : List Nat} (h : PredsOf n E ps) {x y : Nat} (hx : x < 64) (hy : y < n) : PredsOf n (E ++ [((x : Int), (y : Int))]) (ps.set y (ps.getD y 0 ||| 2 ^ x)) := by
  refine ⟨by rw [List.length_set]; exact h.len, fun b hb => ?_, fun b hb a => ?_⟩
  · rw [getD_set]
    split
    · exact Nat.or_lt_two_pow (n := 64) (h.lt y hy) (Nat.pow_lt_pow_right (by decide) hx)
    · exact h.lt b hb
  · rw [getD_set, Bool.eq_iff_iff, decide_eq_true_iff, ed_snoc]
    split
    · rename_i hi
      rw [or_bit_testBit, Bool.or_eq_true, h.bit y hy, decide_eq_true_iff, decide_eq_true_iff]
      constructor
      · rintro (k | k)
        · exact .inl (by rw [← hi.1]; exact k)
        · exact .inr ⟨k.symm, hi.1.symm⟩
      · rintro (k | k)
        · exact .inl (by rw [hi.1]; exact k)
        · exact .inr k.1.symm
    · rename_i hi
      rw [h.bit b hb, decide_eq_true_iff]
      constructor
      · exact .inl
      · rintro (k | k)
        · exact k
        · exact absurd ⟨k.2.symm, by rw [h.len]; exact hy⟩ hi
def natsV (ps : List Nat) : List Value := ps.map fun p => Value.int .u64 (p : Nat)
theorem natsV_at {ps : List Nat} {j : Nat} (h : j < ps.length) : (natsV ps)[j]? = some (.int .u64 (ps.getD j 0 : Nat)) := by
  unfold natsV
  rw [List.getElem?_map, List.getElem?_eq_getElem h, List.getD_eq_getElem?_getD, List.getElem?_eq_getElem h]
  rfl
theorem natsV_set (ps : List Nat) (j p : Nat) : natsV (ps.set j p) = (natsV ps).set j (.int .u64 (p : Nat)) := by unfold natsV; rw [List.map_set]
theorem nat_cell_info : (Tryd.prog.info? 98).map (fun i => (i.zero, i.size, i.bytes)) = some (some (.int .u64 0), 1, 8) := by kernel_rfl
theorem make_nodes (n : Nat) (hn : n ≤ 1000) (W : World) : (Instr.makeSlice 88 (.int .i64 n) (.int .i64 n)).run Tryd.prog W = .ok (.slice (some ⟨W.heap.size, 0, none⟩) n n) (W.alloc (.cells (natsV (List.replicate n 0)).toArray 98)) := by
  obtain ⟨i0, hi, hz0, hz1, hz2⟩ := info_parts nat_cell_info
  have h := run_make (P := Tryd.prog) W 88 98 i0 (.int .u64 0) Tryd.underlying88 hi hz0 .i64 .i64 n n (by omega) (by omega) (by rw [hz2]; omega) (by omega)
  rw [hz1] at h
  have e : madeCells (Value.int .u64 0).cells (((n : Int)).toNat * 1) = (natsV (List.replicate n 0)).toArray := by
    apply Array.toList_inj.mp
    rw [show (Value.int .u64 0).cells = #[Value.int .u64 0] from rfl, toList_madeCells_one]
    simp [natsV]
  rw [e] at h
  exact h
abbrev RowN (g : Nat) (ps : List Nat) (w : World) : Prop := RowV g 98 (natsV ps) w

set_option maxRecDepth 100000 in
set_option maxHeartbeats 8000000 in
theorem link_any (F : Option Addr) (n m d : Nat) (E : List (Int × Int)) (w : World) (hl : n ≤ 64) (hm : E.length = m) (hk : m ≤ 1000) (hP : Pairs w w.heap.size F E) :
    Calls Tryd.prog 86 #[.int .i64 n, .slice F m d] w fun e w' => Below w.heap.size w w' ∧
      ((EdgesOk n E ∧ ∃ g ps, e = .returned (.tuple #[.slice (some ⟨g, 0, none⟩) n n, .bool true]) ∧ w.heap.size ≤ g ∧ RowN g ps w' ∧ PredsOf n E ps) ∨ (¬ EdgesOk n E ∧ e = .returned (.tuple #[.slice none 0 0, .bool false]))) := by
  have HP := Lib.hid hP
  have HM := Lib.hid hm
  have hmk := fun W => make_nodes n (by omega) W
  have CN := Lib.hid (fun x W' => (is_node x n W' (by omega)).mono fun _ _ h => And.intro h.1 h.2.symm)
  have CH := Lib.hid (fun s x hs hx W' => (set_has s x W' hs hx).mono fun _ _ h => And.intro h.1 h.2.symm)
  have CW := Lib.hid (fun s x W' => set_with s x W')
  clear hP hm
  go_enter Tryd.func86, Tryd.ntmps86
  go_wp2
  have H0 : Hid (RowN w.heap.size (List.replicate n 0) (w.alloc (.cells (natsV (List.replicate n 0)).toArray 98))) := Lib.hid (RowV.new w _ _)
  go_loopw [13] (fun i wr => ∃ (k : Nat) (ps : List Nat), k ≤ m ∧ i = .int .i64 k ∧ Hid (EdgesOk n (E.take k)) ∧ Hid (PredsOf n (E.take k) ps) ∧ Hid (RowN w.heap.size ps wr) ∧ Hid (Below w.heap.size w wr)) (fun i _ => m - (intOf i).toNat)
  case atStart => exact ⟨0, _, Nat.zero_le _, rfl, Lib.hid ⟨fun e he => by simp at he, fun e he => by simp at he, by simp⟩, Lib.hid (by rw [List.take_zero]; exact PredsOf.nil n), H0, Lib.hid (below_alloc _)⟩
  case round =>
    obtain ⟨k, ps, hkm, rfl, HE, HPS, HV, HB⟩ := hrel
    clear H0
    by_cases hlt : k < m
    · obtain ⟨bk, o, ⟨x, y⟩, rfl, hbg, hek, hc1, hc2⟩ := HP.out.at_ (k := k) (by rw [HM.out]; exact hlt)
      simp only at hc1 hc2
      have hd1 : wr.cell? ⟨bk, o + k * 2, none⟩ = some (.int .i64 x) := (HB.out.cell hbg).trans hc1
      have hd2 : wr.cell? ⟨bk, o + k * 2 + 1, none⟩ = some (.int .i64 y) := (HB.out.cell hbg).trans hc2
      have HS := Lib.hid (edgesOk_snoc (n := n) hek)
      have HSN := Lib.hid (take_snoc' hek)
      have HBAD := Lib.hid (fun (h : ¬ EdgesOk n (E.take (k + 1))) (q : EdgesOk n E) => h (edgesOk_take q _))
      have hsz := HB.out.size
      have hgl : w.heap.size < wr.heap.size := HV.out.lt
      clear hc1 hc2 hek
      by_cases p1 : 0 ≤ x ∧ x < n
      · obtain ⟨a, rfl⟩ := Int.eq_ofNat_of_zero_le p1.1
        have C1 := Lib.hid (fun W' => CN.out (a : Int) W')
        rw [decide_eq_true p1] at C1
        by_cases p2 : 0 ≤ y ∧ y < n
        · obtain ⟨b, rfl⟩ := Int.eq_ofNat_of_zero_le p2.1
          have C2 := Lib.hid (fun W' => CN.out (b : Int) W')
          rw [decide_eq_true p2] at C2
          have ha : a < n := by omega
          have hb : b < n := by omega
          by_cases p3 : a = b
          · have HX := Lib.hid (HBAD.out (fun q => ((HS.out.mp q).2.2.2.1) (by rw [p3])))
            subst p3
            clear p1 p2
            go_wp2
            go_quiet (first
              | (go_at_call_of 89 (Value.int .i64 (a : Int)); refine Calls.quiet_of_same (C1.out _)))
            go_wp2
            go_ret2
            exact ⟨below_drewN (HB.out.alloc (by omega) _) _, .inr ⟨HX.out, rfl⟩⟩
          · have h3 : ((a : Int) == (b : Int)) = false := beq_eq_false_iff_ne.mpr (fun h => p3 (Int.ofNat_inj.mp h))
            have HP3 := Lib.hid (show ((a : Int), (b : Int)).1 ≠ ((a : Int), (b : Int)).2 from fun h => p3 (Int.ofNat_inj.mp h))
            have HP1 := Lib.hid p1
            have HP2 := Lib.hid p2
            have hcell := HV.out.cell (natsV_at (ps := ps) (j := b) (by rw [HPS.out.len]; exact hb))
            have C3 := Lib.hid (fun W' => CH.out (ps.getD b 0) a (HPS.out.lt b hb) (by omega) W')
            have HBIT := Lib.hid (HPS.out.bit b hb a)
            have HPN := Lib.hid (HPS.out.snoc (show a < 64 by omega) hb)
            have C4 := Lib.hid (fun W' => CW.out (ps.getD b 0) a W' (HPS.out.lt b hb) (by omega))
            obtain ⟨p, hp⟩ : ∃ p, p = ps.getD b 0 := ⟨_, rfl⟩
            rw [← hp] at C3 HBIT hcell C4 HPN
            obtain ⟨p', hp'⟩ : ∃ p', p' = p ||| 2 ^ a := ⟨_, rfl⟩
            simp only [← hp'] at C4 HPN
            have hfr := HV.out.frozen b
            clear p1 p2 p3 hp hp'
            by_cases p4 : ed (E.take k) a b
            · have HX := Lib.hid (HBAD.out (fun q => (HS.out.mp q).2.2.2.2 p4))
              rw [HBIT.out, decide_eq_true p4] at C3
              clear p4
              go_wp2
              go_quiet (first
                | (go_at_call_of 89 (Value.int .i64 (a : Int)); refine Calls.quiet_of_same (C1.out _))
                | (go_at_call_of 89 (Value.int .i64 (b : Int)); refine Calls.quiet_of_same (C2.out _))
                | (go_at_call_of 102 (Value.int .u64 (p : Int)); refine Calls.quiet_of_same (C3.out _)))
              go_wp2
              go_ret2
              exact ⟨below_drewN (HB.out.alloc (by omega) _) _, .inr ⟨HX.out, rfl⟩⟩
            · have HOK := Lib.hid (HS.out.mpr ⟨HE.out, HP1.out, HP2.out, HP3.out, p4⟩)
              rw [HBIT.out, decide_eq_false p4] at C3
              clear p4
              go_wp2
              go_quiet (first
                | (go_at_call_of 89 (Value.int .i64 (a : Int)); refine Calls.quiet_of_same (C1.out _))
                | (go_at_call_of 89 (Value.int .i64 (b : Int)); refine Calls.quiet_of_same (C2.out _))
                | (go_at_call_of 102 (Value.int .u64 (p : Int)); refine Calls.quiet_of_same (C3.out _)))
              go_wp2_with fail
              go_region_with (go_at_call 103; refine (C4.out _).mono ?_; rintro e w' ⟨rfl, rfl⟩)
              all_goals go_wp2
              all_goals go_roundw
              all_goals first
                | exact ⟨k + 1, _, by omega, by go_num, HOK, Lib.hid (by rw [HSN.out]; exact HPN.out), Lib.hid (by rw [RowN, natsV_set]; exact ((HV.out.alloc _).below (below_drewN (Below.refl (w.heap.size + 1) _) _) (Nat.lt_succ_self _)).set b _), Lib.hid ((below_drewN (HB.out.alloc (by omega) _) _).setCell (Nat.le_refl _) _)⟩
                | (simp [intOf]; omega)
        · have C2 := Lib.hid (fun W' => CN.out y W')
          rw [decide_eq_false p2] at C2
          have HX := Lib.hid (HBAD.out (fun q => p2 (HS.out.mp q).2.2.1))
          clear p1 p2
          go_wp2
          go_quiet (first
            | (go_at_call_of 89 (Value.int .i64 (a : Int)); refine Calls.quiet_of_same (C1.out _))
            | (go_at_call_of 89 (Value.int .i64 y); refine Calls.quiet_of_same (C2.out _)))
          go_wp2
          go_ret2
          exact ⟨below_drewN (HB.out.alloc (by omega) _) _, .inr ⟨HX.out, rfl⟩⟩
      · have C1 := Lib.hid (fun W' => CN.out x W')
        rw [decide_eq_false p1] at C1
        have HX := Lib.hid (HBAD.out (fun q => p1 (HS.out.mp q).2.1))
        clear p1
        go_wp2
        go_quiet (first
          | (go_at_call_of 89 (Value.int .i64 x); refine Calls.quiet_of_same (C1.out _)))
        go_wp2
        go_ret2
        exact ⟨below_drewN (HB.out.alloc (by omega) _) _, .inr ⟨HX.out, rfl⟩⟩
    · obtain rfl : k = m := by omega
      have HX : Hid (EdgesOk n E ∧ PredsOf n E ps) := Lib.hid (by
        have h := HE.out
        have h2 := HPS.out
        rw [List.take_of_length_le (by rw [HM.out]; omega)] at h h2
        exact ⟨h, h2⟩)
      go_wp2
      go_ret2
      exact ⟨HB.out, .inl ⟨HX.out.1, w.heap.size, ps, rfl, Nat.le_refl _, HV.out, HX.out.2⟩⟩
end Go.Proofs.YtmmogdccjiagnaaDoor
