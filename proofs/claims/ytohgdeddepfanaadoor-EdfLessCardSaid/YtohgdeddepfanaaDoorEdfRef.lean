/- The contracts of trefoilref15's functions, in the seat YtohgdeddepfanaaDoor. No statement is proved here. -/
import Derived.Test.YtohgdeddepfanaaDoorEdfDev
import Derived.Test.YtohgdeddepfanaaDoorClassRef
import Derived.Test.YtohgdeddepfanaaDoorNear
set_option linter.unusedVariables false
set_option linter.unusedSimpArgs false
namespace Go.Proofs.YtohgdeddepfanaaDoor
open Go Go.RowKit

section
variable {A : Option Addr} {n c : Nat} {es : List Shp}
theorem may_iff {es : List Shp} : (decide (MayE es)) = (es.all (fun s => decide (LightS s)) && decide (es.length ≤ 8)) := by
  unfold MayE
  by_cases h : es.length ≤ 8
  · by_cases k : ∀ s ∈ es, LightS s
    · rw [decide_eq_true (⟨h, k⟩ : es.length ≤ 8 ∧ ∀ s ∈ es, LightS s), decide_eq_true h, List.all_eq_true.mpr (fun s hs => decide_eq_true (k s hs))]
      rfl
    · have e : es.all (fun s => decide (LightS s)) = false := by
        rw [← Bool.not_eq_true, List.all_eq_true]
        exact fun q => k fun s hs => of_decide_eq_true (q s hs)
      rw [decide_eq_false (fun q : es.length ≤ 8 ∧ ∀ s ∈ es, LightS s => k q.2), e]
      rfl
  · rw [decide_eq_false (fun q : es.length ≤ 8 ∧ ∀ s ∈ es, LightS s => h q.1), decide_eq_false h, Bool.and_false]
set_option maxRecDepth 100000 in
set_option maxHeartbeats 8000000 in
theorem rcheck15_any (w : World) (hn : es.length = n) (hl : n ≤ 1000) (hS : Shps w w.heap.size A es) :
    Calls Tryd.prog 13 #[.slice A n c] w fun e w' => e = .returned (.bool (decide (MayE es))) ∧ Below w.heap.size w w' := by
  have HT := Lib.hid hS
  have HN := Lib.hid hn
  obtain ⟨r, hr⟩ : ∃ r, r = decide (MayE es) := ⟨_, rfl⟩
  rw [← hr]
  have HR := Lib.hid hr
  clear hS hn hr
  go_enter Tryd.func13, Tryd.ntmps13
  go_wp2
  go_loopw [3] (fun i wr => ∃ k : Nat, k ≤ n ∧ i = .int .i64 k ∧ Hid (Below w.heap.size w wr) ∧ Hid (∀ s ∈ es.take k, LightS s)) (fun i _ => n - (intOf i).toNat)
  case atStart => exact ⟨0, Nat.zero_le _, rfl, Lib.hid (Below.refl _ _), Lib.hid (fun s hs => by simp at hs)⟩
  case round =>
    obtain ⟨k, hk, rfl, HI, HF⟩ := hrel
    by_cases hlt : k < n
    · obtain ⟨bk, off, t, l, m, d, pp, rfl, hbg, hek, d1, d2, d3, d4, d5⟩ := (HT.out.below HI.out).at_ (k := k) (by rw [HN.out]; exact hlt)
      have hbw : bk < wr.heap.size := Nat.lt_of_lt_of_le hbg HI.out.size
      have HEK := Lib.hid hek
      have KE := Lib.hid (fun (q : ¬ LightS ⟨t, l, m, d, pp⟩) (hM : MayE es) => q (hM.2 _ (List.mem_of_getElem? hek)))
      have K := Lib.hid (fun W => rchk_any ⟨t, l, m, d, pp⟩ W)
      have n1 : ∀ x : Near wr.heap.size wr, x.W.cell? ⟨bk, off + k * 5, none⟩ = some (.int .i64 t) := fun x => (x.h.cell hbw).trans d1
      have n2 : ∀ x : Near wr.heap.size wr, x.W.cell? ⟨bk, off + k * 5 + 1, none⟩ = some (.int .i64 l) := fun x => (x.h.cell hbw).trans d2
      have n3 : ∀ x : Near wr.heap.size wr, x.W.cell? ⟨bk, off + k * 5 + 2, none⟩ = some (.int .i64 m) := fun x => (x.h.cell hbw).trans d3
      have n4 : ∀ x : Near wr.heap.size wr, x.W.cell? ⟨bk, off + k * 5 + 3, none⟩ = some (.int .i64 d) := fun x => (x.h.cell hbw).trans d4
      have n5 : ∀ x : Near wr.heap.size wr, x.W.cell? ⟨bk, off + k * 5 + 4, none⟩ = some (.int .i64 pp) := fun x => (x.h.cell hbw).trans d5
      unfold Shp.val at K
      dsimp only at K
      clear hek
      by_cases hs : Shp.Ok ⟨t, l, m, d, pp⟩
      · rw [decide_eq_true hs] at K
        by_cases hd : t ≤ d
        · have HF2 := Lib.hid (show ∀ s ∈ es.take (k + 1), LightS s by
            intro s h
            rw [List.take_add_one, HEK.out] at h
            rcases List.mem_append.mp h with h | h
            · exact HF.out s h
            · obtain rfl : s = ⟨t, l, m, d, pp⟩ := by simpa using h
              exact ⟨hs, hd⟩)
          clear hs
          go_wp2_with fail
          refine wp_region_near wr.heap.size (by kernel_rfl) (by kernel_rfl) (Nat.le_refl _) ?_
          repeat (go_big_quiet_step (first
            | (go_at_call 24; exact near_of (K.out _) (Nat.le_refl _))))
          refine wpQuiet_nil ?_
          intro W hW
          have BK := Lib.hid hW
          clear hW
          focus
            go_wp2
            go_roundw
            case rel => exact ⟨k + 1, by omega, by go_num, Lib.hid (HI.out.trans (BK.out.mono HI.out.size)), HF2⟩
            case measure => simp [intOf]; omega
        · have e0 : decide (MayE es) = false := decide_eq_false (KE.out fun q => hd q.2)
          obtain rfl : r = false := HR.out.trans e0
          clear hs e0
          go_wp2_with fail
          refine wp_region_near wr.heap.size (by kernel_rfl) (by kernel_rfl) (Nat.le_refl _) ?_
          repeat (go_big_quiet_step (first
            | (go_at_call 24; exact near_of (K.out _) (Nat.le_refl _))))
          refine wpQuiet_nil ?_
          intro W hW
          have BK := Lib.hid hW
          clear hW
          focus
            go_wp2
            go_ret
            exact ⟨rfl, HI.out.trans (BK.out.mono HI.out.size)⟩
      · rw [decide_eq_false hs] at K
        have e0 : decide (MayE es) = false := decide_eq_false (KE.out fun q => hs q.1)
        obtain rfl : r = false := HR.out.trans e0
        clear hs e0
        go_wp2_with fail
        refine wp_region_near wr.heap.size (by kernel_rfl) (by kernel_rfl) (Nat.le_refl _) ?_
        repeat (go_big_quiet_step (first
          | (go_at_call 24; exact near_of (K.out _) (Nat.le_refl _))))
        refine wpQuiet_nil ?_
        intro W hW
        have BK := Lib.hid hW
        clear hW
        focus
          go_wp2
          go_ret
          exact ⟨rfl, HI.out.trans (BK.out.mono HI.out.size)⟩
    · have e : k = n := by omega
      subst e
      have h2 : ∀ s ∈ es, LightS s := by
        have h1 : es.take k = es := List.take_of_length_le (by rw [HN.out]; exact Nat.le_refl _)
        have h2 := HF.out
        rw [h1] at h2
        exact h2
      by_cases h8 : k ≤ 8
      · obtain rfl : r = true := HR.out.trans (decide_eq_true (⟨by rw [HN.out]; exact h8, h2⟩ : MayE es))
        clear h2
        go_wp2
        go_ret
        exact ⟨by first | rfl | (simp; omega), HI.out⟩
      · obtain rfl : r = false := HR.out.trans (decide_eq_false (fun q : MayE es => h8 (by rw [← HN.out]; exact q.1)))
        have h9 : decide (k ≤ 8) = false := decide_eq_false h8
        have h10 : decide ((k : Int) ≤ 8) = false := decide_eq_false (by omega)
        clear h2
        go_wp2
        go_ret
        exact ⟨by first | rfl | (simp; omega), HI.out⟩
set_option maxHeartbeats 8000000 in
theorem rdemand_any (t : Int) (w : World) (hn : es.length = n) (hS : Shps w w.heap.size A es) (hM : MayE es) (h0 : 0 ≤ t) (h1 : t ≤ 1099511631872) :
    Calls Tryd.prog 17 #[.slice A n c, .int .i64 t] w fun e w' => e = .returned (.int .i64 (demE es t)) ∧ Below w.heap.size w w' := by
  have HT := Lib.hid hS
  have HN := Lib.hid hn
  have HM := Lib.hid hM
  have hl : n ≤ 8 := by rw [← hn]; exact hM.1
  have HE := Lib.hid (show demE es t = demE (es.take n) t by rw [List.take_of_length_le (by omega)])
  clear hS hn hM
  go_enter Tryd.func17, Tryd.ntmps17
  go_wp2
  go_loopw [5, 6] (fun v i wr => ∃ (k : Nat) (x : Int), k ≤ n ∧ i = .int .i64 k ∧ v = .int .i64 x ∧ Hid (x = demE (es.take k) t) ∧ 0 ≤ x ∧ x ≤ 8796093054976 ∧ Hid (Below w.heap.size w wr)) (fun _ i _ => n - (intOf i).toNat)
  case atStart => exact ⟨0, 0, Nat.zero_le _, rfl, rfl, Lib.hid rfl, by omega, by omega, Lib.hid (Below.refl _ _)⟩
  case round =>
    obtain ⟨k, x, hk, rfl, rfl, HX, x0, x1, HI⟩ := hrel
    by_cases hlt : k < n
    · obtain ⟨bk, off, st, sl, sm, sd, sp, rfl, hbg, hek, d1, d2, d3, d4, d5⟩ := (HT.out.below HI.out).at_ (k := k) (by rw [HN.out]; exact hlt)
      have hs := HM.out.2 _ (List.mem_of_getElem? hek)
      have HX2 := Lib.hid (show demE (es.take (k + 1)) t = x + dem1 t ⟨st, sl, sm, sd, sp⟩ by rw [HX.out]; exact sumE_snoc hek)
      have hB := demE_le (HM.out.take (k + 1)) h0
      rw [HX2.out] at hB
      have hle := dem1_le hs h0
      obtain ⟨n1, n2, n3, n4, n5, n6, n7⟩ := hs.nums
      clear hek
      dsimp only at n1 n2 n3 n4 n5 n6 n7
      by_cases hd : t < sd
      · have HX3 := Lib.hid (show x = demE (es.take (k + 1)) t by rw [HX2.out, dem1_low hd]; omega)
        clear hs hle hB
        go_wp2
        go_roundw
        case rel => exact ⟨k + 1, x, by omega, by go_num, rfl, HX3, by omega, by omega, HI⟩
        case measure => simp [intOf]; omega
      · rw [dem1_high hd] at hle hB
        have HX2' := Lib.hid (HX2.out.trans (by rw [dem1_high hd]))
        clear HX2
        dsimp only at hle hB HX2'
        obtain ⟨z, hz⟩ : ∃ z, z = (t - sd) / sp := ⟨_, rfl⟩
        have z0 : 0 ≤ z := by rw [hz]; exact Int.ediv_nonneg (by omega) (by omega)
        have z1 : z ≤ t - sd := by rw [hz]; exact Int.ediv_le_self _ (by omega)
        have hz2 : (t - sd).tdiv sp = z := by rw [tdiv_pos (by omega), hz]
        rw [← hz, Int.add_comm 1 z] at hle hB HX2'
        obtain ⟨y, hy⟩ : ∃ y, y = st * (z + 1) := ⟨_, rfl⟩
        rw [← hy] at hle hB HX2'
        have hy2 : st * (z + 1) = y := hy.symm
        obtain ⟨y0, y1, -⟩ := hle
        have HX3 := Lib.hid HX2'.out.symm
        have hsp : sp ≠ 0 := by omega
        have hsp2 : ¬ sp = 0 := by omega
        have hsp3 : (sp == 0) = false := by simpa using hsp2
        clear hs hz hy HX2'
        go_wp2_with fail
        go_quiet (fail)
        go_wp2
        go_roundw
        case rel => exact ⟨k + 1, x + y, by omega, by go_num, rfl, HX3, by omega, by omega, Lib.hid (HI.out.trans (below_drewN (Below.refl _ _) _))⟩
        case measure => simp [intOf]; omega
    · have e : k = n := by omega
      subst e
      go_wp2
      go_ret
      exact ⟨by rw [HE.out, ← HX.out]; rfl, HI.out⟩
set_option maxHeartbeats 4000000 in
theorem rblock_any (t : Int) (w : World) (hn : es.length = n) (hl : n ≤ 1000) (hS : Shps w w.heap.size A es) :
    Calls Tryd.prog 18 #[.slice A n c, .int .i64 t] w fun e w' => e = .returned (.int .i64 (blkE es t)) ∧ w = w' := by
  have HT := Lib.hid hS
  have HN := Lib.hid hn
  have HE := Lib.hid (show blkE es t = blkE (es.take n) t by rw [List.take_of_length_le (by omega)])
  clear hS hn
  go_enter Tryd.func18, Tryd.ntmps18
  go_wp2
  go_loop [5, 6] (fun v i => ∃ (k : Nat) (x : Int), k ≤ n ∧ i = .int .i64 k ∧ v = .int .i64 x ∧ Hid (x = blkE (es.take k) t)) (fun _ i => n - (intOf i).toNat)
  case atStart => exact ⟨0, 0, Nat.zero_le _, rfl, rfl, Lib.hid rfl⟩
  case round =>
    obtain ⟨k, x, hk, rfl, rfl, HX⟩ := hrel
    by_cases hlt : k < n
    · obtain ⟨bk, off, st, sl, sm, sd, sp, rfl, hbg, hek, d1, d2, d3, d4, d5⟩ := HT.out.at_ (k := k) (by rw [HN.out]; exact hlt)
      have HX2 := Lib.hid (show blkE (es.take (k + 1)) t = max x (blk1 t ⟨st, sl, sm, sd, sp⟩) by rw [HX.out]; exact maxE_snoc hek)
      have x0 : 0 ≤ x := by rw [HX.out]; exact maxE_nonneg _ _
      clear hek
      by_cases hd : t < sd
      · have e1 : blk1 t ⟨st, sl, sm, sd, sp⟩ = sm := if_neg (by dsimp only; omega)
        by_cases hm : x < sm
        · have HX3 := Lib.hid (show sm = blkE (es.take (k + 1)) t by rw [HX2.out, e1]; omega)
          clear e1 HX2
          go_wp2
          go_round
          case rel => exact ⟨k + 1, sm, by omega, by go_num, by first | rfl | (simp; omega), HX3⟩
          case measure => simp [intOf]; omega
        · have HX3 := Lib.hid (show x = blkE (es.take (k + 1)) t by rw [HX2.out, e1]; omega)
          clear e1 HX2
          go_wp2
          go_round
          case rel => exact ⟨k + 1, x, by omega, by go_num, by first | rfl | (simp; omega), HX3⟩
          case measure => simp [intOf]; omega
      · have e1 : blk1 t ⟨st, sl, sm, sd, sp⟩ = 0 := if_pos (by dsimp only; omega)
        have HX3 := Lib.hid (show x = blkE (es.take (k + 1)) t by rw [HX2.out, e1]; omega)
        clear e1 HX2
        go_wp2
        go_round
        case rel => exact ⟨k + 1, x, by omega, by go_num, rfl, HX3⟩
        case measure => simp [intOf]; omega
    · have e : k = n := by omega
      subst e
      go_wp2
      go_ret
      exact ⟨by rw [HE.out, ← HX.out]; rfl, rfl⟩
end
end Go.Proofs.YtohgdeddepfanaaDoor
