/- dag.Total in the seat YtmgfbpnphdkgiaaDoor: its contract. No statement is proved here. -/
import Derived.Test.YtmgfbpnphdkgiaaDoorDagDoneA
set_option linter.unusedVariables false
namespace Go.Proofs.YtmgfbpnphdkgiaaDoor
open Go.RowKit

/-- The closure of Total: it adds to what it captured. -/
theorem total_add (z s : Int) (b : Nat) (w : World) (h0 : 0 ≤ s + z) (h1 : s + z ≤ 1000000) (hV : RowV b 3 [.int .i64 s] w) :
    Calls Tryd.prog 35 #[.int .i64 z, .pointer (some ⟨b, 0, none⟩)] w fun e w' => e = .returned (.tuple #[]) ∧ w' = w.setCell ⟨b, 0, none⟩ (.int .i64 (s + z)) := by
  have hc := hV.cell (j := 0) rfl
  have hf := hV.frozen 0
  have hb := hV.lt
  clear hV
  go_enter Tryd.func35, Tryd.ntmps35
  go_wp2
  go_end0
  exact ⟨rfl, rfl⟩

section
variable {A : Option Addr} {n c : Nat} {F : Option Addr} {m d : Nat} {W : List Int} {E : List (Int × Int)}
set_option maxHeartbeats 4000000 in
theorem total_done (w : World) (h : IsG w A n c F m d W E) :
    Calls Tryd.prog 18 #[.agg #[.slice A n c, .slice F m d]] w fun e w' => e = .returned (.int .i64 (totalV W E)) ∧ Below w.heap.size w w' := by
  have H := Lib.hid h
  have C := Lib.hid (fun w' (h : IsG w' A n c F m d W E) => check_done w' h)
  by_cases hM : May W E
  · have hn64 : n ≤ 64 := by rw [← h.hn]; exact hM.nodes
    have HW := Lib.hid hM.work
    rw [chkE_zero.mpr hM] at C
    have HT := Lib.hid (show totalV W E = W.sum by unfold totalV; rw [if_pos hM])
    obtain ⟨r, hr⟩ : ∃ r, r = totalV W E := ⟨_, rfl⟩
    rw [← hr] at HT ⊢
    obtain ⟨w0, hw0⟩ : ∃ w0, w0 = w.alloc (.cells #[.slice A n c, .slice F m d] 25) := ⟨_, rfl⟩
    have HW0 := Lib.hid hw0
    have HN := Lib.hid h.hn
    clear h hM hr hw0
    go_enter Tryd.func18, Tryd.ntmps18
    go_wp2_with fail
    refine (C.out _ (H.out.below (below_alloc _))).mono ?_
    rintro e w1 ⟨rfl, b⟩
    have HB := Lib.hid (show Below w0.heap.size w0 w1 by rw [HW0.out]; exact b)
    have HG := Lib.hid ((H.out.below (below_alloc _)).below b)
    have hs1 : w.heap.size < w1.heap.size := by have := b.size; simp at this; exact this
    have hbox0 : w1.cell? ⟨w.heap.size, 0, none⟩ = some (.slice A n c) := (b.cell (by simp)).trans (by rw [World.cell?_alloc_at _ _ _ _ rfl]; rfl)
    clear b
    go_wp2
    have H0 : Hid (RowV w1.heap.size 3 [.int .i64 0] (w1.alloc (.cells #[.int .i64 0] 3))) := Lib.hid (RowV.new w1 3 [.int .i64 0])
    go_loopw [14] (fun i wr => ∃ (j : Nat) (q : Int), j ≤ n ∧ i = .int .i64 j ∧ 0 ≤ q ∧ q ≤ 1000 * j ∧ Hid (q = (W.take j).sum) ∧ Hid (RowV w1.heap.size 3 [.int .i64 q] wr) ∧ Hid (Below w1.heap.size w1 wr)) (fun i _ => n - (intOf i).toNat)
    case atStart => exact ⟨0, 0, Nat.zero_le _, rfl, by omega, by omega, Lib.hid (by simp), H0, Lib.hid (below_alloc _)⟩
    case round =>
      obtain ⟨j, q, hj, rfl, hq0, hq1, hqe, HV, HB1⟩ := hrel
      clear H0
      have hbl := HV.out.lt
      by_cases hlt : j < n
      · obtain ⟨bk, o, z, rfl, hbg, hzj, hc1⟩ := HG.out.ints.at_ (k := j) (by rw [HN.out]; exact hlt)
        have hd1 : wr.cell? ⟨bk, o + j, none⟩ = some (.int .i64 z) := (HB1.out.cell hbg).trans hc1
        obtain ⟨z0, z1⟩ := HW.out z (List.mem_of_getElem? hzj)
        have HQ := Lib.hid (show q + z = (W.take (j + 1)).sum by rw [take_snoc' hzj, List.sum_append, hqe.out]; simp)
        have C2 := Lib.hid (total_add z q w1.heap.size wr (by omega) (by omega) HV.out)
        clear hzj hc1
        go_wp2_with (go_at_call 35; refine C2.out.mono ?_; rintro e w3 ⟨rfl, rfl⟩)
        go_roundw
        case rel => exact ⟨j + 1, q + z, by omega, by go_num, by omega, by omega, HQ, Lib.hid (HV.out.set 0 (.int .i64 (q + z))), Lib.hid (HB1.out.setCell (Nat.le_refl _) _)⟩
        case measure => simp [intOf]; omega
      · obtain rfl : j = n := by omega
        have hl2 : W.take j = W := List.take_of_length_le (by rw [HN.out]; omega)
        rw [hl2] at hqe
        have hc := HV.out.cell (j := 0) rfl
        go_wp2
        go_ret
        exact ⟨by rw [HT.out, ← hqe.out]; rfl, (below_alloc _).trans (by rw [← HW0.out]; exact (HB.out.trans (HB1.out.mono HB.out.size)).mono (by rw [HW0.out]; simp))⟩
  · have HO : totalV W E = 0 := by unfold totalV; rw [if_neg hM]
    rw [HO]
    have hc : (chkE W E != 0) = true := by
      rw [bne_iff_ne]
      exact fun q => hM (chkE_zero.mp q)
    obtain ⟨r, hr⟩ : ∃ r, r = chkE W E := ⟨_, rfl⟩
    rw [← hr] at C hc
    clear h hM hr HO
    go_enter Tryd.func18, Tryd.ntmps18
    go_wp2_with fail
    refine (C.out _ (H.out.below (below_alloc _))).mono ?_
    rintro e w1 ⟨rfl, b⟩
    have HB := Lib.hid ((below_alloc _).trans (b.mono (by simp)))
    clear b
    go_wp2
    go_ret
    exact ⟨rfl, HB.out⟩
end
end Go.Proofs.YtmgfbpnphdkgiaaDoor
