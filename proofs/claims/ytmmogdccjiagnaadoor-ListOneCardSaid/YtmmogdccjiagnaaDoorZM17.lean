/- trefoilref11.New in the seat YtmmogdccjiagnaaDoor: its contract.
   trefoilref11.Ready in the seat YtmmogdccjiagnaaDoor: its contract.
   No statement is proved here. -/
import Derived.Test.YtmmogdccjiagnaaDoorZM15
import Derived.Test.YtmmogdccjiagnaaDoorZM11
import Derived.Test.YtmmogdccjiagnaaDoorZM16
import Derived.BigRegion
import Derived.StillTailTactics
import Derived.Laws.ResultCell
import Derived.Test.YtmmogdccjiagnaaDoorZM2
set_option linter.unusedSimpArgs false
set_option linter.unusedVariables false
set_option linter.unusedSimpArgs false
namespace Go.Proofs.YtmmogdccjiagnaaDoor
open Go Go.RowKit

open Classical in
noncomputable def newE (W : List Int) (E : List (Int × Int)) (need : List Int) (cores : Int) : Int := if chkE W E = 0 then (if FormOk W need cores then 0 else 100) else chkE W E
noncomputable def newO (W : List Int) (E : List (Int × Int)) (need : List Int) (cores : Int) : List Int := if newE W E need cores = 0 then List.replicate cores.toNat (-1) else []
noncomputable def newL (W : List Int) (E : List (Int × Int)) (need : List Int) (cores : Int) : List Int := if newE W E need cores = 0 then need else []
theorem newE_zero {W : List Int} {E : List (Int × Int)} {need : List Int} {cores : Int} : newE W E need cores = 0 ↔ May W E ∧ FormOk W need cores := by
  unfold newE
  by_cases h : chkE W E = 0
  · rw [if_pos h]
    by_cases h2 : FormOk W need cores
    · rw [if_pos h2]; exact ⟨fun _ => ⟨chkE_zero.mp h, h2⟩, fun _ => rfl⟩
    · rw [if_neg h2]; exact ⟨fun e => absurd e (by decide), fun e => absurd e.2 h2⟩
  · rw [if_neg h]; exact ⟨fun e => absurd e h, fun e => absurd (chkE_zero.mpr e.1) h⟩
/-- What New tells. -/
def GotNewC (W : List Int) (E : List (Int × Int)) (need : List Int) (cores : Int) (w : World) (e : Ending) (w' : World) : Prop :=
  ∃ A1 n1 c1 F1 m1 d1, e = .returned (.tuple #[.agg #[.slice A1 n1 c1, .slice F1 m1 d1], .int .i64 (newE W E need cores)]) ∧ OwnC w' w.heap.size A1 n1 c1 F1 m1 d1 (newO W E need cores) (newL W E need cores) ∧ Below w.heap.size w w'
theorem newC_bad {W : List Int} {E : List (Int × Int)} {need : List Int} {cores z : Int} {w w' : World} (h : newE W E need cores = z) (hz : z ≠ 0) (hb : Below w.heap.size w w') : GotNewC W E need cores w (.returned (.tuple #[.agg #[.slice none 0 0, .slice none 0 0], .int .i64 z])) w' := by
  refine ⟨none, 0, 0, none, 0, 0, by rw [h], ?_, hb⟩
  unfold newO newL
  rw [if_neg (by rw [h]; exact hz), if_neg (by rw [h]; exact hz)]
  exact noOwnC _ _
/-- In the middle of New. -/
structure StNw (wf : World) (hb g : Nat) (vO vL : Value) (O L : List Int) (x : World) : Prop where
  bel : Below wf.heap.size wf x
  lo : wf.heap.size + 1 + 1 ≤ hb
  r : x.heap[wf.heap.size + 1]? = some (.cells #[.slice none 0 0, .slice none 0 0] 27 (0, 0))
  b : x.heap[g]? = some (.cells #[vO, vL] 27 (0, 0))
  hg : hb ≤ g
  on : OwnI x hb vO O
  left : OwnI x hb vL L
  ap : ∀ k, vO.ownBlock = some k → vL.ownBlock ≠ some k
section
variable {wf x y : World} {hb g : Nat} {vO vL : Value} {O L : List Int}
theorem RXs.ownFar2 {t u : TypeId} {base base' : Nat} {row : Option Nat} {w w' : World} (h : RXs u base row w w') {s k : Nat} {v : Value} {xs : List Value} (ho : w.ownsRow base' t s v k xs) (hne : v.ownBlock = none ∨ v.ownBlock ≠ row) : w'.ownsRow base' t s v k xs := by
  rcases h with h | ⟨h, _⟩
  · exact own_below ho h
  · exact ho.kept h hne
/-- One more core, stored. -/
theorem StNw.push (h : StNw wf hb g vO vL O L x) (hsz : hb ≤ x.heap.size) {v' : Value} {O' : List Int} (ho : OwnI y hb v' O') (hr : RXs 3 hb vO.ownBlock x y) (hat : ∀ k, v'.ownBlock = some k → vO.ownBlock = some k ∨ x.heap.size ≤ k) :
    StNw wf hb g v' vL O' L (y.setCell ⟨g, 0, none⟩ v') := by
  have b := hr.below hsz
  have hL := h.left.blockLt
  have hlo := h.lo
  have hg := h.hg
  have hbox := hr.heap h.b (by decide)
  have hoth : ∀ k, k ≠ g → (y.setCell ⟨g, 0, none⟩ v').heap[k]? = y.heap[k]? := fun k hk => heap_setCell_other _ _ _ _ hk
  have hleft : OwnI y hb vL L := by
    refine hr.ownFar2 h.left ?_
    cases hv : vL.ownBlock with
    | none => exact .inl rfl
    | some q => exact .inr fun e => h.ap q e.symm hv
  refine ⟨h.bel.trans ((b.mono (by omega)).setCell (by show wf.heap.size ≤ g; omega) _), h.lo, ?_, ?_, hg, other_ownC ho hbox (by decide) hoth, other_ownC hleft hbox (by decide) hoth, fun k e1 e2 => ?_⟩
  · rw [hoth _ (by omega)]
    exact hr.heap h.r (by decide)
  · have := heap_setCell_same y g 0 _ _ v' hbox
    simpa using this
  · rcases hat k e1 with h1 | h1
    · exact h.ap k h1 e2
    · have := (hL k e2).2
      omega
end
theorem new_cell_info : (Tryd.prog.info? 3).map (fun i => (i.zero, i.size, i.bytes)) = some (some (.int .i64 0), 1, 8) := by kernel_rfl
section
variable {A : Option Addr} {n c : Nat} {F : Option Addr} {m d : Nat} {W : List Int} {E : List (Int × Int)} {N : Option Addr} {nn nc : Nat} {need : List Int}
set_option maxRecDepth 100000 in
set_option maxHeartbeats 8000000 in
theorem rnewC_any (cores : Int) (wf : World) (hg : IsG wf A n c F m d W E) (hn : need.length = nn) (hl : nn ≤ 400) (hI : Ints wf wf.heap.size N need) (hN : N = none → nn = 0 ∧ nc = 0) :
    Calls Tryd.prog 29 #[.agg #[.slice A n c, .slice F m d], .slice N nn nc, .int .i64 cores] wf (GotNewC W E need cores wf) := by
  obtain ⟨w0, hw0⟩ : ∃ w0, w0 = (wf.alloc (.cells #[.slice A n c, .slice F m d] 25)).alloc (.cells #[.slice none 0 0, .slice none 0 0] 27) := ⟨_, rfl⟩
  have HB0 : Hid (Below wf.heap.size wf w0) := Lib.hid (by rw [hw0]; exact below_alloc2c _ _)
  have hs : w0.heap.size = wf.heap.size + 1 + 1 := by rw [hw0]; simp
  have HR0 : Hid (w0.heap[wf.heap.size + 1]? = some (.cells #[.slice none 0 0, .slice none 0 0] 27 (0, 0))) := Lib.hid (by
    have h2 := heap_alloc_new (wf.alloc (.cells #[.slice A n c, .slice F m d] 25)) (.cells #[.slice none 0 0, .slice none 0 0] 27)
    rw [← hw0] at h2
    simpa using h2)
  have HD0 : Hid (w0.cell? ⟨wf.heap.size, 0, none⟩ = some (.slice A n c) ∧ w0.cell? ⟨wf.heap.size, 1, none⟩ = some (.slice F m d)) := Lib.hid (by
    constructor <;> (rw [hw0, World.cell?_alloc_lt _ _ _ (by simp), World.cell?_alloc_at _ _ _ _ rfl]; rfl)
  )
  have HS0 : Hid (w0.heap.size = wf.heap.size + 1 + 1) := Lib.hid hs
  have CK := Lib.hid (fun W' (h : IsG W' A n c F m d W E) => rcheck_g11 h)
  have CF := Lib.hid (fun W' (h : Below wf.heap.size wf W') => rform_any (A := A) (n := n) (c := c) (F := F) (m := m) (d := d) (W := W) (N := N) (nc := nc) cores W' hn hl hg.hn ((hI.below h).more h.size))
  have HG := Lib.hid hg
  have HI := Lib.hid hI
  have HN := Lib.hid hn
  have HNN := Lib.hid hN
  have HW := Lib.hid hw0
  clear hg hI hn hN hw0 hs
  by_cases he : chkE W E = 0
  · rw [he] at CK
    by_cases hf : FormOk W need cores
    · have HE : Hid (newE W E need cores = 0) := Lib.hid (newE_zero.mpr ⟨chkE_zero.mp he, hf⟩)
      obtain ⟨k, rfl⟩ : ∃ k : Nat, cores = k := ⟨cores.toNat, by have := hf.2.2.1; omega⟩
      have hk1 : 1 ≤ k := by have := hf.2.2.1; omega
      have hk8 : k ≤ 8 := by have := hf.2.2.2; omega
      rw [decide_eq_true hf] at CF
      clear he hf
      go_enter Tryd.func29, Tryd.ntmps29
      go_wp2_with fail
      rw [← HW.out]
      refine (CK.out _ (HG.out.below HB0.out)).mono ?_
      rintro e w1 ⟨rfl, b1⟩
      have HB1 := Lib.hid (HB0.out.trans (b1.mono HB0.out.size))
      have d0 := (b1.cell (p := ⟨wf.heap.size, 0, none⟩) (by show wf.heap.size < _; have := HS0.out; omega)).trans HD0.out.1
      have d1 := (b1.cell (p := ⟨wf.heap.size, 1, none⟩) (by show wf.heap.size < _; have := HS0.out; omega)).trans HD0.out.2
      have HR1 : Hid (w1.heap[wf.heap.size + 1]? = _) := Lib.hid ((b1.block _ (Array.getElem?_eq_some_iff.1 HR0.out).1).trans HR0.out)
      clear b1
      go_wp2_with fail
      refine (CF.out _ HB1.out).mono ?_
      rintro e w2 ⟨rfl, b2⟩
      have HB2 := Lib.hid (HB1.out.trans (b2.mono HB1.out.size))
      have HR2 : Hid (w2.heap[wf.heap.size + 1]? = _) := Lib.hid ((b2.block _ (Array.getElem?_eq_some_iff.1 HR1.out).1).trans HR1.out)
      have hlo : wf.heap.size + 1 + 1 ≤ w2.heap.size := (Array.getElem?_eq_some_iff.1 HR2.out).1
      clear b2 d0 d1
      have HI2 := Lib.hid ((HI.out.below HB2.out).more HB2.out.size)
      go_wp2_with (at_builtin; refine wpList_own rfl _ _ rfl w2 w2.heap.size N nc nn need HN.out (by omega) HI2.out (Nat.le_refl _) (fun q => (HNN.out q).2) (by simp [Act.eval]) rfl ?_; intro A1 c1 w3 HO1 HB3; (have HO3 := Lib.hid HO1); (have HB3' := Lib.hid HB3); clear HO1 HB3)
      obtain ⟨g, hg⟩ : ∃ g, g = w3.heap.size := ⟨_, rfl⟩
      obtain ⟨w4, hw4⟩ : ∃ w4, w4 = w3.alloc (.cells #[.slice none 0 0, .slice A1 nn c1] 27) := ⟨_, rfl⟩
      have H4 : Hid (StNw wf w2.heap.size g (.slice none 0 0) (.slice A1 nn c1) (List.replicate 0 (-1)) need w4) := Lib.hid (by
        have hba := below_alloc (w := w3) (.cells #[.slice none 0 0, .slice A1 nn c1] 27)
        have hna := heap_alloc_new w3 (.cells #[.slice none 0 0, .slice A1 nn c1] 27)
        rw [← hw4] at hba hna
        rw [← hg] at hna
        have hbb : Below wf.heap.size wf w3 := HB2.out.trans (HB3'.out.mono HB2.out.size)
        refine ⟨hbb.trans (hba.mono hbb.size), hlo, ?_, hna, by rw [hg]; exact HB3'.out.size, ⟨rfl, .inl ⟨rfl, rfl⟩⟩, own_below HO3.out hba, fun q e => by simp [Value.ownBlock] at e⟩
        rw [hba.block _ (by have := HB3'.out.size; omega), HB3'.out.block _ (by omega)]
        exact HR2.out)
      rw [← hw4, ← hg]
      clear hg hw4 HR2 HO3 HB3' HI2
      go_loopw [10] (fun i wr => ∃ (j : Nat) (A2 : Option Addr) (c2 : Nat), j ≤ k ∧ i = .int .i64 j ∧ Hid (StNw wf w2.heap.size g (.slice A2 j c2) (.slice A1 nn c1) (List.replicate j (-1)) need wr)) (fun i _ => k - (intOf i).toNat)
      case atStart => exact ⟨0, none, 0, Nat.zero_le _, rfl, H4⟩
      case round =>
        clear H4
        obtain ⟨j, A2, c2, hj, rfl, HB⟩ := hrel
        have x0 := cell_of_row wr g 0 _ _ _ HB.out.b
        have x1 := cell_of_row wr g 1 _ _ _ HB.out.b
        simp at x0 x1
        by_cases hlt : j < k
        · have hsz : w2.heap.size ≤ wr.heap.size := by have := (Array.getElem?_eq_some_iff.1 HB.out.b).1; have := HB.out.hg; omega
          have hon : wr.ownsRow w2.heap.size 3 1 (.slice A2 j c2) j ((List.replicate j (-1 : Int)).map (Value.int .i64)) := by have h := HB.out.on; unfold OwnI at h; rw [List.length_replicate] at h; exact h
          have HON := Lib.hid hon
          clear hon
          go_wp2_with (at_builtin; refine wpList_pushXs rfl _ _ 3 22 1 8 (.int .i64 0) Tryd.underlying22 new_cell_info rfl (by omega) (by omega) rfl rfl wr w2.heap.size j _ ((List.replicate j (-1 : Int)).map (Value.int .i64)) [.int .i64 (-1)] HON.out rfl (by simp [Value.oneCell']) (by omega) hsz (by first | rfl | simp [Act.eval]) (by first | rfl | simp [Act.eval]) ?_; intro F5 d5 w5 ho5 hr5 hat5; (have HO5 := Lib.hid ho5); (have HR5 := Lib.hid hr5); (have HA5 := Lib.hid hat5); (have hb5 := hr5.heap HB.out.b (by decide)); (have q0 := cell_of_row w5 g 0 _ _ _ hb5); (have q1 := frozen_of_row w5 g 0 _ _ hb5); simp at q0; clear ho5 hr5 hat5 hb5)
          go_roundw
          case rel => exact ⟨j + 1, F5, d5, by omega, by go_num, Lib.hid (HB.out.push hsz (by unfold OwnI; rw [List.length_replicate, List.replicate_succ', List.map_append]; exact HO5.out) HR5.out HA5.out)⟩
          case measure => simp [intOf]; omega
        · obtain rfl : k = j := by omega
          have r0 := cell_of_row wr (wf.heap.size + 1) 0 _ _ _ HB.out.r
          have r1 := cell_of_row wr (wf.heap.size + 1) 1 _ _ _ HB.out.r
          have z0 := frozen_of_row wr (wf.heap.size + 1) 0 _ _ HB.out.r
          have z1 := frozen_of_row wr (wf.heap.size + 1) 1 _ _ HB.out.r
          simp at r0 r1
          have HF2 := Lib.hid (row_setC HB.out.r (.slice A2 k c2) (.slice A1 nn c1))
          have HGT : Hid (GotNewC W E need k wf (.returned (.tuple #[.agg #[.slice A2 k c2, .slice A1 nn c1], .int .i64 0])) ((wr.setCell ⟨wf.heap.size + 1, 0, none⟩ (.slice A2 k c2)).setCell ⟨wf.heap.size + 1, 1, none⟩ (.slice A1 nn c1))) := Lib.hid (by
            have hoth := other_setC wr (wf.heap.size + 1) (.slice A2 k c2) (.slice A1 nn c1)
            have o1 := other_ownC HB.out.on HB.out.r (by decide) hoth
            have o2 := other_ownC HB.out.left HB.out.r (by decide) hoth
            refine ⟨A2, k, c2, A1, nn, c1, by rw [HE.out], ?_, HB.out.bel.trans (below_setC (by omega) _ _)⟩
            unfold newO newL
            rw [if_pos HE.out, if_pos HE.out, Int.toNat_natCast]
            have hlo2 := HB.out.lo
            exact ⟨OwnI.down o1 (by omega), OwnI.down o2 (by omega), by simp, HN.out, by omega, hl⟩)
          go_wp2
          refine bodyPost_ret (v := .tuple #[.agg #[.slice A2 k c2, .slice A1 nn c1], .int .i64 0]) ?_ rfl HGT.out
          rw [results_cell_tmp rfl]
          simp [asAddr, run_loadVar_row _ (wf.heap.size + 1) _ _ _ _ _ HF2.out Tryd.underlying27 rfl (by kernel_rfl), Result.andThen]
    · have HE : Hid (newE W E need cores = 100) := Lib.hid (by unfold newE; rw [if_pos he, if_neg hf])
      rw [decide_eq_false hf] at CF
      clear he hf
      go_enter Tryd.func29, Tryd.ntmps29
      go_wp2_with fail
      rw [← HW.out]
      refine (CK.out _ (HG.out.below HB0.out)).mono ?_
      rintro e w1 ⟨rfl, b1⟩
      have HB1 := Lib.hid (HB0.out.trans (b1.mono HB0.out.size))
      have d0 := (b1.cell (p := ⟨wf.heap.size, 0, none⟩) (by show wf.heap.size < _; have := HS0.out; omega)).trans HD0.out.1
      have d1 := (b1.cell (p := ⟨wf.heap.size, 1, none⟩) (by show wf.heap.size < _; have := HS0.out; omega)).trans HD0.out.2
      have HR1 : Hid (w1.heap[wf.heap.size + 1]? = _) := Lib.hid ((b1.block _ (Array.getElem?_eq_some_iff.1 HR0.out).1).trans HR0.out)
      clear b1
      go_wp2_with fail
      refine (CF.out _ HB1.out).mono ?_
      rintro e w2 ⟨rfl, b2⟩
      have HB2 := Lib.hid (HB1.out.trans (b2.mono HB1.out.size))
      have HR2 : Hid (w2.heap[wf.heap.size + 1]? = _) := Lib.hid ((b2.block _ (Array.getElem?_eq_some_iff.1 HR1.out).1).trans HR1.out)
      clear b2 d0 d1
      have r0 := cell_of_row w2 (wf.heap.size + 1) 0 _ _ _ HR2.out
      have r1 := cell_of_row w2 (wf.heap.size + 1) 1 _ _ _ HR2.out
      have z0 := frozen_of_row w2 (wf.heap.size + 1) 0 _ _ HR2.out
      have z1 := frozen_of_row w2 (wf.heap.size + 1) 1 _ _ HR2.out
      simp at r0 r1
      have HE2 := Lib.hid (row_setC HR2.out (.slice none 0 0) (.slice none 0 0))
      go_wp2
      refine bodyPost_ret (v := .tuple #[.agg #[.slice none 0 0, .slice none 0 0], .int .i64 100]) ?_ rfl (newC_bad HE.out (by decide) (HB2.out.trans (below_setC (by have := HB2.out.size; omega) _ _)))
      rw [results_cell_tmp rfl]
      simp [asAddr, run_loadVar_row _ (wf.heap.size + 1) _ _ _ _ _ HE2.out Tryd.underlying27 rfl (by kernel_rfl), Result.andThen]
  · obtain ⟨z, hz⟩ : ∃ z, z = chkE W E := ⟨_, rfl⟩
    have HE : Hid (newE W E need cores = z) := Lib.hid (by unfold newE; rw [if_neg he, hz])
    rw [← hz] at CK he
    have heb : (z != 0) = true := bne_iff_ne.mpr he
    have HZ := Lib.hid he
    clear he hz
    go_enter Tryd.func29, Tryd.ntmps29
    go_wp2_with fail
    rw [← HW.out]
    refine (CK.out _ (HG.out.below HB0.out)).mono ?_
    rintro e w2 ⟨rfl, b1⟩
    have HB2 := Lib.hid (HB0.out.trans (b1.mono HB0.out.size))
    have HR2 : Hid (w2.heap[wf.heap.size + 1]? = _) := Lib.hid ((b1.block _ (Array.getElem?_eq_some_iff.1 HR0.out).1).trans HR0.out)
    have hsz : wf.heap.size + 1 + 1 ≤ w2.heap.size := (Array.getElem?_eq_some_iff.1 HR2.out).1
    clear b1
    have r0 := cell_of_row w2 (wf.heap.size + 1) 0 _ _ _ HR2.out
    have r1 := cell_of_row w2 (wf.heap.size + 1) 1 _ _ _ HR2.out
    have z0 := frozen_of_row w2 (wf.heap.size + 1) 0 _ _ HR2.out
    have z1 := frozen_of_row w2 (wf.heap.size + 1) 1 _ _ HR2.out
    simp at r0 r1
    have HE2 := Lib.hid (row_setC HR2.out (.slice none 0 0) (.slice none 0 0))
    go_wp2
    refine bodyPost_ret (v := .tuple #[.agg #[.slice none 0 0, .slice none 0 0], .int .i64 z]) ?_ rfl (newC_bad HE.out HZ.out (HB2.out.trans (below_setC (by omega) _ _)))
    rw [results_cell_tmp rfl]
    simp [asAddr, run_loadVar_row _ (wf.heap.size + 1) _ _ _ _ _ HE2.out Tryd.underlying27 rfl (by kernel_rfl), Result.andThen]
end
end Go.Proofs.YtmmogdccjiagnaaDoor
set_option linter.unusedVariables false
namespace Go.Proofs.YtmmogdccjiagnaaDoor
open Go.RowKit

/-- Those below k that are ready. -/
def readyW (E : List (Int × Int)) (O L : List Int) (k : Nat) : List Int := nums (readyU k E O L)
theorem readyW_step (E : List (Int × Int)) (O L : List Int) (k : Nat) : readyW E O L (k + 1) = if ReadyC E O L k then readyW E O L k ++ [(k : Int)] else readyW E O L k := by
  unfold readyW readyU
  rw [List.range_succ, List.filter_append]
  by_cases h : ReadyC E O L k
  · rw [if_pos h, ← nums_snoc]
    simp [h]
  · rw [if_neg h]
    simp [h]
theorem readyW_len (E : List (Int × Int)) (O L : List Int) (k : Nat) : (readyW E O L k).length ≤ k := by
  unfold readyW readyU
  rw [nums_length]
  refine Nat.le_trans (List.length_filter_le _ _) ?_
  simp
section
variable {A : Option Addr} {n c : Nat} {F : Option Addr} {m d : Nat} {W : List Int} {E : List (Int × Int)} {A' : Option Addr} {n' c' : Nat} {F' : Option Addr} {m' d' : Nat} {O L : List Int}
set_option maxRecDepth 100000 in
set_option maxHeartbeats 4000000 in
theorem rreadyC_any (w : World) (hg : IsG w A n c F m d W E) (hk : IsC w A' n' c' F' m' d' O L) (hF : Fits W.length E) (hl : L.length = W.length) :
    Calls Tryd.prog 23 #[.agg #[.slice A n c, .slice F m d], .agg #[.slice A' n' c', .slice F' m' d']] w (GotOwn (readyW E O L m') w) := by
  obtain ⟨w0, hw0⟩ : ∃ w0, w0 = (w.alloc (.cells #[.slice A n c, .slice F m d] 25)).alloc (.cells #[.slice A' n' c', .slice F' m' d'] 27) := ⟨_, rfl⟩
  have B0 := BxDC.start hg hk
  rw [← hw0] at B0
  have B00 := Lib.hid B0
  have CO := Lib.hid (fun W' (x : Int) (h1 : IsG W' A n c F m d W E) (h2 : IsC W' A' n' c' F' m' d' O L) => over_any W' x h1 h2 hF hl)
  have CH := Lib.hid (fun W' (x : Int) (h2 : IsC W' A' n' c' F' m' d' O L) => has_any A' c' O x W' n' h2.hn (by have := h2.ln; omega) h2.on)
  have HM := Lib.hid hk.hm
  have hm4 := hk.lm
  have HW := Lib.hid hw0
  clear hg hk hw0 B0
  go_enter Tryd.func23, Tryd.ntmps23
  go_wp2
  have hsz : w0.heap.size = w.heap.size + 1 + 1 := by rw [HW.out]; simp
  rw [← HW.out]
  obtain ⟨w1, hw1⟩ : ∃ w1, w1 = w0.alloc (.cells #[] 3) := ⟨_, rfl⟩
  have B1 := Lib.hid (B00.out.next (by rw [hw1]; exact below_alloc _ : Below w0.heap.size w0 w1))
  have HO1 : Hid (OwnI w1 (w.heap.size + 1 + 1) (.slice (some ⟨w.heap.size + 1 + 1, 0, none⟩) 0 0) []) := Lib.hid (by rw [hw1, ← hsz]; exact OwnI.new w0 w0.heap.size (Nat.le_refl _))
  rw [← hw1]
  clear hw1 hsz B00 HW
  go_loopw [5, 6] (fun v i wr => ∃ (j k : Nat) (A1 : Option Addr) (c1 : Nat), j ≤ m' ∧ k ≤ j ∧ i = .int .i64 j ∧ v = .slice A1 k c1 ∧ Hid (k = (readyW E O L j).length) ∧ Hid (OwnI wr (w.heap.size + 1 + 1) v (readyW E O L j)) ∧ Hid (BxDC w A n c F m d W E A' n' c' F' m' d' O L wr)) (fun _ i _ => m' - (intOf i).toNat)
  case atStart => exact ⟨0, 0, _, _, Nat.zero_le _, Nat.le_refl _, rfl, rfl, Lib.hid rfl, HO1, B1⟩
  case round =>
    obtain ⟨j, k, A1, c1, hj, hkj, rfl, rfl, HK, HO, HB⟩ := hrel
    have q0 := HB.out.c0
    have q1 := HB.out.c1
    have p0 := HB.out.d0
    have p1 := HB.out.d1
    have hsz : w.heap.size + 1 + 1 ≤ wr.heap.size := HB.out.lt
    by_cases hlt : j < m'
    · obtain ⟨b2, off2, y, rfl, hbg2, hy, d2⟩ := HB.out.k.left.at_ (k := j) (by rw [HM.out]; exact hlt)
      have HY : Hid (leftC L (j : Int) = y) := Lib.hid (by rw [leftC_nat, List.getD_eq_getElem?_getD, hy]; rfl)
      have HS := Lib.hid (readyW_step E O L j)
      have C1 := Lib.hid (CH.out wr (j : Int) HB.out.k)
      clear hy hbg2
      by_cases h0 : 0 < y
      · by_cases hm : (j : Int) ∈ O
        · have HN : Hid (readyW E O L (j + 1) = readyW E O L j) := Lib.hid (by rw [HS.out, if_neg fun h => h.2.1 hm])
          rw [decide_eq_true hm] at C1
          clear hm HS
          go_wp2_with fail
          refine C1.out.mono ?_
          rintro e wh ⟨rfl, rfl⟩
          clear C1
          go_wp2
          go_roundw
          case rel => exact ⟨j + 1, k, A1, c1, by omega, by omega, by go_num, rfl, Lib.hid (by rw [HN.out, HK.out]), Lib.hid (by rw [HN.out]; exact HO.out), HB⟩
          case measure => simp [intOf]; omega
        · rw [decide_eq_false hm] at C1
          by_cases ho : OverC E L (j : Int)
          · have HN : Hid (readyW E O L (j + 1) = readyW E O L j ++ [(j : Int)]) := Lib.hid (by rw [HS.out, if_pos ⟨by rw [HY.out]; exact h0, hm, ho⟩])
            have C2 := Lib.hid (CO.out wr (j : Int) HB.out.g HB.out.k)
            rw [decide_eq_true ho] at C2
            clear hm HS ho
            go_wp2_with fail
            refine C1.out.mono ?_
            rintro e wh ⟨rfl, rfl⟩
            clear C1
            go_wp2_with fail
            refine C2.out.mono ?_
            rintro e w2 ⟨rfl, b2⟩
            have HB2 := Lib.hid (HB.out.next b2)
            have HO2 := Lib.hid (HO.out.below b2)
            have hsz2 : w.heap.size + 1 + 1 ≤ w2.heap.size := Nat.le_trans hsz b2.size
            clear b2 C2 HB HO
            go_wp2_with (at_builtin; refine wpList_push rfl _ _ rfl w2 (w.heap.size + 1 + 1) _ (readyW E O L j) (j : Int) k HK.out.symm (by omega) HO2.out hsz2 rfl rfl ?_; intro A2 c2 w3 HO3 HB3; (have HO3' := Lib.hid HO3); (have HB3' := Lib.hid HB3); clear HO3 HB3)
            have HB4 := Lib.hid (HB2.out.later HB3'.out)
            go_roundw
            case rel => exact ⟨j + 1, k + 1, A2, c2, by omega, by omega, by go_num, rfl, Lib.hid (by rw [HN.out, List.length_append, ← HK.out]; rfl), Lib.hid (by rw [HN.out]; exact HO3'.out), HB4⟩
            case measure => simp [intOf]; omega
          · have HN : Hid (readyW E O L (j + 1) = readyW E O L j) := Lib.hid (by rw [HS.out, if_neg fun h => ho h.2.2])
            have C2 := Lib.hid (CO.out wr (j : Int) HB.out.g HB.out.k)
            rw [decide_eq_false ho] at C2
            clear hm HS ho
            go_wp2_with fail
            refine C1.out.mono ?_
            rintro e wh ⟨rfl, rfl⟩
            clear C1
            go_wp2_with fail
            refine C2.out.mono ?_
            rintro e w2 ⟨rfl, b2⟩
            have HB2 := Lib.hid (HB.out.next b2)
            have HO2 := Lib.hid (HO.out.below b2)
            clear b2 C2 HB HO
            go_wp2
            go_roundw
            case rel => exact ⟨j + 1, k, A1, c1, by omega, by omega, by go_num, rfl, Lib.hid (by rw [HN.out, HK.out]), Lib.hid (by rw [HN.out]; exact HO2.out), HB2⟩
            case measure => simp [intOf]; omega
      · have HN : Hid (readyW E O L (j + 1) = readyW E O L j) := Lib.hid (by rw [HS.out, if_neg fun h => h0 (by have := h.1; rw [HY.out] at this; exact this)])
        have h0b : decide (0 < y) = false := decide_eq_false h0
        clear h0 HS C1
        go_wp2
        go_roundw
        case rel => exact ⟨j + 1, k, A1, c1, by omega, by omega, by go_num, rfl, Lib.hid (by rw [HN.out, HK.out]), Lib.hid (by rw [HN.out]; exact HO.out), HB⟩
        case measure => simp [intOf]; omega
    · obtain rfl : m' = j := by omega
      go_wp2
      go_ret
      exact ⟨A1, c1, by rw [← HK.out]; rfl, by rw [← HK.out]; exact HO.out.down (by omega), HB.out.bel⟩
end
end Go.Proofs.YtmmogdccjiagnaaDoor
