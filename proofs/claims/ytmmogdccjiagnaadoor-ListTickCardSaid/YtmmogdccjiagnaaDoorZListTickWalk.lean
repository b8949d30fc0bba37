/- The walk of ListTick in the seat YtmmogdccjiagnaaDoor (printed by list/mk_tickwalk.py). No statement is proved here. -/
import Derived.Test.YtmmogdccjiagnaaDoorZM28
import Derived.BigRegion
set_option linter.unusedSimpArgs false
set_option linter.unusedVariables false
set_option linter.unusedSimpArgs false
namespace Go.Proofs.YtmmogdccjiagnaaDoor
open Go Go.RowKit

def PhiLt (A : Option Addr) (n c : Nat) (F : Option Addr) (m d : Nat) (W : List Int) (E : List (Int × Int)) (A' : Option Addr) (n' c' : Nat) (F' : Option Addr) (m' d' : Nat) (O L O2 L2 D2 : List Int) (ee : Int) (hb0 : Nat) : Nat → Value → World → Prop
  | 0, v, w => v = .agg #[.slice A n c, .slice F m d]
  | 1, v, w => GDl n m W E v w
  | 2, v, w => v = .agg #[.slice A' n' c', .slice F' m' d']
  | 3, v, w => GCl n' m' O L v w
  | 4, v, w => GTl O2 L2 D2 ee v w
  | 5, v, w => GTl O2 L2 D2 ee v w
  | 6, v, w => GotCrew O2 L2 v w
  | 7, v, w => GotL D2 v w
  | 8, v, w => v = .int .i64 ee
  | 9, v, w => GNc hb0 v w
  | 10, v, w => True
  | 11, v, w => GotL D2 v w
  | 12, v, w => v = .int .i64 ee
  | _, _, _ => True
theorem phiLt_below (A : Option Addr) (n c : Nat) (F : Option Addr) (m d : Nat) (W : List Int) (E : List (Int × Int)) (A' : Option Addr) (n' c' : Nat) (F' : Option Addr) (m' d' : Nat) (O L O2 L2 D2 : List Int) (ee : Int) (hb0 : Nat) : ∀ kq v w w', PhiLt A n c F m d W E A' n' c' F' m' d' O L O2 L2 D2 ee hb0 kq v w → Below w.heap.size w w' → PhiLt A n c F m d W E A' n' c' F' m' d' O L O2 L2 D2 ee hb0 kq v w' := by
  intro kq v w w' h hb
  match kq, h with
  | 0, h => exact h
  | 1, h => exact GDl.below h hb
  | 2, h => exact h
  | 3, h => exact GCl.below h hb
  | 4, h => exact GTl.below h hb
  | 5, h => exact GTl.below h hb
  | 6, h => exact GotCrew.below h hb
  | 7, h => exact GotL.below h hb
  | 8, h => exact h
  | 9, h => exact GNc.below h hb
  | 10, h => exact h
  | 11, h => exact GotL.below h hb
  | 12, h => exact h
  | kq + 13, h => exact trivial
section
variable {A : Option Addr} {n c : Nat} {F : Option Addr} {m d : Nat} {W : List Int} {E : List (Int × Int)} {A' : Option Addr} {n' c' : Nat} {F' : Option Addr} {m' d' : Nat} {O L : List Int}
set_option maxRecDepth 100000 in
set_option maxHeartbeats 16000000 in
theorem tick_bad (K : ListOk) (w0 : World) (hG : IsG w0 A n c F m d W E) (hC : IsC w0 A' n' c' F' m' d' O L) (hf : (n ≤ 70 ∧ m ≤ 300) ∧ n' ≤ 12 ∧ m' ≤ 70) (h0 : ¬ crewE W E O L = 0) : Calls Tryd.prog 7 #[.agg #[.slice A n c, .slice F m d], .agg #[.slice A' n' c', .slice F' m' d']] w0 fun e w' => e = .returned (.bool true) ∧ Below w0.heap.size w0 w' := by
  have HK := Lib.hid K
  have HTW := Lib.hid (fun W (h : Below w0.heap.size w0 W) => Tab64.via hG.tab h)
  have B0 := Lib.hid (BxDC.start hG hC)
  have F1 := Lib.hid (fun W => fewC_any (A := A) (n := n) (c := c) (F := F) (m := m) (d := d) (A' := A') (n' := n') (c' := c') (F' := F') (m' := m') (d' := d') W true ⟨fun _ => hf, fun _ => rfl⟩ (by omega) (by omega) (by omega) (by omega))
  obtain ⟨ee, hee⟩ : ∃ z, crewE W E O L = z := ⟨_, rfl⟩
  obtain ⟨O2, hO2⟩ : ∃ z : List Int, z = [] := ⟨_, rfl⟩
  obtain ⟨L2, hL2⟩ : ∃ z : List Int, z = [] := ⟨_, rfl⟩
  obtain ⟨D2, hD2⟩ : ∃ z : List Int, z = [] := ⟨_, rfl⟩
  have HTE : Hid (crewE W E O L = ee ∧ tickO W E O L = O2 ∧ tickL W E O L = L2 ∧ tickD W E O L = D2) := Lib.hid ⟨hee, by unfold tickO; rw [if_neg h0, hO2], by unfold tickL; rw [if_neg h0, hL2], by unfold tickD; rw [if_neg h0, hD2]⟩
  have HD2 := Lib.hid hD2
  rw [hee] at h0
  have hnb : (ee != 0) = true := bne_iff_ne.mpr h0
  have hne0 : (ee == 0) = false := by simpa using h0
  clear hee hO2 hL2 hD2 h0 hG hC hf K
  go_enter Tryd.func7, Tryd.ntmps7
  go_wp2_with fail
  refine (awakeC_any HK.out _ (HTW.out _ B0.out.bel)).mono ?_
  rintro e y1 ⟨rfl, b⟩
  have B1 := Lib.hid (B0.out.next b)
  clear b
  have q0 := B1.out.d0
  have q1 := B1.out.d1
  have q2 := B1.out.c0
  have q3 := B1.out.c1
  go_wp2_with fail
  refine (F1.out _).mono ?_
  rintro e y2 ⟨rfl, b⟩
  have B2 := Lib.hid (B1.out.next b)
  clear b q0 q1 q2 q3 B0 B1 F1
  go_wp2_with fail
  refine wp_region_stored4 10 [21, 22, 23, 24, 25, 20, 26, 27, 28, 5, 1000, 6, 7] [7, 8, 11, 12] [4, 5, 7, 8, 11, 12] y2.heap.size (by kernel_rfl) (by kernel_rfl) (by intro d hd; simp at hd ⊢; omega) (fun x => BxDC w0 A n c F m d W E A' n' c' F' m' d' O L x ∧ Below y2.heap.size y2 x) (PhiLt A n c F m d W E A' n' c' F' m' d' O L O2 L2 D2 ee y2.heap.size) (ThX y2 5 O2 L2)
    (fun x y h hb => ⟨h.1.next hb, h.2.trans (hb.mono h.2.size)⟩) (phiLt_below A n c F m d W E A' n' c' F' m' d' O L O2 L2 D2 ee y2.heap.size) (⟨B2.out.next (Below.refl _ _).drew, (Below.refl _ _).drew⟩) ?hstep ?hside ?hstore ?htheta ?hthetab (Nat.le_refl _) ?hend
  case hstep =>
    intro kq o hkp hkS ho a w hI hA hd K hK
    obtain ⟨ρ, hρ⟩ : ∃ ρ, a.eval = ρ := ⟨_, rfl⟩
    rw [hρ] at hA hd
    match kq, hkp, hkS, ho with
    | 0, _, _, ho =>
      have hoo := Option.some.inj ho
      subst hoo
      exact fx_val hK hρ _ (by have h := hA.tmp 2 (by decide); have h0 := hI.1.d0; have h1 := hI.1.d1; simp [execOp, h, h0, h1, go_sem]) rfl
    | 1, _, _, ho =>
      have hoo := Option.some.inj ho
      subst hoo
      have f0 : (ρ (.tmp 21)) = .agg #[.slice A n c, .slice F m d] := hd ⟨0, .data⟩ (by simp) (by rfl)
      exact fx_call hK hρ 12 _ _ #[.agg #[.slice A n c, .slice F m d]] rfl (by simp only [List.map_toArray, List.map_cons, List.map_nil, hA.const, f0]) (eg_of Tryd.func12 (by kernel_rfl) rfl) ((own_g10 (hI.1.g)).mono fun e w' ⟨A1, c1, F1, d1, he, hd, hb⟩ => ⟨_, he, ⟨A1, c1, F1, d1, rfl, hd⟩, hb⟩)
    | 2, _, _, ho =>
      have hoo := Option.some.inj ho
      subst hoo
      exact fx_val hK hρ _ (by have h := hA.tmp 3 (by decide); have h0 := hI.1.c0; have h1 := hI.1.c1; simp [execOp, h, h0, h1, go_sem]) rfl
    | 3, _, _, ho =>
      have hoo := Option.some.inj ho
      subst hoo
      have f2 : (ρ (.tmp 23)) = .agg #[.slice A' n' c', .slice F' m' d'] := hd ⟨2, .data⟩ (by simp) (by rfl)
      exact fx_call hK hρ 13 _ _ #[.agg #[.slice A' n' c', .slice F' m' d']] rfl (by simp only [List.map_toArray, List.map_cons, List.map_nil, hA.const, f2]) (eg_of Tryd.func13 (by kernel_rfl) rfl) ((ownC_any w (hI.1.k)).mono fun e w' ⟨⟨A1, c1, F1, d1, he, hM⟩, hb⟩ => ⟨_, he, ⟨A1, c1, F1, d1, rfl, hM⟩, hb⟩)
    | 4, _, _, ho =>
      have hoo := Option.some.inj ho
      subst hoo
      have f1 : GDl n m W E (ρ (.tmp 22)) w := hd ⟨1, .data⟩ (by simp) (by rfl)
      have f3 : GCl n' m' O L (ρ (.tmp 24)) w := hd ⟨3, .data⟩ (by simp) (by rfl)
      obtain ⟨A1, c1, F1, d1, f1', hD⟩ := f1
      obtain ⟨A2, c2, F2, d2, f3', hM⟩ := f3
      exact fx_call hK hρ 14 _ _ #[.agg #[.slice A1 n c1, .slice F1 m d1], .agg #[.slice A2 n' c2, .slice F2 m' d2]] rfl (by simp only [List.map_toArray, List.map_cons, List.map_nil, hA.const, f1', f3']) (eg_of Tryd.func14 (by kernel_rfl) rfl) ((HK.out.tick w hD hM).mono fun e w' hg => (by
        obtain ⟨v4, u4, he, hg, hu, hb⟩ := hg
        rw [HTE.out.1] at he
        rw [HTE.out.2.1, HTE.out.2.2.1] at hg
        rw [HTE.out.2.2.2] at hu
        obtain ⟨A4, n4, c4, F4, m4, d4, rfl, h4⟩ := hg
        obtain ⟨A5, c5, rfl, h5⟩ := hu
        exact ⟨_, he, ⟨A4, n4, c4, F4, m4, d4, A5, c5, rfl, h4, h5⟩, hb⟩))
    | 5, _, _, ho =>
      have hoo := Option.some.inj ho
      subst hoo
      have f4 : GTl O2 L2 D2 ee (ρ (.tmp 25)) w := hd ⟨4, .data⟩ (by simp) (by rfl)
      obtain ⟨A4, n4, c4, F4, m4, d4, A5, c5, f4', h4, h5⟩ := f4
      exact fx_val hK hρ _ (by simp [execOp, f4', go_sem]) ⟨A4, n4, c4, F4, m4, d4, A5, c5, rfl, h4, h5⟩
    | 6, _, _, ho =>
      have hoo := Option.some.inj ho
      subst hoo
      have f5 : GTl O2 L2 D2 ee (ρ (.tmp 20)) w := hd ⟨5, .data⟩ (by simp) (by rfl)
      obtain ⟨A4, n4, c4, F4, m4, d4, A5, c5, f5', h4, h5⟩ := f5
      exact fx_val hK hρ (.agg #[.slice A4 n4 c4, .slice F4 m4 d4]) (by simp [execOp, f5', go_sem]) ⟨A4, n4, c4, F4, m4, d4, rfl, h4⟩
    | 7, _, hkS, _ => exact absurd (by decide) hkS
    | 8, _, hkS, _ => exact absurd (by decide) hkS
    | 9, _, _, ho =>
      have hoo := Option.some.inj ho
      subst hoo
      exact fx_make hK hρ (.pointer (some ⟨w.heap.size, 0, none⟩)) (w.alloc (.cells #[.slice none 0 0, .slice none 0 0] 27)) (by simp [execOp, go_sem]) ⟨_, rfl, hI.2.size, heap_alloc_new w _⟩ (below_alloc _)
    | 10, hkp, _, _ => exact absurd rfl hkp
    | 11, _, hkS, _ => exact absurd (by decide) hkS
    | 12, _, hkS, _ => exact absurd (by decide) hkS
    | kq + 13, _, _, ho => simp at ho
  case hside =>
    intro kq o hkS ho ρ w hbw hA hd
    simp only [List.mem_cons, List.not_mem_nil, or_false] at hkS
    rcases hkS with rfl | rfl | rfl | rfl
    · have hoo := Option.some.inj ho
      subst hoo
      obtain ⟨w1, f5a, hw1⟩ := hd ⟨5, .data⟩ (by simp) (by rfl) (by decide)
      rw [hw1 (by decide)] at f5a
      have f5 : GTl O2 L2 D2 ee (ρ (.tmp 20)) w := f5a
      obtain ⟨A4, n4, c4, F4, m4, d4, A5, c5, f5', h4, h5⟩ := f5
      exact ⟨.slice A5 D2.length c5, w, by simp [execOp, f5', go_sem], ⟨A5, c5, rfl, h5⟩, Below.refl _ _⟩
    · have hoo := Option.some.inj ho
      subst hoo
      obtain ⟨w1, f5a, hw1⟩ := hd ⟨5, .data⟩ (by simp) (by rfl) (by decide)
      rw [hw1 (by decide)] at f5a
      have f5 : GTl O2 L2 D2 ee (ρ (.tmp 20)) w := f5a
      obtain ⟨A4, n4, c4, F4, m4, d4, A5, c5, f5', h4, h5⟩ := f5
      exact ⟨.int .i64 ee, w, by simp [execOp, f5', go_sem], rfl, Below.refl _ _⟩
    · have hoo := Option.some.inj ho
      subst hoo
      obtain ⟨w1, f7a, hw1⟩ := hd ⟨7, .data⟩ (by simp) (by rfl) (by decide)
      rw [hw1 (by decide)] at f7a
      have f7 : GotL D2 (ρ (.tmp 27)) w := f7a
      obtain ⟨A5, c5, f7', h5⟩ := f7
      exact ⟨.slice A5 D2.length c5, w, by simp [execOp, f7', go_sem], ⟨A5, c5, rfl, h5⟩, Below.refl _ _⟩
    · have hoo := Option.some.inj ho
      subst hoo
      obtain ⟨w1, f8a, hw1⟩ := hd ⟨8, .data⟩ (by simp) (by rfl) (by decide)
      rw [hw1 (by decide)] at f8a
      have f8 : (ρ (.tmp 28)) = .int .i64 ee := f8a
      exact ⟨.int .i64 ee, w, by simp [execOp, f8, go_sem], rfl, Below.refl _ _⟩
  case hstore =>
    intro o ho a w hI hA hF K hK
    have hoo := Option.some.inj ho
    subst hoo
    exact stX (slot := 5) rfl rfl rfl (hF 9 (by decide) (by decide) (by decide)) (hF 6 (by decide) (by decide) (by decide)) hI.2 (fun w' h1 h2 h3 => hK w' h1 h2 (fun kq hkq v hv => by
      simp only [List.mem_cons, List.not_mem_nil, or_false] at hkq
      rcases hkq with rfl | rfl | rfl | rfl | rfl | rfl
      · exact h3.gtl hv
      · exact h3.gtl hv
      · exact h3.gl hv
      · exact hv
      · exact h3.gl hv
      · exact hv))
  case htheta =>
    intro f g w h hT
    exact ThX.slot hT (h 9 (by decide) (by decide) (by decide))
  case hthetab =>
    intro f w w' hT hb
    exact ThX.below hT hb
  case hend =>
    intro vals1 y3 hT hF
    obtain ⟨gx, Ax, nx, cx, Fx, mx, dx, f5, hb3, _, hx3, hk3⟩ := hT
    obtain ⟨w9, f6, e9⟩ := hF 11 (by decide) (by decide)
    rw [e9 (by decide)] at f6
    obtain ⟨Al, cl, f6, hz⟩ : GotL D2 (vals1 6) y3 := f6
    have f7 : vals1 7 = .int .i64 ee := (hF 12 (by decide) (by decide)).choose_spec.1
    simp only [fillA, fillL, List.contains_cons, List.contains_nil, Nat.reduceBEq, Bool.or_false, Bool.false_or, Bool.or_true, Bool.true_or, cond_true, cond_false, Nat.zero_add, Nat.reduceAdd]
    rw [f5, f6, f7]
    have hd0 : D2.length = 0 := by rw [HD2.out]; rfl
    rw [hd0]
    have B3 := Lib.hid (B2.out.next hb3)
    clear hF hb3 hx3 hk3 f5 f6 f7 e9 hz hd0
    go_wp2
    go_ret
    exact ⟨rfl, B3.out.bel⟩
end
def PhiT12a (s0 gx bx ox m' dx ba oa d' k : Nat) (lz lx : Int) (Al : Option Addr) (dn cl : Nat) : Nat → Value → World → Prop
  | 0, v, w => v = .int .i64 (k : Int)
  | 1, v, w => v = .pointer (some ⟨gx, 1, none⟩)
  | 2, v, w => v = .slice (some ⟨bx, ox, none⟩) m' dx
  | 3, v, w => v = .int .i64 (m' : Int)
  | 4, v, w => v = .bool false
  | 5, v, w => v = .bool false
  | 6, v, w => v = .pointer (some ⟨gx, 1, none⟩)
  | 7, v, w => v = .slice (some ⟨bx, ox, none⟩) m' dx
  | 8, v, w => v = .int .i64 (k : Int)
  | 9, v, w => v = .pointer (some ⟨bx, ox + k, none⟩)
  | 10, v, w => v = .int .i64 lx
  | 11, v, w => v = .pointer (some ⟨(s0 + 1), 1, none⟩)
  | 12, v, w => v = .slice (some ⟨ba, oa, none⟩) m' d'
  | 13, v, w => v = .int .i64 (k : Int)
  | 14, v, w => v = .pointer (some ⟨ba, oa + k, none⟩)
  | 15, v, w => v = .int .i64 lz
  | 16, v, w => v = .int .i64 1
  | 17, v, w => v = .int .i64 lx
  | 18, v, w => v = .bool false
  | 19, v, w => v = .bool false
  | 20, v, w => v = .bool false
  | 21, v, w => v = .slice Al dn cl
  | 22, v, w => v = .int .i64 (k : Int)
  | 23, v, w => v = .bool true
  | 24, v, w => v = .int .i64 1
  | 25, v, w => v = .bool true
  | 26, v, w => v = .bool true
  | 27, v, w => v = .pointer (some ⟨(s0 + 1), 1, none⟩)
  | 28, v, w => v = .slice (some ⟨ba, oa, none⟩) m' d'
  | 29, v, w => v = .int .i64 (k : Int)
  | 30, v, w => v = .pointer (some ⟨ba, oa + k, none⟩)
  | 31, v, w => v = .int .i64 lz
  | 32, v, w => v = .bool true
  | 33, v, w => v = .bool true
  | 34, v, w => v = .bool false
  | 35, v, w => v = .bool false
  | _, _, _ => True
theorem phiT12a_below (s0 gx bx ox m' dx ba oa d' k : Nat) (lz lx : Int) (Al : Option Addr) (dn cl : Nat) : ∀ kq v w w', PhiT12a s0 gx bx ox m' dx ba oa d' k lz lx Al dn cl kq v w → Below w.heap.size w w' → PhiT12a s0 gx bx ox m' dx ba oa d' k lz lx Al dn cl kq v w' := by
  intro kq v w w' h hb
  match kq, h with
  | 0, h => exact h
  | 1, h => exact h
  | 2, h => exact h
  | 3, h => exact h
  | 4, h => exact h
  | 5, h => exact h
  | 6, h => exact h
  | 7, h => exact h
  | 8, h => exact h
  | 9, h => exact h
  | 10, h => exact h
  | 11, h => exact h
  | 12, h => exact h
  | 13, h => exact h
  | 14, h => exact h
  | 15, h => exact h
  | 16, h => exact h
  | 17, h => exact h
  | 18, h => exact h
  | 19, h => exact h
  | 20, h => exact h
  | 21, h => exact h
  | 22, h => exact h
  | 23, h => exact h
  | 24, h => exact h
  | 25, h => exact h
  | 26, h => exact h
  | 27, h => exact h
  | 28, h => exact h
  | 29, h => exact h
  | 30, h => exact h
  | 31, h => exact h
  | 32, h => exact h
  | 33, h => exact h
  | 34, h => exact h
  | 35, h => exact h
  | kq + 36, h => exact trivial
def PhiT12b (s0 gx bx ox m' dx ba oa d' k : Nat) (lz lx : Int) (Al : Option Addr) (dn cl : Nat) : Nat → Value → World → Prop
  | 0, v, w => v = .int .i64 (k : Int)
  | 1, v, w => v = .pointer (some ⟨gx, 1, none⟩)
  | 2, v, w => v = .slice (some ⟨bx, ox, none⟩) m' dx
  | 3, v, w => v = .int .i64 (m' : Int)
  | 4, v, w => v = .bool false
  | 5, v, w => v = .bool false
  | 6, v, w => v = .pointer (some ⟨gx, 1, none⟩)
  | 7, v, w => v = .slice (some ⟨bx, ox, none⟩) m' dx
  | 8, v, w => v = .int .i64 (k : Int)
  | 9, v, w => v = .pointer (some ⟨bx, ox + k, none⟩)
  | 10, v, w => v = .int .i64 lx
  | 11, v, w => v = .pointer (some ⟨(s0 + 1), 1, none⟩)
  | 12, v, w => v = .slice (some ⟨ba, oa, none⟩) m' d'
  | 13, v, w => v = .int .i64 (k : Int)
  | 14, v, w => v = .pointer (some ⟨ba, oa + k, none⟩)
  | 15, v, w => v = .int .i64 lz
  | 16, v, w => v = .int .i64 1
  | 17, v, w => v = .int .i64 lx
  | 18, v, w => v = .bool false
  | 19, v, w => v = .bool false
  | 20, v, w => v = .bool false
  | 21, v, w => v = .slice Al dn cl
  | 22, v, w => v = .int .i64 (k : Int)
  | 23, v, w => v = .bool false
  | 24, v, w => v = .int .i64 1
  | 25, v, w => v = .bool true
  | 26, v, w => v = .bool true
  | 27, v, w => v = .pointer (some ⟨(s0 + 1), 1, none⟩)
  | 28, v, w => v = .slice (some ⟨ba, oa, none⟩) m' d'
  | 29, v, w => v = .int .i64 (k : Int)
  | 30, v, w => v = .pointer (some ⟨ba, oa + k, none⟩)
  | 31, v, w => v = .int .i64 lz
  | 32, v, w => v = .bool false
  | 33, v, w => v = .bool false
  | 34, v, w => v = .bool false
  | 35, v, w => v = .bool false
  | _, _, _ => True
theorem phiT12b_below (s0 gx bx ox m' dx ba oa d' k : Nat) (lz lx : Int) (Al : Option Addr) (dn cl : Nat) : ∀ kq v w w', PhiT12b s0 gx bx ox m' dx ba oa d' k lz lx Al dn cl kq v w → Below w.heap.size w w' → PhiT12b s0 gx bx ox m' dx ba oa d' k lz lx Al dn cl kq v w' := by
  intro kq v w w' h hb
  match kq, h with
  | 0, h => exact h
  | 1, h => exact h
  | 2, h => exact h
  | 3, h => exact h
  | 4, h => exact h
  | 5, h => exact h
  | 6, h => exact h
  | 7, h => exact h
  | 8, h => exact h
  | 9, h => exact h
  | 10, h => exact h
  | 11, h => exact h
  | 12, h => exact h
  | 13, h => exact h
  | 14, h => exact h
  | 15, h => exact h
  | 16, h => exact h
  | 17, h => exact h
  | 18, h => exact h
  | 19, h => exact h
  | 20, h => exact h
  | 21, h => exact h
  | 22, h => exact h
  | 23, h => exact h
  | 24, h => exact h
  | 25, h => exact h
  | 26, h => exact h
  | 27, h => exact h
  | 28, h => exact h
  | 29, h => exact h
  | 30, h => exact h
  | 31, h => exact h
  | 32, h => exact h
  | 33, h => exact h
  | 34, h => exact h
  | 35, h => exact h
  | kq + 36, h => exact trivial
def PhiT12c (s0 gx bx ox m' dx ba oa d' k : Nat) (lz lx : Int) (Al : Option Addr) (dn cl : Nat) : Nat → Value → World → Prop
  | 0, v, w => v = .int .i64 (k : Int)
  | 1, v, w => v = .pointer (some ⟨gx, 1, none⟩)
  | 2, v, w => v = .slice (some ⟨bx, ox, none⟩) m' dx
  | 3, v, w => v = .int .i64 (m' : Int)
  | 4, v, w => v = .bool false
  | 5, v, w => v = .bool false
  | 6, v, w => v = .pointer (some ⟨gx, 1, none⟩)
  | 7, v, w => v = .slice (some ⟨bx, ox, none⟩) m' dx
  | 8, v, w => v = .int .i64 (k : Int)
  | 9, v, w => v = .pointer (some ⟨bx, ox + k, none⟩)
  | 10, v, w => v = .int .i64 lx
  | 11, v, w => v = .pointer (some ⟨(s0 + 1), 1, none⟩)
  | 12, v, w => v = .slice (some ⟨ba, oa, none⟩) m' d'
  | 13, v, w => v = .int .i64 (k : Int)
  | 14, v, w => v = .pointer (some ⟨ba, oa + k, none⟩)
  | 15, v, w => v = .int .i64 lz
  | 16, v, w => v = .int .i64 0
  | 17, v, w => v = .int .i64 lx
  | 18, v, w => v = .bool false
  | 19, v, w => v = .bool false
  | 20, v, w => v = .bool false
  | 21, v, w => v = .slice Al dn cl
  | 22, v, w => v = .int .i64 (k : Int)
  | 23, v, w => v = .bool false
  | 24, v, w => v = .int .i64 0
  | 25, v, w => v = .bool false
  | 26, v, w => v = .bool false
  | 27, v, w => True
  | 28, v, w => True
  | 29, v, w => True
  | 30, v, w => True
  | 31, v, w => True
  | 32, v, w => True
  | 33, v, w => v = .bool false
  | 34, v, w => v = .bool false
  | 35, v, w => v = .bool false
  | _, _, _ => True
theorem phiT12c_below (s0 gx bx ox m' dx ba oa d' k : Nat) (lz lx : Int) (Al : Option Addr) (dn cl : Nat) : ∀ kq v w w', PhiT12c s0 gx bx ox m' dx ba oa d' k lz lx Al dn cl kq v w → Below w.heap.size w w' → PhiT12c s0 gx bx ox m' dx ba oa d' k lz lx Al dn cl kq v w' := by
  intro kq v w w' h hb
  match kq, h with
  | 0, h => exact h
  | 1, h => exact h
  | 2, h => exact h
  | 3, h => exact h
  | 4, h => exact h
  | 5, h => exact h
  | 6, h => exact h
  | 7, h => exact h
  | 8, h => exact h
  | 9, h => exact h
  | 10, h => exact h
  | 11, h => exact h
  | 12, h => exact h
  | 13, h => exact h
  | 14, h => exact h
  | 15, h => exact h
  | 16, h => exact h
  | 17, h => exact h
  | 18, h => exact h
  | 19, h => exact h
  | 20, h => exact h
  | 21, h => exact h
  | 22, h => exact h
  | 23, h => exact h
  | 24, h => exact h
  | 25, h => exact h
  | 26, h => exact h
  | 27, h => exact h
  | 28, h => exact h
  | 29, h => exact h
  | 30, h => exact h
  | 31, h => exact h
  | 32, h => exact h
  | 33, h => exact h
  | 34, h => exact h
  | 35, h => exact h
  | kq + 36, h => exact trivial
def PhiT17a (s0 gx bx ox n' cx ba oa c' k : Nat) (y z : Int) (Al : Option Addr) (dn cl : Nat) : Nat → Value → World → Prop
  | 0, v, w => v = .int .i64 (k : Int)
  | 1, v, w => v = .pointer (some ⟨gx, 0, none⟩)
  | 2, v, w => v = .slice (some ⟨bx, ox, none⟩) n' cx
  | 3, v, w => v = .int .i64 (n' : Int)
  | 4, v, w => v = .bool false
  | 5, v, w => v = .bool false
  | 6, v, w => v = .pointer (some ⟨gx, 0, none⟩)
  | 7, v, w => v = .slice (some ⟨bx, ox, none⟩) n' cx
  | 8, v, w => v = .int .i64 (k : Int)
  | 9, v, w => v = .pointer (some ⟨bx, ox + k, none⟩)
  | 10, v, w => v = .int .i64 z
  | 11, v, w => v = .pointer (some ⟨(s0 + 1), 0, none⟩)
  | 12, v, w => v = .slice (some ⟨ba, oa, none⟩) n' c'
  | 13, v, w => v = .int .i64 (k : Int)
  | 14, v, w => v = .pointer (some ⟨ba, oa + k, none⟩)
  | 15, v, w => v = .int .i64 y
  | 16, v, w => v = .bool false
  | 17, v, w => v = .bool false
  | 18, v, w => v = undef
  | 19, v, w => v = undef
  | 20, v, w => v = undef
  | 21, v, w => v = undef
  | 22, v, w => v = undef
  | 23, v, w => v = undef
  | 24, v, w => v = undef
  | 25, v, w => v = undef
  | 26, v, w => v = undef
  | 27, v, w => v = undef
  | 28, v, w => v = undef
  | 29, v, w => v = undef
  | 30, v, w => v = undef
  | 31, v, w => v = undef
  | 32, v, w => v = undef
  | 33, v, w => v = undef
  | 34, v, w => v = .bool false
  | 35, v, w => v = .bool false
  | 36, v, w => v = .bool false
  | 37, v, w => v = .pointer (some ⟨gx, 0, none⟩)
  | 38, v, w => v = .slice (some ⟨bx, ox, none⟩) n' cx
  | 39, v, w => v = .int .i64 (k : Int)
  | 40, v, w => v = .pointer (some ⟨bx, ox + k, none⟩)
  | 41, v, w => v = .int .i64 z
  | 42, v, w => v = .pointer (some ⟨(s0 + 1), 0, none⟩)
  | 43, v, w => v = .slice (some ⟨ba, oa, none⟩) n' c'
  | 44, v, w => v = .int .i64 (k : Int)
  | 45, v, w => v = .pointer (some ⟨ba, oa + k, none⟩)
  | 46, v, w => v = .int .i64 y
  | 47, v, w => v = .bool true
  | 48, v, w => v = .bool true
  | 49, v, w => v = .pointer (some ⟨(s0 + 1), 0, none⟩)
  | 50, v, w => v = .slice (some ⟨ba, oa, none⟩) n' c'
  | 51, v, w => v = .int .i64 (k : Int)
  | 52, v, w => v = .pointer (some ⟨ba, oa + k, none⟩)
  | 53, v, w => v = .int .i64 y
  | 54, v, w => v = .bool false
  | 55, v, w => v = .bool false
  | 56, v, w => v = .bool false
  | 57, v, w => v = undef
  | 58, v, w => v = undef
  | 59, v, w => v = undef
  | 60, v, w => v = undef
  | 61, v, w => v = undef
  | 62, v, w => v = undef
  | 63, v, w => v = undef
  | 64, v, w => v = .bool false
  | 65, v, w => v = .bool false
  | _, _, _ => True
theorem phiT17a_below (s0 gx bx ox n' cx ba oa c' k : Nat) (y z : Int) (Al : Option Addr) (dn cl : Nat) : ∀ kq v w w', PhiT17a s0 gx bx ox n' cx ba oa c' k y z Al dn cl kq v w → Below w.heap.size w w' → PhiT17a s0 gx bx ox n' cx ba oa c' k y z Al dn cl kq v w' := by
  intro kq v w w' h hb
  match kq, h with
  | 0, h => exact h
  | 1, h => exact h
  | 2, h => exact h
  | 3, h => exact h
  | 4, h => exact h
  | 5, h => exact h
  | 6, h => exact h
  | 7, h => exact h
  | 8, h => exact h
  | 9, h => exact h
  | 10, h => exact h
  | 11, h => exact h
  | 12, h => exact h
  | 13, h => exact h
  | 14, h => exact h
  | 15, h => exact h
  | 16, h => exact h
  | 17, h => exact h
  | 18, h => exact h
  | 19, h => exact h
  | 20, h => exact h
  | 21, h => exact h
  | 22, h => exact h
  | 23, h => exact h
  | 24, h => exact h
  | 25, h => exact h
  | 26, h => exact h
  | 27, h => exact h
  | 28, h => exact h
  | 29, h => exact h
  | 30, h => exact h
  | 31, h => exact h
  | 32, h => exact h
  | 33, h => exact h
  | 34, h => exact h
  | 35, h => exact h
  | 36, h => exact h
  | 37, h => exact h
  | 38, h => exact h
  | 39, h => exact h
  | 40, h => exact h
  | 41, h => exact h
  | 42, h => exact h
  | 43, h => exact h
  | 44, h => exact h
  | 45, h => exact h
  | 46, h => exact h
  | 47, h => exact h
  | 48, h => exact h
  | 49, h => exact h
  | 50, h => exact h
  | 51, h => exact h
  | 52, h => exact h
  | 53, h => exact h
  | 54, h => exact h
  | 55, h => exact h
  | 56, h => exact h
  | 57, h => exact h
  | 58, h => exact h
  | 59, h => exact h
  | 60, h => exact h
  | 61, h => exact h
  | 62, h => exact h
  | 63, h => exact h
  | 64, h => exact h
  | 65, h => exact h
  | kq + 66, h => exact trivial
def PhiT17b (s0 gx bx ox n' cx ba oa c' k : Nat) (y z : Int) (Al : Option Addr) (dn cl : Nat) : Nat → Value → World → Prop
  | 0, v, w => v = .int .i64 (k : Int)
  | 1, v, w => v = .pointer (some ⟨gx, 0, none⟩)
  | 2, v, w => v = .slice (some ⟨bx, ox, none⟩) n' cx
  | 3, v, w => v = .int .i64 (n' : Int)
  | 4, v, w => v = .bool false
  | 5, v, w => v = .bool false
  | 6, v, w => v = .pointer (some ⟨gx, 0, none⟩)
  | 7, v, w => v = .slice (some ⟨bx, ox, none⟩) n' cx
  | 8, v, w => v = .int .i64 (k : Int)
  | 9, v, w => v = .pointer (some ⟨bx, ox + k, none⟩)
  | 10, v, w => v = .int .i64 z
  | 11, v, w => v = .pointer (some ⟨(s0 + 1), 0, none⟩)
  | 12, v, w => v = .slice (some ⟨ba, oa, none⟩) n' c'
  | 13, v, w => v = .int .i64 (k : Int)
  | 14, v, w => v = .pointer (some ⟨ba, oa + k, none⟩)
  | 15, v, w => v = .int .i64 y
  | 16, v, w => v = .bool true
  | 17, v, w => v = .bool true
  | 18, v, w => v = .pointer (some ⟨gx, 0, none⟩)
  | 19, v, w => v = .slice (some ⟨bx, ox, none⟩) n' cx
  | 20, v, w => v = .int .i64 (k : Int)
  | 21, v, w => v = .pointer (some ⟨bx, ox + k, none⟩)
  | 22, v, w => v = .int .i64 z
  | 23, v, w => v = .bool false
  | 24, v, w => v = .bool false
  | 25, v, w => v = .slice Al dn cl
  | 26, v, w => v = .pointer (some ⟨(s0 + 1), 0, none⟩)
  | 27, v, w => v = .slice (some ⟨ba, oa, none⟩) n' c'
  | 28, v, w => v = .int .i64 (k : Int)
  | 29, v, w => v = .pointer (some ⟨ba, oa + k, none⟩)
  | 30, v, w => v = .int .i64 y
  | 31, v, w => v = .bool true
  | 32, v, w => v = .bool false
  | 33, v, w => v = .bool false
  | 34, v, w => v = .bool false
  | 35, v, w => v = .bool false
  | 36, v, w => v = .bool false
  | 37, v, w => v = .pointer (some ⟨gx, 0, none⟩)
  | 38, v, w => v = .slice (some ⟨bx, ox, none⟩) n' cx
  | 39, v, w => v = .int .i64 (k : Int)
  | 40, v, w => v = .pointer (some ⟨bx, ox + k, none⟩)
  | 41, v, w => v = .int .i64 z
  | 42, v, w => v = .pointer (some ⟨(s0 + 1), 0, none⟩)
  | 43, v, w => v = .slice (some ⟨ba, oa, none⟩) n' c'
  | 44, v, w => v = .int .i64 (k : Int)
  | 45, v, w => v = .pointer (some ⟨ba, oa + k, none⟩)
  | 46, v, w => v = .int .i64 y
  | 47, v, w => v = .bool false
  | 48, v, w => v = .bool false
  | 49, v, w => v = undef
  | 50, v, w => v = undef
  | 51, v, w => v = undef
  | 52, v, w => v = undef
  | 53, v, w => v = undef
  | 54, v, w => v = undef
  | 55, v, w => v = .bool false
  | 56, v, w => v = .bool false
  | 57, v, w => v = undef
  | 58, v, w => v = undef
  | 59, v, w => v = undef
  | 60, v, w => v = undef
  | 61, v, w => v = undef
  | 62, v, w => v = undef
  | 63, v, w => v = undef
  | 64, v, w => v = .bool false
  | 65, v, w => v = .bool false
  | _, _, _ => True
theorem phiT17b_below (s0 gx bx ox n' cx ba oa c' k : Nat) (y z : Int) (Al : Option Addr) (dn cl : Nat) : ∀ kq v w w', PhiT17b s0 gx bx ox n' cx ba oa c' k y z Al dn cl kq v w → Below w.heap.size w w' → PhiT17b s0 gx bx ox n' cx ba oa c' k y z Al dn cl kq v w' := by
  intro kq v w w' h hb
  match kq, h with
  | 0, h => exact h
  | 1, h => exact h
  | 2, h => exact h
  | 3, h => exact h
  | 4, h => exact h
  | 5, h => exact h
  | 6, h => exact h
  | 7, h => exact h
  | 8, h => exact h
  | 9, h => exact h
  | 10, h => exact h
  | 11, h => exact h
  | 12, h => exact h
  | 13, h => exact h
  | 14, h => exact h
  | 15, h => exact h
  | 16, h => exact h
  | 17, h => exact h
  | 18, h => exact h
  | 19, h => exact h
  | 20, h => exact h
  | 21, h => exact h
  | 22, h => exact h
  | 23, h => exact h
  | 24, h => exact h
  | 25, h => exact h
  | 26, h => exact h
  | 27, h => exact h
  | 28, h => exact h
  | 29, h => exact h
  | 30, h => exact h
  | 31, h => exact h
  | 32, h => exact h
  | 33, h => exact h
  | 34, h => exact h
  | 35, h => exact h
  | 36, h => exact h
  | 37, h => exact h
  | 38, h => exact h
  | 39, h => exact h
  | 40, h => exact h
  | 41, h => exact h
  | 42, h => exact h
  | 43, h => exact h
  | 44, h => exact h
  | 45, h => exact h
  | 46, h => exact h
  | 47, h => exact h
  | 48, h => exact h
  | 49, h => exact h
  | 50, h => exact h
  | 51, h => exact h
  | 52, h => exact h
  | 53, h => exact h
  | 54, h => exact h
  | 55, h => exact h
  | 56, h => exact h
  | 57, h => exact h
  | 58, h => exact h
  | 59, h => exact h
  | 60, h => exact h
  | 61, h => exact h
  | 62, h => exact h
  | 63, h => exact h
  | 64, h => exact h
  | 65, h => exact h
  | kq + 66, h => exact trivial
def PhiT17c (s0 gx bx ox n' cx ba oa c' k : Nat) (y z : Int) (Al : Option Addr) (dn cl : Nat) : Nat → Value → World → Prop
  | 0, v, w => v = .int .i64 (k : Int)
  | 1, v, w => v = .pointer (some ⟨gx, 0, none⟩)
  | 2, v, w => v = .slice (some ⟨bx, ox, none⟩) n' cx
  | 3, v, w => v = .int .i64 (n' : Int)
  | 4, v, w => v = .bool false
  | 5, v, w => v = .bool false
  | 6, v, w => v = .pointer (some ⟨gx, 0, none⟩)
  | 7, v, w => v = .slice (some ⟨bx, ox, none⟩) n' cx
  | 8, v, w => v = .int .i64 (k : Int)
  | 9, v, w => v = .pointer (some ⟨bx, ox + k, none⟩)
  | 10, v, w => v = .int .i64 z
  | 11, v, w => v = .pointer (some ⟨(s0 + 1), 0, none⟩)
  | 12, v, w => v = .slice (some ⟨ba, oa, none⟩) n' c'
  | 13, v, w => v = .int .i64 (k : Int)
  | 14, v, w => v = .pointer (some ⟨ba, oa + k, none⟩)
  | 15, v, w => v = .int .i64 y
  | 16, v, w => v = .bool false
  | 17, v, w => v = .bool false
  | 18, v, w => v = undef
  | 19, v, w => v = undef
  | 20, v, w => v = undef
  | 21, v, w => v = undef
  | 22, v, w => v = undef
  | 23, v, w => v = undef
  | 24, v, w => v = undef
  | 25, v, w => v = undef
  | 26, v, w => v = undef
  | 27, v, w => v = undef
  | 28, v, w => v = undef
  | 29, v, w => v = undef
  | 30, v, w => v = undef
  | 31, v, w => v = undef
  | 32, v, w => v = undef
  | 33, v, w => v = undef
  | 34, v, w => v = .bool false
  | 35, v, w => v = .bool false
  | 36, v, w => v = .bool false
  | 37, v, w => v = .pointer (some ⟨gx, 0, none⟩)
  | 38, v, w => v = .slice (some ⟨bx, ox, none⟩) n' cx
  | 39, v, w => v = .int .i64 (k : Int)
  | 40, v, w => v = .pointer (some ⟨bx, ox + k, none⟩)
  | 41, v, w => v = .int .i64 z
  | 42, v, w => v = .pointer (some ⟨(s0 + 1), 0, none⟩)
  | 43, v, w => v = .slice (some ⟨ba, oa, none⟩) n' c'
  | 44, v, w => v = .int .i64 (k : Int)
  | 45, v, w => v = .pointer (some ⟨ba, oa + k, none⟩)
  | 46, v, w => v = .int .i64 y
  | 47, v, w => v = .bool true
  | 48, v, w => v = .bool true
  | 49, v, w => v = .pointer (some ⟨(s0 + 1), 0, none⟩)
  | 50, v, w => v = .slice (some ⟨ba, oa, none⟩) n' c'
  | 51, v, w => v = .int .i64 (k : Int)
  | 52, v, w => v = .pointer (some ⟨ba, oa + k, none⟩)
  | 53, v, w => v = .int .i64 y
  | 54, v, w => v = .bool true
  | 55, v, w => v = .bool true
  | 56, v, w => v = .bool true
  | 57, v, w => v = .slice Al dn cl
  | 58, v, w => v = .pointer (some ⟨(s0 + 1), 0, none⟩)
  | 59, v, w => v = .slice (some ⟨ba, oa, none⟩) n' c'
  | 60, v, w => v = .int .i64 (k : Int)
  | 61, v, w => v = .pointer (some ⟨ba, oa + k, none⟩)
  | 62, v, w => v = .int .i64 y
  | 63, v, w => v = .bool false
  | 64, v, w => v = .bool false
  | 65, v, w => v = .bool false
  | _, _, _ => True
theorem phiT17c_below (s0 gx bx ox n' cx ba oa c' k : Nat) (y z : Int) (Al : Option Addr) (dn cl : Nat) : ∀ kq v w w', PhiT17c s0 gx bx ox n' cx ba oa c' k y z Al dn cl kq v w → Below w.heap.size w w' → PhiT17c s0 gx bx ox n' cx ba oa c' k y z Al dn cl kq v w' := by
  intro kq v w w' h hb
  match kq, h with
  | 0, h => exact h
  | 1, h => exact h
  | 2, h => exact h
  | 3, h => exact h
  | 4, h => exact h
  | 5, h => exact h
  | 6, h => exact h
  | 7, h => exact h
  | 8, h => exact h
  | 9, h => exact h
  | 10, h => exact h
  | 11, h => exact h
  | 12, h => exact h
  | 13, h => exact h
  | 14, h => exact h
  | 15, h => exact h
  | 16, h => exact h
  | 17, h => exact h
  | 18, h => exact h
  | 19, h => exact h
  | 20, h => exact h
  | 21, h => exact h
  | 22, h => exact h
  | 23, h => exact h
  | 24, h => exact h
  | 25, h => exact h
  | 26, h => exact h
  | 27, h => exact h
  | 28, h => exact h
  | 29, h => exact h
  | 30, h => exact h
  | 31, h => exact h
  | 32, h => exact h
  | 33, h => exact h
  | 34, h => exact h
  | 35, h => exact h
  | 36, h => exact h
  | 37, h => exact h
  | 38, h => exact h
  | 39, h => exact h
  | 40, h => exact h
  | 41, h => exact h
  | 42, h => exact h
  | 43, h => exact h
  | 44, h => exact h
  | 45, h => exact h
  | 46, h => exact h
  | 47, h => exact h
  | 48, h => exact h
  | 49, h => exact h
  | 50, h => exact h
  | 51, h => exact h
  | 52, h => exact h
  | 53, h => exact h
  | 54, h => exact h
  | 55, h => exact h
  | 56, h => exact h
  | 57, h => exact h
  | 58, h => exact h
  | 59, h => exact h
  | 60, h => exact h
  | 61, h => exact h
  | 62, h => exact h
  | 63, h => exact h
  | 64, h => exact h
  | 65, h => exact h
  | kq + 66, h => exact trivial
def PhiT19 (A : Option Addr) (n c : Nat) (F : Option Addr) (m d : Nat) (W : List Int) (E : List (Int × Int)) (n' m' : Nat) (O2 L2 : List Int) (Ax : Option Addr) (cx : Nat) (Fx : Option Addr) (dx : Nat) : Nat → Value → World → Prop
  | 0, v, w => v = .agg #[.slice A n c, .slice F m d]
  | 1, v, w => GDl n m W E v w
  | 2, v, w => v = .agg #[.slice Ax n' cx, .slice Fx m' dx]
  | 3, v, w => GCl n' m' O2 L2 v w
  | 4, v, w => v = .int .i64 0
  | 5, v, w => v = .bool true
  | 6, v, w => v = .bool true
  | _, _, _ => True
theorem phiT19_below (A : Option Addr) (n c : Nat) (F : Option Addr) (m d : Nat) (W : List Int) (E : List (Int × Int)) (n' m' : Nat) (O2 L2 : List Int) (Ax : Option Addr) (cx : Nat) (Fx : Option Addr) (dx : Nat) : ∀ kq v w w', PhiT19 A n c F m d W E n' m' O2 L2 Ax cx Fx dx kq v w → Below w.heap.size w w' → PhiT19 A n c F m d W E n' m' O2 L2 Ax cx Fx dx kq v w' := by
  intro kq v w w' h hb
  match kq, h with
  | 0, h => exact h
  | 1, h => exact GDl.below h hb
  | 2, h => exact h
  | 3, h => exact GCl.below h hb
  | 4, h => exact h
  | 5, h => exact h
  | 6, h => exact h
  | kq + 7, h => exact trivial
section
variable {A : Option Addr} {n c : Nat} {F : Option Addr} {m d : Nat} {W : List Int} {E : List (Int × Int)} {A' : Option Addr} {n' c' : Nat} {F' : Option Addr} {m' d' : Nat} {O L : List Int}
set_option maxRecDepth 100000 in
set_option maxHeartbeats 16000000 in
theorem tick_good (K : ListOk) (w0 : World) (hG : IsG w0 A n c F m d W E) (hC : IsC w0 A' n' c' F' m' d' O L) (hf : (n ≤ 70 ∧ m ≤ 300) ∧ n' ≤ 12 ∧ m' ≤ 70) (h0 : crewE W E O L = 0) : Calls Tryd.prog 7 #[.agg #[.slice A n c, .slice F m d], .agg #[.slice A' n' c', .slice F' m' d']] w0 fun e w' => e = .returned (.bool true) ∧ Below w0.heap.size w0 w' := by
  have HK := Lib.hid K
  have HTW := Lib.hid (fun W (h : Below w0.heap.size w0 W) => Tab64.via hG.tab h)
  have B0 := Lib.hid (BxDC.start hG hC)
  have F1 := Lib.hid (fun W => fewC_any (A := A) (n := n) (c := c) (F := F) (m := m) (d := d) (A' := A') (n' := n') (c' := c') (F' := F') (m' := m') (d' := d') W true ⟨fun _ => hf, fun _ => rfl⟩ (by omega) (by omega) (by omega) (by omega))
  obtain ⟨hM, hOK⟩ := crewE_zero.mp h0
  obtain ⟨O2, hO2⟩ : ∃ z, onT O L = z := ⟨_, rfl⟩
  obtain ⟨L2, hL2⟩ : ∃ z, leftT O L = z := ⟨_, rfl⟩
  obtain ⟨D2, hD2⟩ : ∃ z, nums (doneT O L) = z := ⟨_, rfl⟩
  have HTE : Hid (crewE W E O L = 0 ∧ tickO W E O L = O2 ∧ tickL W E O L = L2 ∧ tickD W E O L = D2) := Lib.hid ⟨h0, by unfold tickO; rw [if_pos h0]; exact hO2, by unfold tickL; rw [if_pos h0]; exact hL2, by unfold tickD; rw [if_pos h0]; exact hD2⟩
  have HFE2 : Hid (crewE W E O2 L2 = 0) := Lib.hid (crewE_zero.mpr ⟨hM, by rw [← hO2, ← hL2]; exact hOK.tick hM.fits⟩)
  have HCR := Lib.hid hOK
  have HTN : Hid (∀ (k : Nat) (z : Int), L[k]? = some z → L2[k]? = some (z - if (k : Int) ∈ O then 1 else 0) ∧ ((k : Int) ∈ D2 ↔ (k : Int) ∈ O ∧ z = 1)) := Lib.hid (fun k z h => by rw [← hL2, ← hD2]; exact tick_node h)
  have HTC : Hid (∀ (i : Nat) (y : Int), O[i]? = some y → O2[i]? = some (if y ≠ -1 ∧ leftC L y = 1 then -1 else y) ∧ (y ∈ D2 ↔ y ≠ -1 ∧ leftC L y = 1) ∧ (y = -1 ∨ 0 ≤ y)) := Lib.hid (fun i y h => by rw [← hO2, ← hD2]; exact tick_core hOK h)
  have HLZ : Hid (∀ z ∈ L, 0 ≤ z ∧ z ≤ 1000) := Lib.hid hOK.left
  obtain ⟨dn, hdn⟩ : ∃ k, D2.length = k := ⟨_, rfl⟩
  have hd400 : dn ≤ 400 := by
    rw [← hdn, ← hD2, nums_length]
    have := List.length_filter_le (fun x : Nat => decide ((x : Int) ∈ O ∧ leftC L (x : Int) = 1)) (List.range L.length)
    rw [List.length_range] at this
    unfold doneT
    have := hC.hm
    have := hC.lm
    omega
  have HDN : Hid (D2.length = dn ∧ dn ≤ 400) := Lib.hid ⟨hdn, hd400⟩
  have HOL : Hid (O.length = n' ∧ L.length = m' ∧ O2.length = n' ∧ L2.length = m') := Lib.hid ⟨hC.hn, hC.hm, by rw [← hO2, onT_len, hC.hn], by rw [← hL2, leftT_len, hC.hm]⟩
  have hlim : n' ≤ 12 := hf.2.1
  have hlim2 : m' ≤ 70 := hf.2.2
  clear hO2 hL2 hD2 hdn h0 hM hOK hG hC hf K
  go_enter Tryd.func7, Tryd.ntmps7
  go_wp2_with fail
  refine (awakeC_any HK.out _ (HTW.out _ B0.out.bel)).mono ?_
  rintro e y1 ⟨rfl, b⟩
  have B1 := Lib.hid (B0.out.next b)
  clear b
  have q0 := B1.out.d0
  have q1 := B1.out.d1
  have q2 := B1.out.c0
  have q3 := B1.out.c1
  go_wp2_with fail
  refine (F1.out _).mono ?_
  rintro e y2 ⟨rfl, b⟩
  have B2 := Lib.hid (B1.out.next b)
  clear b q0 q1 q2 q3 B0 B1 F1
  go_wp2_with fail
  refine wp_region_stored4 10 [21, 22, 23, 24, 25, 20, 26, 27, 28, 5, 1000, 6, 7] [7, 8, 11, 12] [4, 5, 7, 8, 11, 12] y2.heap.size (by kernel_rfl) (by kernel_rfl) (by intro d hd; simp at hd ⊢; omega) (fun x => BxDC w0 A n c F m d W E A' n' c' F' m' d' O L x ∧ Below y2.heap.size y2 x) (PhiLt A n c F m d W E A' n' c' F' m' d' O L O2 L2 D2 0 y2.heap.size) (ThX y2 5 O2 L2)
    (fun x y h hb => ⟨h.1.next hb, h.2.trans (hb.mono h.2.size)⟩) (phiLt_below A n c F m d W E A' n' c' F' m' d' O L O2 L2 D2 0 y2.heap.size) (⟨B2.out.next (Below.refl _ _).drew, (Below.refl _ _).drew⟩) ?hstep ?hside ?hstore ?htheta ?hthetab (Nat.le_refl _) ?hend
  case hstep =>
    intro kq o hkp hkS ho a w hI hA hd K hK
    obtain ⟨ρ, hρ⟩ : ∃ ρ, a.eval = ρ := ⟨_, rfl⟩
    rw [hρ] at hA hd
    match kq, hkp, hkS, ho with
    | 0, _, _, ho =>
      have hoo := Option.some.inj ho
      subst hoo
      exact fx_val hK hρ _ (by have h := hA.tmp 2 (by decide); have h0 := hI.1.d0; have h1 := hI.1.d1; simp [execOp, h, h0, h1, go_sem]) rfl
    | 1, _, _, ho =>
      have hoo := Option.some.inj ho
      subst hoo
      have f0 : (ρ (.tmp 21)) = .agg #[.slice A n c, .slice F m d] := hd ⟨0, .data⟩ (by simp) (by rfl)
      exact fx_call hK hρ 12 _ _ #[.agg #[.slice A n c, .slice F m d]] rfl (by simp only [List.map_toArray, List.map_cons, List.map_nil, hA.const, f0]) (eg_of Tryd.func12 (by kernel_rfl) rfl) ((own_g10 (hI.1.g)).mono fun e w' ⟨A1, c1, F1, d1, he, hd, hb⟩ => ⟨_, he, ⟨A1, c1, F1, d1, rfl, hd⟩, hb⟩)
    | 2, _, _, ho =>
      have hoo := Option.some.inj ho
      subst hoo
      exact fx_val hK hρ _ (by have h := hA.tmp 3 (by decide); have h0 := hI.1.c0; have h1 := hI.1.c1; simp [execOp, h, h0, h1, go_sem]) rfl
    | 3, _, _, ho =>
      have hoo := Option.some.inj ho
      subst hoo
      have f2 : (ρ (.tmp 23)) = .agg #[.slice A' n' c', .slice F' m' d'] := hd ⟨2, .data⟩ (by simp) (by rfl)
      exact fx_call hK hρ 13 _ _ #[.agg #[.slice A' n' c', .slice F' m' d']] rfl (by simp only [List.map_toArray, List.map_cons, List.map_nil, hA.const, f2]) (eg_of Tryd.func13 (by kernel_rfl) rfl) ((ownC_any w (hI.1.k)).mono fun e w' ⟨⟨A1, c1, F1, d1, he, hM⟩, hb⟩ => ⟨_, he, ⟨A1, c1, F1, d1, rfl, hM⟩, hb⟩)
    | 4, _, _, ho =>
      have hoo := Option.some.inj ho
      subst hoo
      have f1 : GDl n m W E (ρ (.tmp 22)) w := hd ⟨1, .data⟩ (by simp) (by rfl)
      have f3 : GCl n' m' O L (ρ (.tmp 24)) w := hd ⟨3, .data⟩ (by simp) (by rfl)
      obtain ⟨A1, c1, F1, d1, f1', hD⟩ := f1
      obtain ⟨A2, c2, F2, d2, f3', hM⟩ := f3
      exact fx_call hK hρ 14 _ _ #[.agg #[.slice A1 n c1, .slice F1 m d1], .agg #[.slice A2 n' c2, .slice F2 m' d2]] rfl (by simp only [List.map_toArray, List.map_cons, List.map_nil, hA.const, f1', f3']) (eg_of Tryd.func14 (by kernel_rfl) rfl) ((HK.out.tick w hD hM).mono fun e w' hg => (by
        obtain ⟨v4, u4, he, hg, hu, hb⟩ := hg
        rw [HTE.out.1] at he
        rw [HTE.out.2.1, HTE.out.2.2.1] at hg
        rw [HTE.out.2.2.2] at hu
        obtain ⟨A4, n4, c4, F4, m4, d4, rfl, h4⟩ := hg
        obtain ⟨A5, c5, rfl, h5⟩ := hu
        exact ⟨_, he, ⟨A4, n4, c4, F4, m4, d4, A5, c5, rfl, h4, h5⟩, hb⟩))
    | 5, _, _, ho =>
      have hoo := Option.some.inj ho
      subst hoo
      have f4 : GTl O2 L2 D2 0 (ρ (.tmp 25)) w := hd ⟨4, .data⟩ (by simp) (by rfl)
      obtain ⟨A4, n4, c4, F4, m4, d4, A5, c5, f4', h4, h5⟩ := f4
      exact fx_val hK hρ _ (by simp [execOp, f4', go_sem]) ⟨A4, n4, c4, F4, m4, d4, A5, c5, rfl, h4, h5⟩
    | 6, _, _, ho =>
      have hoo := Option.some.inj ho
      subst hoo
      have f5 : GTl O2 L2 D2 0 (ρ (.tmp 20)) w := hd ⟨5, .data⟩ (by simp) (by rfl)
      obtain ⟨A4, n4, c4, F4, m4, d4, A5, c5, f5', h4, h5⟩ := f5
      exact fx_val hK hρ (.agg #[.slice A4 n4 c4, .slice F4 m4 d4]) (by simp [execOp, f5', go_sem]) ⟨A4, n4, c4, F4, m4, d4, rfl, h4⟩
    | 7, _, hkS, _ => exact absurd (by decide) hkS
    | 8, _, hkS, _ => exact absurd (by decide) hkS
    | 9, _, _, ho =>
      have hoo := Option.some.inj ho
      subst hoo
      exact fx_make hK hρ (.pointer (some ⟨w.heap.size, 0, none⟩)) (w.alloc (.cells #[.slice none 0 0, .slice none 0 0] 27)) (by simp [execOp, go_sem]) ⟨_, rfl, hI.2.size, heap_alloc_new w _⟩ (below_alloc _)
    | 10, hkp, _, _ => exact absurd rfl hkp
    | 11, _, hkS, _ => exact absurd (by decide) hkS
    | 12, _, hkS, _ => exact absurd (by decide) hkS
    | kq + 13, _, _, ho => simp at ho
  case hside =>
    intro kq o hkS ho ρ w hbw hA hd
    simp only [List.mem_cons, List.not_mem_nil, or_false] at hkS
    rcases hkS with rfl | rfl | rfl | rfl
    · have hoo := Option.some.inj ho
      subst hoo
      obtain ⟨w1, f5a, hw1⟩ := hd ⟨5, .data⟩ (by simp) (by rfl) (by decide)
      rw [hw1 (by decide)] at f5a
      have f5 : GTl O2 L2 D2 0 (ρ (.tmp 20)) w := f5a
      obtain ⟨A4, n4, c4, F4, m4, d4, A5, c5, f5', h4, h5⟩ := f5
      exact ⟨.slice A5 D2.length c5, w, by simp [execOp, f5', go_sem], ⟨A5, c5, rfl, h5⟩, Below.refl _ _⟩
    · have hoo := Option.some.inj ho
      subst hoo
      obtain ⟨w1, f5a, hw1⟩ := hd ⟨5, .data⟩ (by simp) (by rfl) (by decide)
      rw [hw1 (by decide)] at f5a
      have f5 : GTl O2 L2 D2 0 (ρ (.tmp 20)) w := f5a
      obtain ⟨A4, n4, c4, F4, m4, d4, A5, c5, f5', h4, h5⟩ := f5
      exact ⟨.int .i64 0, w, by simp [execOp, f5', go_sem], rfl, Below.refl _ _⟩
    · have hoo := Option.some.inj ho
      subst hoo
      obtain ⟨w1, f7a, hw1⟩ := hd ⟨7, .data⟩ (by simp) (by rfl) (by decide)
      rw [hw1 (by decide)] at f7a
      have f7 : GotL D2 (ρ (.tmp 27)) w := f7a
      obtain ⟨A5, c5, f7', h5⟩ := f7
      exact ⟨.slice A5 D2.length c5, w, by simp [execOp, f7', go_sem], ⟨A5, c5, rfl, h5⟩, Below.refl _ _⟩
    · have hoo := Option.some.inj ho
      subst hoo
      obtain ⟨w1, f8a, hw1⟩ := hd ⟨8, .data⟩ (by simp) (by rfl) (by decide)
      rw [hw1 (by decide)] at f8a
      have f8 : (ρ (.tmp 28)) = .int .i64 0 := f8a
      exact ⟨.int .i64 0, w, by simp [execOp, f8, go_sem], rfl, Below.refl _ _⟩
  case hstore =>
    intro o ho a w hI hA hF K hK
    have hoo := Option.some.inj ho
    subst hoo
    exact stX (slot := 5) rfl rfl rfl (hF 9 (by decide) (by decide) (by decide)) (hF 6 (by decide) (by decide) (by decide)) hI.2 (fun w' h1 h2 h3 => hK w' h1 h2 (fun kq hkq v hv => by
      simp only [List.mem_cons, List.not_mem_nil, or_false] at hkq
      rcases hkq with rfl | rfl | rfl | rfl | rfl | rfl
      · exact h3.gtl hv
      · exact h3.gtl hv
      · exact h3.gl hv
      · exact hv
      · exact h3.gl hv
      · exact hv))
  case htheta =>
    intro f g w h hT
    exact ThX.slot hT (h 9 (by decide) (by decide) (by decide))
  case hthetab =>
    intro f w w' hT hb
    exact ThX.below hT hb
  case hend =>
    intro vals1 y3 hT hF
    obtain ⟨gx, Ax, nx, cx, Fx, mx, dx, f5, hb3, _, hx3, hk3⟩ := hT
    obtain ⟨w9, f6, e9⟩ := hF 11 (by decide) (by decide)
    rw [e9 (by decide)] at f6
    obtain ⟨Al, cl, f6, hz⟩ : GotL D2 (vals1 6) y3 := f6
    have f7 : vals1 7 = .int .i64 0 := (hF 12 (by decide) (by decide)).choose_spec.1
    simp only [fillA, fillL, List.contains_cons, List.contains_nil, Nat.reduceBEq, Bool.or_false, Bool.false_or, Bool.or_true, Bool.true_or, cond_true, cond_false, Nat.zero_add, Nat.reduceAdd]
    rw [f5, f6, f7]
    rw [HDN.out.1]
    obtain rfl : n' = nx := by rw [← hk3.hn, HOL.out.2.2.1]
    obtain rfl : m' = mx := by rw [← hk3.hm, HOL.out.2.2.2]
    have B3 : Hid (BxFx w0 A n c F m d W E A' n' c' F' m' d' O L gx Ax cx Fx dx O2 L2 y3 ∧ Ints y3 y3.heap.size Al D2) := Lib.hid ⟨⟨B2.out.next hb3, hx3, hk3⟩, hz⟩
    clear hF hb3 hx3 hk3 f5 f6 f7 e9 hz B2
    go_wp2
    go_loopw [8] (fun v wr => ∃ k : Nat, k ≤ m' ∧ v = .int .i64 k ∧ Hid (BxFx w0 A n c F m d W E A' n' c' F' m' d' O L gx Ax cx Fx dx O2 L2 wr ∧ Ints wr wr.heap.size Al D2)) (fun v _ => m' - (intOf v).toNat)
    case atStart => exact ⟨0, Nat.zero_le _, rfl, B3⟩
    case round =>
      obtain ⟨k, hk, rfl, BL0⟩ := hrel
      have q3 := BL0.out.1.b.c1
      have q2 := BL0.out.1.b.c0
      by_cases hlt : k < m'
      · obtain ⟨lz, hz⟩ : ∃ z, L[k]? = some z := ⟨_, List.getElem?_eq_getElem (by rw [HOL.out.2.1]; exact hlt)⟩
        have HZ1 := Lib.hid hz
        have hlb := HLZ.out lz (List.mem_of_getElem? hz)
        obtain ⟨h2, h3⟩ := HTN.out k lz hz
        clear hz
        by_cases hmem : (k : Int) ∈ O
        · rw [if_pos hmem] at h2
          have h3' : (k : Int) ∈ D2 ↔ lz = 1 := ⟨fun q => (h3.mp q).2, fun q => h3.mpr ⟨hmem, q⟩⟩
          obtain ⟨lx, hlx⟩ : ∃ z, lz - 1 = z := ⟨_, rfl⟩
          rw [hlx] at h2
          have HZ2 := Lib.hid h2
          have HWR : Hid (IntKind.i64.wrap (lz - 1) = lx) := Lib.hid (by rw [← hlx]; exact IntWalk.i64_in _ (by omega))
          have HM := Lib.hid hmem
          clear h2 h3 hlx hmem
          go_wp2_with fail
          refine (has_is (b := true) _ BL0.out.1.b.k.on HOL.out.1 (by omega) ⟨fun _ => rfl, fun _ => HM.out⟩).mono ?_
          rintro e wh ⟨rfl, bh⟩
          have BL1 : Hid (BxFx w0 A n c F m d W E A' n' c' F' m' d' O L gx Ax cx Fx dx O2 L2 wh ∧ Ints wh wh.heap.size Al D2) := Lib.hid ⟨BL0.out.1.next bh, (BL0.out.2.below bh).more bh.size⟩
          clear bh BL0 q2 q3
          obtain ⟨ba, oa, rfl⟩ := ints_some (k := k) BL1.out.1.b.k.left (by rw [HOL.out.2.1]; exact hlt)
          obtain ⟨bx, ox, rfl⟩ := ints_some (k := k) BL1.out.1.k2.left (by rw [HOL.out.2.2.2]; exact hlt)
          have BL := BL1
          clear BL1
          by_cases h1 : lz = 1
          · have HHB : Hid ((k : Int) ∈ D2) := Lib.hid (h3'.mpr h1)
            have HL1 : Hid (lz = 1) := Lib.hid h1
            clear h1 h3'
            go_wp2_with fail
            refine wp_region_facts' [45, 46, 47, 48, 49, 50, 51, 52, 53, 54, 55, 56, 57, 58, 59, 60, 61, 62, 63, 64, 65, 66, 67, 68, 69, 70, 71, 72, 73, 74, 75, 76, 77, 78, 79, 80] [] [(5, false), (20, false), (26, true)] (by kernel_rfl) (by kernel_rfl) (by kernel_rfl) (by intro d hd; simp at hd ⊢; omega) (fun x => BxFx w0 A n c F m d W E A' n' c' (some ⟨ba, oa, none⟩) m' d' O L gx Ax cx (some ⟨bx, ox, none⟩) dx O2 L2 x ∧ Ints x x.heap.size Al D2) (PhiT12a w0.heap.size gx bx ox m' dx ba oa d' k lz lx Al dn cl)
              (fun x y h hb => ⟨h.1.next hb, (h.2.below hb).more hb.size⟩) (phiT12a_below w0.heap.size gx bx ox m' dx ba oa d' k lz lx Al dn cl) (⟨BL.out.1.next (Below.refl _ _).drew, (BL.out.2.below (Below.refl _ _).drew).more (Below.refl 0 _).drew.size⟩) (fun p hp v w hv => by
                simp only [List.mem_cons, List.not_mem_nil, or_false] at hp
                rcases hp with rfl | rfl | rfl <;> exact hv) (fun kq hkq => by simp at hkq) ?hstepa ?henda
            case hstepa =>
              intro kq o ho hw a w hI hA hd K hK
              obtain ⟨ρ, hρ⟩ : ∃ ρ, a.eval = ρ := ⟨_, rfl⟩
              rw [hρ] at hA hd
              match kq, ho with
              | 0, ho =>
                have hoo := Option.some.inj ho
                subst hoo
                exact fx_val hK hρ (.int .i64 (k : Int)) (by have h := hA.tmp 8 (by decide); simp [execOp, h, go_sem]) rfl
              | 1, ho =>
                have hoo := Option.some.inj ho
                subst hoo
                exact fx_val hK hρ (.pointer (some ⟨gx, 1, none⟩)) (by have h := hA.tmp 5 (by decide); simp [execOp, h, go_sem]) rfl
              | 2, ho =>
                have hoo := Option.some.inj ho
                subst hoo
                have f1 : (ρ (.tmp 46)) = .pointer (some ⟨gx, 1, none⟩) := hd ⟨1, .data⟩ (by simp) (by rfl)
                exact fx_val hK hρ _ (by have h0 := hI.1.x1; simp [execOp, f1, h0, go_sem]) rfl
              | 3, ho =>
                have hoo := Option.some.inj ho
                subst hoo
                have f2 : (ρ (.tmp 47)) = .slice (some ⟨bx, ox, none⟩) m' dx := hd ⟨2, .data⟩ (by simp) (by rfl)
                exact fx_val hK hρ (.int .i64 (m' : Int)) (by simp [execOp, f2, hA.const, go_sem]) rfl
              | 4, ho =>
                have hoo := Option.some.inj ho
                subst hoo
                have f0 : (ρ (.tmp 45)) = .int .i64 (k : Int) := hd ⟨0, .data⟩ (by simp) (by rfl)
                have f3 : (ρ (.tmp 48)) = .int .i64 (m' : Int) := hd ⟨3, .data⟩ (by simp) (by rfl)
                exact fx_val hK hρ (.bool false) (by simp [execOp, f0, f3, hlt, go_sem]) rfl
              | 5, ho =>
                have hoo := Option.some.inj ho
                subst hoo
                have f4 : (ρ (.tmp 49)) = .bool false := hd ⟨4, .data⟩ (by simp) (by rfl)
                exact fx_val hK hρ (.bool false) (by simp [execOp, f4, hA.const, go_sem]) rfl
              | 6, ho =>
                have hoo := Option.some.inj ho
                subst hoo
                exact fx_val hK hρ (.pointer (some ⟨gx, 1, none⟩)) (by have h := hA.tmp 5 (by decide); simp [execOp, h, go_sem]) rfl
              | 7, ho =>
                have hoo := Option.some.inj ho
                subst hoo
                have f6 : (ρ (.tmp 51)) = .pointer (some ⟨gx, 1, none⟩) := hd ⟨6, .data⟩ (by simp) (by rfl)
                exact fx_val hK hρ _ (by have h0 := hI.1.x1; simp [execOp, f6, h0, go_sem]) rfl
              | 8, ho =>
                have hoo := Option.some.inj ho
                subst hoo
                exact fx_val hK hρ (.int .i64 (k : Int)) (by have h := hA.tmp 8 (by decide); simp [execOp, h, go_sem]) rfl
              | 9, ho =>
                have hoo := Option.some.inj ho
                subst hoo
                have f7 : (ρ (.tmp 52)) = .slice (some ⟨bx, ox, none⟩) m' dx := hd ⟨7, .data⟩ (by simp) (by rfl)
                have f8 : (ρ (.tmp 53)) = .int .i64 (k : Int) := hd ⟨8, .data⟩ (by simp) (by rfl)
                exact fx_val hK hρ (.pointer (some ⟨bx, ox + k, none⟩)) (by simp [execOp, f7, f8, hlt, go_sem]) rfl
              | 10, ho =>
                have hoo := Option.some.inj ho
                subst hoo
                have f9 : (ρ (.tmp 54)) = .pointer (some ⟨bx, ox + k, none⟩) := hd ⟨9, .data⟩ (by simp) (by rfl)
                exact fx_val hK hρ (.int .i64 lx) (by have h0 := ints_cell hI.1.k2.left HZ2.out; simp [execOp, f9, h0, go_sem]) rfl
              | 11, ho =>
                have hoo := Option.some.inj ho
                subst hoo
                exact fx_val hK hρ (.pointer (some ⟨(w0.heap.size + 1), 1, none⟩)) (by have h := hA.tmp 3 (by decide); simp [execOp, h, go_sem]) rfl
              | 12, ho =>
                have hoo := Option.some.inj ho
                subst hoo
                have f11 : (ρ (.tmp 56)) = .pointer (some ⟨(w0.heap.size + 1), 1, none⟩) := hd ⟨11, .data⟩ (by simp) (by rfl)
                exact fx_val hK hρ _ (by have h0 := hI.1.b.c1; simp [execOp, f11, h0, go_sem]) rfl
              | 13, ho =>
                have hoo := Option.some.inj ho
                subst hoo
                exact fx_val hK hρ (.int .i64 (k : Int)) (by have h := hA.tmp 8 (by decide); simp [execOp, h, go_sem]) rfl
              | 14, ho =>
                have hoo := Option.some.inj ho
                subst hoo
                have f12 : (ρ (.tmp 57)) = .slice (some ⟨ba, oa, none⟩) m' d' := hd ⟨12, .data⟩ (by simp) (by rfl)
                have f13 : (ρ (.tmp 58)) = .int .i64 (k : Int) := hd ⟨13, .data⟩ (by simp) (by rfl)
                exact fx_val hK hρ (.pointer (some ⟨ba, oa + k, none⟩)) (by simp [execOp, f12, f13, hlt, go_sem]) rfl
              | 15, ho =>
                have hoo := Option.some.inj ho
                subst hoo
                have f14 : (ρ (.tmp 59)) = .pointer (some ⟨ba, oa + k, none⟩) := hd ⟨14, .data⟩ (by simp) (by rfl)
                exact fx_val hK hρ (.int .i64 lz) (by have h0 := ints_cell hI.1.b.k.left HZ1.out; simp [execOp, f14, h0, go_sem]) rfl
              | 16, ho =>
                have hoo := Option.some.inj ho
                subst hoo
                exact fx_val hK hρ (.int .i64 1) (by have h := hA.tmp 9 (by decide); simp [execOp, h, go_sem]) rfl
              | 17, ho =>
                have hoo := Option.some.inj ho
                subst hoo
                have f15 : (ρ (.tmp 60)) = .int .i64 lz := hd ⟨15, .data⟩ (by simp) (by rfl)
                have f16 : (ρ (.tmp 61)) = .int .i64 1 := hd ⟨16, .data⟩ (by simp) (by rfl)
                have hw := HWR.out
                exact fx_val hK hρ (.int .i64 lx) (by simp [execOp, f15, f16, hw, go_sem]) rfl
              | 18, ho =>
                have hoo := Option.some.inj ho
                subst hoo
                have f10 : (ρ (.tmp 55)) = .int .i64 lx := hd ⟨10, .data⟩ (by simp) (by rfl)
                have f17 : (ρ (.tmp 62)) = .int .i64 lx := hd ⟨17, .data⟩ (by simp) (by rfl)
                exact fx_val hK hρ (.bool false) (by simp [execOp, f10, f17, hA.const, go_sem]) rfl
              | 19, ho =>
                have hoo := Option.some.inj ho
                subst hoo
                have f5 : (ρ (.tmp 50)) = .bool false := hd ⟨5, .data⟩ (by simp) (by rfl)
                have f18 : (ρ (.tmp 63)) = .bool false := hd ⟨18, .data⟩ (by simp) (by rfl)
                exact fx_val hK hρ (.bool false) (by simp [execOp, f5, f18, hA.const, hA.const, go_sem]) rfl
              | 20, ho =>
                have hoo := Option.some.inj ho
                subst hoo
                have f19 : (ρ (.tmp 64)) = .bool false := hd ⟨19, .data⟩ (by simp) (by rfl)
                exact fx_val hK hρ (.bool false) (by simp [execOp, f19, hA.const, go_sem]) rfl
              | 21, ho =>
                have hoo := Option.some.inj ho
                subst hoo
                exact fx_val hK hρ (.slice Al dn cl) (by have h := hA.tmp 6 (by decide); simp [execOp, h, go_sem]) rfl
              | 22, ho =>
                have hoo := Option.some.inj ho
                subst hoo
                exact fx_val hK hρ (.int .i64 (k : Int)) (by have h := hA.tmp 8 (by decide); simp [execOp, h, go_sem]) rfl
              | 23, ho =>
                have hoo := Option.some.inj ho
                subst hoo
                have f21 : (ρ (.tmp 66)) = .slice Al dn cl := hd ⟨21, .data⟩ (by simp) (by rfl)
                have f22 : (ρ (.tmp 67)) = .int .i64 (k : Int) := hd ⟨22, .data⟩ (by simp) (by rfl)
                exact fx_call hK hρ 35 _ _ #[.slice Al dn cl, .int .i64 (k : Int)] rfl (by simp only [List.map_toArray, List.map_cons, List.map_nil, hA.const, f21, f22]) (eg_of Tryd.func35 (by kernel_rfl) rfl) ((has_is w hI.2 HDN.out.1 HDN.out.2 true ⟨fun _ => rfl, fun _ => HHB.out⟩).mono fun e w' ⟨he, hb⟩ => ⟨_, he, rfl, hb⟩)
              | 24, ho =>
                have hoo := Option.some.inj ho
                subst hoo
                exact fx_val hK hρ (.int .i64 1) (by have h := hA.tmp 9 (by decide); simp [execOp, h, go_sem]) rfl
              | 25, ho =>
                have hoo := Option.some.inj ho
                subst hoo
                have f24 : (ρ (.tmp 69)) = .int .i64 1 := hd ⟨24, .data⟩ (by simp) (by rfl)
                exact fx_val hK hρ (.bool true) (by simp [execOp, f24, hA.const, hA.const, go_sem]) rfl
              | 26, ho =>
                have hoo := Option.some.inj ho
                subst hoo
                have f25 : (ρ (.tmp 70)) = .bool true := hd ⟨25, .data⟩ (by simp) (by rfl)
                exact fx_val hK hρ (.bool true) (by simp [execOp, f25, hA.const, go_sem]) rfl
              | 27, ho =>
                have hoo := Option.some.inj ho
                subst hoo
                exact fx_val hK hρ (.pointer (some ⟨(w0.heap.size + 1), 1, none⟩)) (by have h := hA.tmp 3 (by decide); simp [execOp, h, go_sem]) rfl
              | 28, ho =>
                have hoo := Option.some.inj ho
                subst hoo
                have f27 : (ρ (.tmp 72)) = .pointer (some ⟨(w0.heap.size + 1), 1, none⟩) := hd ⟨27, .data⟩ (by simp) (by rfl)
                exact fx_val hK hρ _ (by have h0 := hI.1.b.c1; simp [execOp, f27, h0, go_sem]) rfl
              | 29, ho =>
                have hoo := Option.some.inj ho
                subst hoo
                exact fx_val hK hρ (.int .i64 (k : Int)) (by have h := hA.tmp 8 (by decide); simp [execOp, h, go_sem]) rfl
              | 30, ho =>
                have hoo := Option.some.inj ho
                subst hoo
                have f28 : (ρ (.tmp 73)) = .slice (some ⟨ba, oa, none⟩) m' d' := hd ⟨28, .data⟩ (by simp) (by rfl)
                have f29 : (ρ (.tmp 74)) = .int .i64 (k : Int) := hd ⟨29, .data⟩ (by simp) (by rfl)
                exact fx_val hK hρ (.pointer (some ⟨ba, oa + k, none⟩)) (by simp [execOp, f28, f29, hlt, go_sem]) rfl
              | 31, ho =>
                have hoo := Option.some.inj ho
                subst hoo
                have f30 : (ρ (.tmp 75)) = .pointer (some ⟨ba, oa + k, none⟩) := hd ⟨30, .data⟩ (by simp) (by rfl)
                exact fx_val hK hρ (.int .i64 lz) (by have h0 := ints_cell hI.1.b.k.left HZ1.out; simp [execOp, f30, h0, go_sem]) rfl
              | 32, ho =>
                have hoo := Option.some.inj ho
                subst hoo
                have f31 : (ρ (.tmp 76)) = .int .i64 lz := hd ⟨31, .data⟩ (by simp) (by rfl)
                exact fx_val hK hρ (.bool true) (by simp [execOp, f31, HL1.out, hA.const, go_sem]) rfl
              | 33, ho =>
                have hoo := Option.some.inj ho
                subst hoo
                have f26 : (ρ (.tmp 71)) = .bool true := hd ⟨26, .data⟩ (by simp) (by rfl)
                have f32 : (ρ (.tmp 77)) = .bool true := hd ⟨32, .data⟩ (by simp) (by rfl)
                exact fx_val hK hρ (.bool true) (by simp [execOp, f26, f32, hA.const, hA.const, go_sem]) rfl
              | 34, ho =>
                have hoo := Option.some.inj ho
                subst hoo
                have f23 : (ρ (.tmp 68)) = .bool true := hd ⟨23, .data⟩ (by simp) (by rfl)
                have f33 : (ρ (.tmp 78)) = .bool true := hd ⟨33, .data⟩ (by simp) (by rfl)
                exact fx_val hK hρ (.bool false) (by simp [execOp, f23, f33, hA.const, go_sem]) rfl
              | 35, ho =>
                have hoo := Option.some.inj ho
                subst hoo
                have f20 : (ρ (.tmp 65)) = .bool false := hd ⟨20, .data⟩ (by simp) (by rfl)
                have f34 : (ρ (.tmp 79)) = .bool false := hd ⟨34, .data⟩ (by simp) (by rfl)
                exact fx_val hK hρ (.bool false) (by simp [execOp, f20, f34, hA.const, hA.const, go_sem]) rfl
              | kq + 36, ho => simp at ho
            case henda =>
              intro vals9 xw hI hF
              have fz : vals9 80 = .bool false := hF 35 (by decide)
              simp only [fillA, fillL, List.contains_cons, List.contains_nil, Nat.reduceBEq, Bool.or_false, Bool.false_or, Bool.or_true, Bool.true_or, cond_true, cond_false, Nat.zero_add, Nat.reduceAdd]
              rw [fz]
              have BL2 := Lib.hid hI
              clear hF hI fz
              go_wp2
              go_roundw
              case rel => exact ⟨k + 1, by omega, by go_num, BL2⟩
              case measure => simp [intOf]; omega
          · have HHB : Hid ((k : Int) ∉ D2) := Lib.hid (fun q => h1 (h3'.mp q))
            have HL1 : Hid (¬ lz = 1) := Lib.hid h1
            clear h1 h3'
            go_wp2_with fail
            refine wp_region_facts' [45, 46, 47, 48, 49, 50, 51, 52, 53, 54, 55, 56, 57, 58, 59, 60, 61, 62, 63, 64, 65, 66, 67, 68, 69, 70, 71, 72, 73, 74, 75, 76, 77, 78, 79, 80] [] [(5, false), (20, false), (26, true)] (by kernel_rfl) (by kernel_rfl) (by kernel_rfl) (by intro d hd; simp at hd ⊢; omega) (fun x => BxFx w0 A n c F m d W E A' n' c' (some ⟨ba, oa, none⟩) m' d' O L gx Ax cx (some ⟨bx, ox, none⟩) dx O2 L2 x ∧ Ints x x.heap.size Al D2) (PhiT12b w0.heap.size gx bx ox m' dx ba oa d' k lz lx Al dn cl)
              (fun x y h hb => ⟨h.1.next hb, (h.2.below hb).more hb.size⟩) (phiT12b_below w0.heap.size gx bx ox m' dx ba oa d' k lz lx Al dn cl) (⟨BL.out.1.next (Below.refl _ _).drew, (BL.out.2.below (Below.refl _ _).drew).more (Below.refl 0 _).drew.size⟩) (fun p hp v w hv => by
                simp only [List.mem_cons, List.not_mem_nil, or_false] at hp
                rcases hp with rfl | rfl | rfl <;> exact hv) (fun kq hkq => by simp at hkq) ?hstepb ?hendb
            case hstepb =>
              intro kq o ho hw a w hI hA hd K hK
              obtain ⟨ρ, hρ⟩ : ∃ ρ, a.eval = ρ := ⟨_, rfl⟩
              rw [hρ] at hA hd
              match kq, ho with
              | 0, ho =>
                have hoo := Option.some.inj ho
                subst hoo
                exact fx_val hK hρ (.int .i64 (k : Int)) (by have h := hA.tmp 8 (by decide); simp [execOp, h, go_sem]) rfl
              | 1, ho =>
                have hoo := Option.some.inj ho
                subst hoo
                exact fx_val hK hρ (.pointer (some ⟨gx, 1, none⟩)) (by have h := hA.tmp 5 (by decide); simp [execOp, h, go_sem]) rfl
              | 2, ho =>
                have hoo := Option.some.inj ho
                subst hoo
                have f1 : (ρ (.tmp 46)) = .pointer (some ⟨gx, 1, none⟩) := hd ⟨1, .data⟩ (by simp) (by rfl)
                exact fx_val hK hρ _ (by have h0 := hI.1.x1; simp [execOp, f1, h0, go_sem]) rfl
              | 3, ho =>
                have hoo := Option.some.inj ho
                subst hoo
                have f2 : (ρ (.tmp 47)) = .slice (some ⟨bx, ox, none⟩) m' dx := hd ⟨2, .data⟩ (by simp) (by rfl)
                exact fx_val hK hρ (.int .i64 (m' : Int)) (by simp [execOp, f2, hA.const, go_sem]) rfl
              | 4, ho =>
                have hoo := Option.some.inj ho
                subst hoo
                have f0 : (ρ (.tmp 45)) = .int .i64 (k : Int) := hd ⟨0, .data⟩ (by simp) (by rfl)
                have f3 : (ρ (.tmp 48)) = .int .i64 (m' : Int) := hd ⟨3, .data⟩ (by simp) (by rfl)
                exact fx_val hK hρ (.bool false) (by simp [execOp, f0, f3, hlt, go_sem]) rfl
              | 5, ho =>
                have hoo := Option.some.inj ho
                subst hoo
                have f4 : (ρ (.tmp 49)) = .bool false := hd ⟨4, .data⟩ (by simp) (by rfl)
                exact fx_val hK hρ (.bool false) (by simp [execOp, f4, hA.const, go_sem]) rfl
              | 6, ho =>
                have hoo := Option.some.inj ho
                subst hoo
                exact fx_val hK hρ (.pointer (some ⟨gx, 1, none⟩)) (by have h := hA.tmp 5 (by decide); simp [execOp, h, go_sem]) rfl
              | 7, ho =>
                have hoo := Option.some.inj ho
                subst hoo
                have f6 : (ρ (.tmp 51)) = .pointer (some ⟨gx, 1, none⟩) := hd ⟨6, .data⟩ (by simp) (by rfl)
                exact fx_val hK hρ _ (by have h0 := hI.1.x1; simp [execOp, f6, h0, go_sem]) rfl
              | 8, ho =>
                have hoo := Option.some.inj ho
                subst hoo
                exact fx_val hK hρ (.int .i64 (k : Int)) (by have h := hA.tmp 8 (by decide); simp [execOp, h, go_sem]) rfl
              | 9, ho =>
                have hoo := Option.some.inj ho
                subst hoo
                have f7 : (ρ (.tmp 52)) = .slice (some ⟨bx, ox, none⟩) m' dx := hd ⟨7, .data⟩ (by simp) (by rfl)
                have f8 : (ρ (.tmp 53)) = .int .i64 (k : Int) := hd ⟨8, .data⟩ (by simp) (by rfl)
                exact fx_val hK hρ (.pointer (some ⟨bx, ox + k, none⟩)) (by simp [execOp, f7, f8, hlt, go_sem]) rfl
              | 10, ho =>
                have hoo := Option.some.inj ho
                subst hoo
                have f9 : (ρ (.tmp 54)) = .pointer (some ⟨bx, ox + k, none⟩) := hd ⟨9, .data⟩ (by simp) (by rfl)
                exact fx_val hK hρ (.int .i64 lx) (by have h0 := ints_cell hI.1.k2.left HZ2.out; simp [execOp, f9, h0, go_sem]) rfl
              | 11, ho =>
                have hoo := Option.some.inj ho
                subst hoo
                exact fx_val hK hρ (.pointer (some ⟨(w0.heap.size + 1), 1, none⟩)) (by have h := hA.tmp 3 (by decide); simp [execOp, h, go_sem]) rfl
              | 12, ho =>
                have hoo := Option.some.inj ho
                subst hoo
                have f11 : (ρ (.tmp 56)) = .pointer (some ⟨(w0.heap.size + 1), 1, none⟩) := hd ⟨11, .data⟩ (by simp) (by rfl)
                exact fx_val hK hρ _ (by have h0 := hI.1.b.c1; simp [execOp, f11, h0, go_sem]) rfl
              | 13, ho =>
                have hoo := Option.some.inj ho
                subst hoo
                exact fx_val hK hρ (.int .i64 (k : Int)) (by have h := hA.tmp 8 (by decide); simp [execOp, h, go_sem]) rfl
              | 14, ho =>
                have hoo := Option.some.inj ho
                subst hoo
                have f12 : (ρ (.tmp 57)) = .slice (some ⟨ba, oa, none⟩) m' d' := hd ⟨12, .data⟩ (by simp) (by rfl)
                have f13 : (ρ (.tmp 58)) = .int .i64 (k : Int) := hd ⟨13, .data⟩ (by simp) (by rfl)
                exact fx_val hK hρ (.pointer (some ⟨ba, oa + k, none⟩)) (by simp [execOp, f12, f13, hlt, go_sem]) rfl
              | 15, ho =>
                have hoo := Option.some.inj ho
                subst hoo
                have f14 : (ρ (.tmp 59)) = .pointer (some ⟨ba, oa + k, none⟩) := hd ⟨14, .data⟩ (by simp) (by rfl)
                exact fx_val hK hρ (.int .i64 lz) (by have h0 := ints_cell hI.1.b.k.left HZ1.out; simp [execOp, f14, h0, go_sem]) rfl
              | 16, ho =>
                have hoo := Option.some.inj ho
                subst hoo
                exact fx_val hK hρ (.int .i64 1) (by have h := hA.tmp 9 (by decide); simp [execOp, h, go_sem]) rfl
              | 17, ho =>
                have hoo := Option.some.inj ho
                subst hoo
                have f15 : (ρ (.tmp 60)) = .int .i64 lz := hd ⟨15, .data⟩ (by simp) (by rfl)
                have f16 : (ρ (.tmp 61)) = .int .i64 1 := hd ⟨16, .data⟩ (by simp) (by rfl)
                have hw := HWR.out
                exact fx_val hK hρ (.int .i64 lx) (by simp [execOp, f15, f16, hw, go_sem]) rfl
              | 18, ho =>
                have hoo := Option.some.inj ho
                subst hoo
                have f10 : (ρ (.tmp 55)) = .int .i64 lx := hd ⟨10, .data⟩ (by simp) (by rfl)
                have f17 : (ρ (.tmp 62)) = .int .i64 lx := hd ⟨17, .data⟩ (by simp) (by rfl)
                exact fx_val hK hρ (.bool false) (by simp [execOp, f10, f17, hA.const, go_sem]) rfl
              | 19, ho =>
                have hoo := Option.some.inj ho
                subst hoo
                have f5 : (ρ (.tmp 50)) = .bool false := hd ⟨5, .data⟩ (by simp) (by rfl)
                have f18 : (ρ (.tmp 63)) = .bool false := hd ⟨18, .data⟩ (by simp) (by rfl)
                exact fx_val hK hρ (.bool false) (by simp [execOp, f5, f18, hA.const, hA.const, go_sem]) rfl
              | 20, ho =>
                have hoo := Option.some.inj ho
                subst hoo
                have f19 : (ρ (.tmp 64)) = .bool false := hd ⟨19, .data⟩ (by simp) (by rfl)
                exact fx_val hK hρ (.bool false) (by simp [execOp, f19, hA.const, go_sem]) rfl
              | 21, ho =>
                have hoo := Option.some.inj ho
                subst hoo
                exact fx_val hK hρ (.slice Al dn cl) (by have h := hA.tmp 6 (by decide); simp [execOp, h, go_sem]) rfl
              | 22, ho =>
                have hoo := Option.some.inj ho
                subst hoo
                exact fx_val hK hρ (.int .i64 (k : Int)) (by have h := hA.tmp 8 (by decide); simp [execOp, h, go_sem]) rfl
              | 23, ho =>
                have hoo := Option.some.inj ho
                subst hoo
                have f21 : (ρ (.tmp 66)) = .slice Al dn cl := hd ⟨21, .data⟩ (by simp) (by rfl)
                have f22 : (ρ (.tmp 67)) = .int .i64 (k : Int) := hd ⟨22, .data⟩ (by simp) (by rfl)
                exact fx_call hK hρ 35 _ _ #[.slice Al dn cl, .int .i64 (k : Int)] rfl (by simp only [List.map_toArray, List.map_cons, List.map_nil, hA.const, f21, f22]) (eg_of Tryd.func35 (by kernel_rfl) rfl) ((has_is w hI.2 HDN.out.1 HDN.out.2 false ⟨fun q => absurd q HHB.out, fun q => by cases q⟩).mono fun e w' ⟨he, hb⟩ => ⟨_, he, rfl, hb⟩)
              | 24, ho =>
                have hoo := Option.some.inj ho
                subst hoo
                exact fx_val hK hρ (.int .i64 1) (by have h := hA.tmp 9 (by decide); simp [execOp, h, go_sem]) rfl
              | 25, ho =>
                have hoo := Option.some.inj ho
                subst hoo
                have f24 : (ρ (.tmp 69)) = .int .i64 1 := hd ⟨24, .data⟩ (by simp) (by rfl)
                exact fx_val hK hρ (.bool true) (by simp [execOp, f24, hA.const, hA.const, go_sem]) rfl
              | 26, ho =>
                have hoo := Option.some.inj ho
                subst hoo
                have f25 : (ρ (.tmp 70)) = .bool true := hd ⟨25, .data⟩ (by simp) (by rfl)
                exact fx_val hK hρ (.bool true) (by simp [execOp, f25, hA.const, go_sem]) rfl
              | 27, ho =>
                have hoo := Option.some.inj ho
                subst hoo
                exact fx_val hK hρ (.pointer (some ⟨(w0.heap.size + 1), 1, none⟩)) (by have h := hA.tmp 3 (by decide); simp [execOp, h, go_sem]) rfl
              | 28, ho =>
                have hoo := Option.some.inj ho
                subst hoo
                have f27 : (ρ (.tmp 72)) = .pointer (some ⟨(w0.heap.size + 1), 1, none⟩) := hd ⟨27, .data⟩ (by simp) (by rfl)
                exact fx_val hK hρ _ (by have h0 := hI.1.b.c1; simp [execOp, f27, h0, go_sem]) rfl
              | 29, ho =>
                have hoo := Option.some.inj ho
                subst hoo
                exact fx_val hK hρ (.int .i64 (k : Int)) (by have h := hA.tmp 8 (by decide); simp [execOp, h, go_sem]) rfl
              | 30, ho =>
                have hoo := Option.some.inj ho
                subst hoo
                have f28 : (ρ (.tmp 73)) = .slice (some ⟨ba, oa, none⟩) m' d' := hd ⟨28, .data⟩ (by simp) (by rfl)
                have f29 : (ρ (.tmp 74)) = .int .i64 (k : Int) := hd ⟨29, .data⟩ (by simp) (by rfl)
                exact fx_val hK hρ (.pointer (some ⟨ba, oa + k, none⟩)) (by simp [execOp, f28, f29, hlt, go_sem]) rfl
              | 31, ho =>
                have hoo := Option.some.inj ho
                subst hoo
                have f30 : (ρ (.tmp 75)) = .pointer (some ⟨ba, oa + k, none⟩) := hd ⟨30, .data⟩ (by simp) (by rfl)
                exact fx_val hK hρ (.int .i64 lz) (by have h0 := ints_cell hI.1.b.k.left HZ1.out; simp [execOp, f30, h0, go_sem]) rfl
              | 32, ho =>
                have hoo := Option.some.inj ho
                subst hoo
                have f31 : (ρ (.tmp 76)) = .int .i64 lz := hd ⟨31, .data⟩ (by simp) (by rfl)
                exact fx_val hK hρ (.bool false) (by simp [execOp, f31, HL1.out, hA.const, go_sem]) rfl
              | 33, ho =>
                have hoo := Option.some.inj ho
                subst hoo
                have f26 : (ρ (.tmp 71)) = .bool true := hd ⟨26, .data⟩ (by simp) (by rfl)
                have f32 : (ρ (.tmp 77)) = .bool false := hd ⟨32, .data⟩ (by simp) (by rfl)
                exact fx_val hK hρ (.bool false) (by simp [execOp, f26, f32, hA.const, hA.const, go_sem]) rfl
              | 34, ho =>
                have hoo := Option.some.inj ho
                subst hoo
                have f23 : (ρ (.tmp 68)) = .bool false := hd ⟨23, .data⟩ (by simp) (by rfl)
                have f33 : (ρ (.tmp 78)) = .bool false := hd ⟨33, .data⟩ (by simp) (by rfl)
                exact fx_val hK hρ (.bool false) (by simp [execOp, f23, f33, hA.const, go_sem]) rfl
              | 35, ho =>
                have hoo := Option.some.inj ho
                subst hoo
                have f20 : (ρ (.tmp 65)) = .bool false := hd ⟨20, .data⟩ (by simp) (by rfl)
                have f34 : (ρ (.tmp 79)) = .bool false := hd ⟨34, .data⟩ (by simp) (by rfl)
                exact fx_val hK hρ (.bool false) (by simp [execOp, f20, f34, hA.const, hA.const, go_sem]) rfl
              | kq + 36, ho => simp at ho
            case hendb =>
              intro vals9 xw hI hF
              have fz : vals9 80 = .bool false := hF 35 (by decide)
              simp only [fillA, fillL, List.contains_cons, List.contains_nil, Nat.reduceBEq, Bool.or_false, Bool.false_or, Bool.or_true, Bool.true_or, cond_true, cond_false, Nat.zero_add, Nat.reduceAdd]
              rw [fz]
              have BL2 := Lib.hid hI
              clear hF hI fz
              go_wp2
              go_roundw
              case rel => exact ⟨k + 1, by omega, by go_num, BL2⟩
              case measure => simp [intOf]; omega
        · rw [if_neg hmem] at h2
          rw [Int.sub_zero] at h2
          obtain ⟨lx, hlx⟩ : ∃ z, lz = z := ⟨_, rfl⟩
          rw [hlx] at h2
          have HZ2 := Lib.hid h2
          have HWR : Hid (IntKind.i64.wrap lz = lx) := Lib.hid (by rw [← hlx]; exact IntWalk.i64_in _ (by omega))
          have HM := Lib.hid hmem
          have HHB : Hid ((k : Int) ∉ D2) := Lib.hid (fun q => hmem (h3.mp q).1)
          clear h2 h3 hmem hlx
          go_wp2_with fail
          refine (has_is (b := false) _ BL0.out.1.b.k.on HOL.out.1 (by omega) ⟨fun q => absurd q HM.out, fun q => by cases q⟩).mono ?_
          rintro e wh ⟨rfl, bh⟩
          have BL1 : Hid (BxFx w0 A n c F m d W E A' n' c' F' m' d' O L gx Ax cx Fx dx O2 L2 wh ∧ Ints wh wh.heap.size Al D2) := Lib.hid ⟨BL0.out.1.next bh, (BL0.out.2.below bh).more bh.size⟩
          clear bh BL0 q2 q3
          obtain ⟨ba, oa, rfl⟩ := ints_some (k := k) BL1.out.1.b.k.left (by rw [HOL.out.2.1]; exact hlt)
          obtain ⟨bx, ox, rfl⟩ := ints_some (k := k) BL1.out.1.k2.left (by rw [HOL.out.2.2.2]; exact hlt)
          have BL := BL1
          clear BL1
          go_wp2_with fail
          refine wp_region_facts' [45, 46, 47, 48, 49, 50, 51, 52, 53, 54, 55, 56, 57, 58, 59, 60, 61, 62, 63, 64, 65, 66, 67, 68, 69, 70, 71, 72, 73, 74, 75, 76, 77, 78, 79, 80] [true, true, true, true, true, true, true, true, true, true, true, true, true, true, true, true, true, true, true, true, true, true, true, true, true, true, true, false, false, false, false, false, false, true, true, true] [(5, false), (20, false), (26, false)] (by kernel_rfl) (by kernel_rfl) (by kernel_rfl) (by intro d hd; simp at hd ⊢; omega) (fun x => BxFx w0 A n c F m d W E A' n' c' (some ⟨ba, oa, none⟩) m' d' O L gx Ax cx (some ⟨bx, ox, none⟩) dx O2 L2 x ∧ Ints x x.heap.size Al D2) (PhiT12c w0.heap.size gx bx ox m' dx ba oa d' k lz lx Al dn cl)
            (fun x y h hb => ⟨h.1.next hb, (h.2.below hb).more hb.size⟩) (phiT12c_below w0.heap.size gx bx ox m' dx ba oa d' k lz lx Al dn cl) (⟨BL.out.1.next (Below.refl _ _).drew, (BL.out.2.below (Below.refl _ _).drew).more (Below.refl 0 _).drew.size⟩) (fun p hp v w hv => by
              simp only [List.mem_cons, List.not_mem_nil, or_false] at hp
              rcases hp with rfl | rfl | rfl <;> exact hv) (fun kq hkq w => by
              have hlt : kq < 36 := by
                apply Classical.byContradiction
                intro h
                rw [List.getD_eq_getElem?_getD, List.getElem?_eq_none (by simp; omega)] at hkq
                simp at hkq
              match kq, hlt, hkq with
              | 0, _, h => exact absurd h (by decide)
              | 1, _, h => exact absurd h (by decide)
              | 2, _, h => exact absurd h (by decide)
              | 3, _, h => exact absurd h (by decide)
              | 4, _, h => exact absurd h (by decide)
              | 5, _, h => exact absurd h (by decide)
              | 6, _, h => exact absurd h (by decide)
              | 7, _, h => exact absurd h (by decide)
              | 8, _, h => exact absurd h (by decide)
              | 9, _, h => exact absurd h (by decide)
              | 10, _, h => exact absurd h (by decide)
              | 11, _, h => exact absurd h (by decide)
              | 12, _, h => exact absurd h (by decide)
              | 13, _, h => exact absurd h (by decide)
              | 14, _, h => exact absurd h (by decide)
              | 15, _, h => exact absurd h (by decide)
              | 16, _, h => exact absurd h (by decide)
              | 17, _, h => exact absurd h (by decide)
              | 18, _, h => exact absurd h (by decide)
              | 19, _, h => exact absurd h (by decide)
              | 20, _, h => exact absurd h (by decide)
              | 21, _, h => exact absurd h (by decide)
              | 22, _, h => exact absurd h (by decide)
              | 23, _, h => exact absurd h (by decide)
              | 24, _, h => exact absurd h (by decide)
              | 25, _, h => exact absurd h (by decide)
              | 26, _, h => exact absurd h (by decide)
              | 27, _, _ => exact trivial
              | 28, _, _ => exact trivial
              | 29, _, _ => exact trivial
              | 30, _, _ => exact trivial
              | 31, _, _ => exact trivial
              | 32, _, _ => exact trivial
              | 33, _, h => exact absurd h (by decide)
              | 34, _, h => exact absurd h (by decide)
              | 35, _, h => exact absurd h (by decide)
              | kq + 36, h, _ => omega) ?hstepc ?hendc
          case hstepc =>
            intro kq o ho hw a w hI hA hd K hK
            obtain ⟨ρ, hρ⟩ : ∃ ρ, a.eval = ρ := ⟨_, rfl⟩
            rw [hρ] at hA hd
            match kq, ho with
            | 0, ho =>
              have hoo := Option.some.inj ho
              subst hoo
              exact fx_val hK hρ (.int .i64 (k : Int)) (by have h := hA.tmp 8 (by decide); simp [execOp, h, go_sem]) rfl
            | 1, ho =>
              have hoo := Option.some.inj ho
              subst hoo
              exact fx_val hK hρ (.pointer (some ⟨gx, 1, none⟩)) (by have h := hA.tmp 5 (by decide); simp [execOp, h, go_sem]) rfl
            | 2, ho =>
              have hoo := Option.some.inj ho
              subst hoo
              have f1 : (ρ (.tmp 46)) = .pointer (some ⟨gx, 1, none⟩) := hd ⟨1, .data⟩ (by simp) (by rfl)
              exact fx_val hK hρ _ (by have h0 := hI.1.x1; simp [execOp, f1, h0, go_sem]) rfl
            | 3, ho =>
              have hoo := Option.some.inj ho
              subst hoo
              have f2 : (ρ (.tmp 47)) = .slice (some ⟨bx, ox, none⟩) m' dx := hd ⟨2, .data⟩ (by simp) (by rfl)
              exact fx_val hK hρ (.int .i64 (m' : Int)) (by simp [execOp, f2, hA.const, go_sem]) rfl
            | 4, ho =>
              have hoo := Option.some.inj ho
              subst hoo
              have f0 : (ρ (.tmp 45)) = .int .i64 (k : Int) := hd ⟨0, .data⟩ (by simp) (by rfl)
              have f3 : (ρ (.tmp 48)) = .int .i64 (m' : Int) := hd ⟨3, .data⟩ (by simp) (by rfl)
              exact fx_val hK hρ (.bool false) (by simp [execOp, f0, f3, hlt, go_sem]) rfl
            | 5, ho =>
              have hoo := Option.some.inj ho
              subst hoo
              have f4 : (ρ (.tmp 49)) = .bool false := hd ⟨4, .data⟩ (by simp) (by rfl)
              exact fx_val hK hρ (.bool false) (by simp [execOp, f4, hA.const, go_sem]) rfl
            | 6, ho =>
              have hoo := Option.some.inj ho
              subst hoo
              exact fx_val hK hρ (.pointer (some ⟨gx, 1, none⟩)) (by have h := hA.tmp 5 (by decide); simp [execOp, h, go_sem]) rfl
            | 7, ho =>
              have hoo := Option.some.inj ho
              subst hoo
              have f6 : (ρ (.tmp 51)) = .pointer (some ⟨gx, 1, none⟩) := hd ⟨6, .data⟩ (by simp) (by rfl)
              exact fx_val hK hρ _ (by have h0 := hI.1.x1; simp [execOp, f6, h0, go_sem]) rfl
            | 8, ho =>
              have hoo := Option.some.inj ho
              subst hoo
              exact fx_val hK hρ (.int .i64 (k : Int)) (by have h := hA.tmp 8 (by decide); simp [execOp, h, go_sem]) rfl
            | 9, ho =>
              have hoo := Option.some.inj ho
              subst hoo
              have f7 : (ρ (.tmp 52)) = .slice (some ⟨bx, ox, none⟩) m' dx := hd ⟨7, .data⟩ (by simp) (by rfl)
              have f8 : (ρ (.tmp 53)) = .int .i64 (k : Int) := hd ⟨8, .data⟩ (by simp) (by rfl)
              exact fx_val hK hρ (.pointer (some ⟨bx, ox + k, none⟩)) (by simp [execOp, f7, f8, hlt, go_sem]) rfl
            | 10, ho =>
              have hoo := Option.some.inj ho
              subst hoo
              have f9 : (ρ (.tmp 54)) = .pointer (some ⟨bx, ox + k, none⟩) := hd ⟨9, .data⟩ (by simp) (by rfl)
              exact fx_val hK hρ (.int .i64 lx) (by have h0 := ints_cell hI.1.k2.left HZ2.out; simp [execOp, f9, h0, go_sem]) rfl
            | 11, ho =>
              have hoo := Option.some.inj ho
              subst hoo
              exact fx_val hK hρ (.pointer (some ⟨(w0.heap.size + 1), 1, none⟩)) (by have h := hA.tmp 3 (by decide); simp [execOp, h, go_sem]) rfl
            | 12, ho =>
              have hoo := Option.some.inj ho
              subst hoo
              have f11 : (ρ (.tmp 56)) = .pointer (some ⟨(w0.heap.size + 1), 1, none⟩) := hd ⟨11, .data⟩ (by simp) (by rfl)
              exact fx_val hK hρ _ (by have h0 := hI.1.b.c1; simp [execOp, f11, h0, go_sem]) rfl
            | 13, ho =>
              have hoo := Option.some.inj ho
              subst hoo
              exact fx_val hK hρ (.int .i64 (k : Int)) (by have h := hA.tmp 8 (by decide); simp [execOp, h, go_sem]) rfl
            | 14, ho =>
              have hoo := Option.some.inj ho
              subst hoo
              have f12 : (ρ (.tmp 57)) = .slice (some ⟨ba, oa, none⟩) m' d' := hd ⟨12, .data⟩ (by simp) (by rfl)
              have f13 : (ρ (.tmp 58)) = .int .i64 (k : Int) := hd ⟨13, .data⟩ (by simp) (by rfl)
              exact fx_val hK hρ (.pointer (some ⟨ba, oa + k, none⟩)) (by simp [execOp, f12, f13, hlt, go_sem]) rfl
            | 15, ho =>
              have hoo := Option.some.inj ho
              subst hoo
              have f14 : (ρ (.tmp 59)) = .pointer (some ⟨ba, oa + k, none⟩) := hd ⟨14, .data⟩ (by simp) (by rfl)
              exact fx_val hK hρ (.int .i64 lz) (by have h0 := ints_cell hI.1.b.k.left HZ1.out; simp [execOp, f14, h0, go_sem]) rfl
            | 16, ho =>
              have hoo := Option.some.inj ho
              subst hoo
              exact fx_val hK hρ (.int .i64 0) (by have h := hA.tmp 9 (by decide); simp [execOp, h, go_sem]) rfl
            | 17, ho =>
              have hoo := Option.some.inj ho
              subst hoo
              have f15 : (ρ (.tmp 60)) = .int .i64 lz := hd ⟨15, .data⟩ (by simp) (by rfl)
              have f16 : (ρ (.tmp 61)) = .int .i64 0 := hd ⟨16, .data⟩ (by simp) (by rfl)
              have hw := HWR.out
              exact fx_val hK hρ (.int .i64 lx) (by simp [execOp, f15, f16, hw, go_sem]) rfl
            | 18, ho =>
              have hoo := Option.some.inj ho
              subst hoo
              have f10 : (ρ (.tmp 55)) = .int .i64 lx := hd ⟨10, .data⟩ (by simp) (by rfl)
              have f17 : (ρ (.tmp 62)) = .int .i64 lx := hd ⟨17, .data⟩ (by simp) (by rfl)
              exact fx_val hK hρ (.bool false) (by simp [execOp, f10, f17, hA.const, go_sem]) rfl
            | 19, ho =>
              have hoo := Option.some.inj ho
              subst hoo
              have f5 : (ρ (.tmp 50)) = .bool false := hd ⟨5, .data⟩ (by simp) (by rfl)
              have f18 : (ρ (.tmp 63)) = .bool false := hd ⟨18, .data⟩ (by simp) (by rfl)
              exact fx_val hK hρ (.bool false) (by simp [execOp, f5, f18, hA.const, hA.const, go_sem]) rfl
            | 20, ho =>
              have hoo := Option.some.inj ho
              subst hoo
              have f19 : (ρ (.tmp 64)) = .bool false := hd ⟨19, .data⟩ (by simp) (by rfl)
              exact fx_val hK hρ (.bool false) (by simp [execOp, f19, hA.const, go_sem]) rfl
            | 21, ho =>
              have hoo := Option.some.inj ho
              subst hoo
              exact fx_val hK hρ (.slice Al dn cl) (by have h := hA.tmp 6 (by decide); simp [execOp, h, go_sem]) rfl
            | 22, ho =>
              have hoo := Option.some.inj ho
              subst hoo
              exact fx_val hK hρ (.int .i64 (k : Int)) (by have h := hA.tmp 8 (by decide); simp [execOp, h, go_sem]) rfl
            | 23, ho =>
              have hoo := Option.some.inj ho
              subst hoo
              have f21 : (ρ (.tmp 66)) = .slice Al dn cl := hd ⟨21, .data⟩ (by simp) (by rfl)
              have f22 : (ρ (.tmp 67)) = .int .i64 (k : Int) := hd ⟨22, .data⟩ (by simp) (by rfl)
              exact fx_call hK hρ 35 _ _ #[.slice Al dn cl, .int .i64 (k : Int)] rfl (by simp only [List.map_toArray, List.map_cons, List.map_nil, hA.const, f21, f22]) (eg_of Tryd.func35 (by kernel_rfl) rfl) ((has_is w hI.2 HDN.out.1 HDN.out.2 false ⟨fun q => absurd q HHB.out, fun q => by cases q⟩).mono fun e w' ⟨he, hb⟩ => ⟨_, he, rfl, hb⟩)
            | 24, ho =>
              have hoo := Option.some.inj ho
              subst hoo
              exact fx_val hK hρ (.int .i64 0) (by have h := hA.tmp 9 (by decide); simp [execOp, h, go_sem]) rfl
            | 25, ho =>
              have hoo := Option.some.inj ho
              subst hoo
              have f24 : (ρ (.tmp 69)) = .int .i64 0 := hd ⟨24, .data⟩ (by simp) (by rfl)
              exact fx_val hK hρ (.bool false) (by simp [execOp, f24, hA.const, hA.const, go_sem]) rfl
            | 26, ho =>
              have hoo := Option.some.inj ho
              subst hoo
              have f25 : (ρ (.tmp 70)) = .bool false := hd ⟨25, .data⟩ (by simp) (by rfl)
              exact fx_val hK hρ (.bool false) (by simp [execOp, f25, hA.const, go_sem]) rfl
            | 27, ho =>
              exact absurd hw (by decide)
            | 28, ho =>
              exact absurd hw (by decide)
            | 29, ho =>
              exact absurd hw (by decide)
            | 30, ho =>
              exact absurd hw (by decide)
            | 31, ho =>
              exact absurd hw (by decide)
            | 32, ho =>
              exact absurd hw (by decide)
            | 33, ho =>
              have hoo := Option.some.inj ho
              subst hoo
              have f26 : (ρ (.tmp 71)) = .bool false := hd ⟨26, .data⟩ (by simp) (by rfl)
              exact fx_val hK hρ (.bool false) (by simp [execOp, f26, hA.const, hA.const, go_sem]) rfl
            | 34, ho =>
              have hoo := Option.some.inj ho
              subst hoo
              have f23 : (ρ (.tmp 68)) = .bool false := hd ⟨23, .data⟩ (by simp) (by rfl)
              have f33 : (ρ (.tmp 78)) = .bool false := hd ⟨33, .data⟩ (by simp) (by rfl)
              exact fx_val hK hρ (.bool false) (by simp [execOp, f23, f33, hA.const, go_sem]) rfl
            | 35, ho =>
              have hoo := Option.some.inj ho
              subst hoo
              have f20 : (ρ (.tmp 65)) = .bool false := hd ⟨20, .data⟩ (by simp) (by rfl)
              have f34 : (ρ (.tmp 79)) = .bool false := hd ⟨34, .data⟩ (by simp) (by rfl)
              exact fx_val hK hρ (.bool false) (by simp [execOp, f20, f34, hA.const, hA.const, go_sem]) rfl
            | kq + 36, ho => simp at ho
          case hendc =>
            intro vals9 xw hI hF
            have fz : vals9 80 = .bool false := hF 35 (by decide)
            simp only [fillA, fillL, List.contains_cons, List.contains_nil, Nat.reduceBEq, Bool.or_false, Bool.false_or, Bool.or_true, Bool.true_or, cond_true, cond_false, Nat.zero_add, Nat.reduceAdd]
            rw [fz]
            have BL2 := Lib.hid hI
            clear hF hI fz
            go_wp2
            go_roundw
            case rel => exact ⟨k + 1, by omega, by go_num, BL2⟩
            case measure => simp [intOf]; omega
      · obtain rfl : m' = k := by omega
        clear B3
        go_wp2
        clear q2 q3
        go_loopw [10] (fun v wr => ∃ k : Nat, k ≤ n' ∧ v = .int .i64 k ∧ Hid (BxFx w0 A n c F m d W E A' n' c' F' m' d' O L gx Ax cx Fx dx O2 L2 wr ∧ Ints wr wr.heap.size Al D2)) (fun v _ => n' - (intOf v).toNat)
        case atStart => exact ⟨0, Nat.zero_le _, rfl, BL0⟩
        case round =>
          obtain ⟨k, hk, rfl, BL⟩ := hrel
          have q2 := BL.out.1.b.c0
          by_cases hlt : k < n'
          · obtain ⟨y, hy⟩ : ∃ z, O[k]? = some z := ⟨_, List.getElem?_eq_getElem (by rw [HOL.out.1]; exact hlt)⟩
            obtain ⟨h2, h3, h4⟩ := HTC.out k y hy
            have HZ1 := Lib.hid hy
            obtain ⟨ba, oa, rfl⟩ := ints_some (k := k) BL.out.1.b.k.on (by rw [HOL.out.1]; exact hlt)
            obtain ⟨bx, ox, rfl⟩ := ints_some (k := k) BL.out.1.k2.on (by rw [HOL.out.2.2.1]; exact hlt)
            clear hy
            by_cases hy1 : y = -1
            · rw [if_neg (fun q => q.1 hy1)] at h2
              obtain ⟨z, hz⟩ : ∃ z, y = z := ⟨_, rfl⟩
              have HZ2 : Hid (O2[k]? = some z) := Lib.hid (hz ▸ h2)
              have HNE : Hid ((z != y) = false) := Lib.hid (by rw [hz]; simp)
              have HEQ : Hid ((z == y) = true) := Lib.hid (by rw [hz]; simp)
              have HGE : Hid (decide (0 ≤ y) = false) := Lib.hid (decide_eq_false (by omega))
              clear h2 h3 h4 hy1 hz
              go_wp2_with fail
              refine wp_region_skips' [88, 89, 90, 91, 92, 93, 94, 95, 96, 97, 98, 99, 100, 101, 102, 103, 104, 105, 106, 107, 108, 109, 110, 111, 112, 113, 114, 115, 116, 117, 118, 119, 120, 121, 122, 123, 124, 125, 126, 127, 128, 129, 130, 131, 132, 133, 134, 135, 136, 137, 138, 139, 140, 141, 142, 143, 144, 145, 146, 147, 148, 149, 150, 151, 152, 153] [true, true, true, true, true, true, true, true, true, true, true, true, true, true, true, true, true, true, false, false, false, false, false, false, false, false, false, false, false, false, false, false, false, false, true, true, true, true, true, true, true, true, true, true, true, true, true, true, true, true, true, true, true, true, true, true, true, false, false, false, false, false, false, false, true, true] [(5, false), (17, false), (36, false), (48, true), (56, false)] (by kernel_rfl) (by kernel_rfl) (by kernel_rfl) (by intro d hd; simp at hd ⊢; omega) (fun x => BxFx w0 A n c F m d W E (some ⟨ba, oa, none⟩) n' c' F' m' d' O L gx (some ⟨bx, ox, none⟩) cx Fx dx O2 L2 x ∧ Ints x x.heap.size Al D2) (PhiT17a w0.heap.size gx bx ox n' cx ba oa c' k y z Al dn cl)
                (fun x y h hb => ⟨h.1.next hb, (h.2.below hb).more hb.size⟩) (phiT17a_below w0.heap.size gx bx ox n' cx ba oa c' k y z Al dn cl) (⟨BL.out.1.next (Below.refl _ _).drew, (BL.out.2.below (Below.refl _ _).drew).more (Below.refl 0 _).drew.size⟩) (fun p hp v w hv => by
                  simp only [List.mem_cons, List.not_mem_nil, or_false] at hp
                  rcases hp with rfl | rfl | rfl | rfl | rfl <;> exact hv) (fun kq hkq v w hv => by
                  have hlt : kq < 66 := by
                    apply Classical.byContradiction
                    intro h
                    rw [List.getD_eq_getElem?_getD, List.getElem?_eq_none (by simp; omega)] at hkq
                    simp at hkq
                  match kq, hlt, hkq, hv with
                  | 0, _, h, _ => exact absurd h (by decide)
                  | 1, _, h, _ => exact absurd h (by decide)
                  | 2, _, h, _ => exact absurd h (by decide)
                  | 3, _, h, _ => exact absurd h (by decide)
                  | 4, _, h, _ => exact absurd h (by decide)
                  | 5, _, h, _ => exact absurd h (by decide)
                  | 6, _, h, _ => exact absurd h (by decide)
                  | 7, _, h, _ => exact absurd h (by decide)
                  | 8, _, h, _ => exact absurd h (by decide)
                  | 9, _, h, _ => exact absurd h (by decide)
                  | 10, _, h, _ => exact absurd h (by decide)
                  | 11, _, h, _ => exact absurd h (by decide)
                  | 12, _, h, _ => exact absurd h (by decide)
                  | 13, _, h, _ => exact absurd h (by decide)
                  | 14, _, h, _ => exact absurd h (by decide)
                  | 15, _, h, _ => exact absurd h (by decide)
                  | 16, _, h, _ => exact absurd h (by decide)
                  | 17, _, h, _ => exact absurd h (by decide)
                  | 18, _, _, hv => exact hv
                  | 19, _, _, hv => exact hv
                  | 20, _, _, hv => exact hv
                  | 21, _, _, hv => exact hv
                  | 22, _, _, hv => exact hv
                  | 23, _, _, hv => exact hv
                  | 24, _, _, hv => exact hv
                  | 25, _, _, hv => exact hv
                  | 26, _, _, hv => exact hv
                  | 27, _, _, hv => exact hv
                  | 28, _, _, hv => exact hv
                  | 29, _, _, hv => exact hv
                  | 30, _, _, hv => exact hv
                  | 31, _, _, hv => exact hv
                  | 32, _, _, hv => exact hv
                  | 33, _, _, hv => exact hv
                  | 34, _, h, _ => exact absurd h (by decide)
                  | 35, _, h, _ => exact absurd h (by decide)
                  | 36, _, h, _ => exact absurd h (by decide)
                  | 37, _, h, _ => exact absurd h (by decide)
                  | 38, _, h, _ => exact absurd h (by decide)
                  | 39, _, h, _ => exact absurd h (by decide)
                  | 40, _, h, _ => exact absurd h (by decide)
                  | 41, _, h, _ => exact absurd h (by decide)
                  | 42, _, h, _ => exact absurd h (by decide)
                  | 43, _, h, _ => exact absurd h (by decide)
                  | 44, _, h, _ => exact absurd h (by decide)
                  | 45, _, h, _ => exact absurd h (by decide)
                  | 46, _, h, _ => exact absurd h (by decide)
                  | 47, _, h, _ => exact absurd h (by decide)
                  | 48, _, h, _ => exact absurd h (by decide)
                  | 49, _, h, _ => exact absurd h (by decide)
                  | 50, _, h, _ => exact absurd h (by decide)
                  | 51, _, h, _ => exact absurd h (by decide)
                  | 52, _, h, _ => exact absurd h (by decide)
                  | 53, _, h, _ => exact absurd h (by decide)
                  | 54, _, h, _ => exact absurd h (by decide)
                  | 55, _, h, _ => exact absurd h (by decide)
                  | 56, _, h, _ => exact absurd h (by decide)
                  | 57, _, _, hv => exact hv
                  | 58, _, _, hv => exact hv
                  | 59, _, _, hv => exact hv
                  | 60, _, _, hv => exact hv
                  | 61, _, _, hv => exact hv
                  | 62, _, _, hv => exact hv
                  | 63, _, _, hv => exact hv
                  | 64, _, h, _ => exact absurd h (by decide)
                  | 65, _, h, _ => exact absurd h (by decide)
                  | kq + 66, h, _, _ => omega) (fun kq hkq w => by
                  have hlt : kq < 66 := by
                    apply Classical.byContradiction
                    intro h
                    rw [List.getD_eq_getElem?_getD, List.getElem?_eq_none (by simp; omega)] at hkq
                    simp at hkq
                  match kq, hlt, hkq with
                  | 0, _, h => exact absurd h (by decide)
                  | 1, _, h => exact absurd h (by decide)
                  | 2, _, h => exact absurd h (by decide)
                  | 3, _, h => exact absurd h (by decide)
                  | 4, _, h => exact absurd h (by decide)
                  | 5, _, h => exact absurd h (by decide)
                  | 6, _, h => exact absurd h (by decide)
                  | 7, _, h => exact absurd h (by decide)
                  | 8, _, h => exact absurd h (by decide)
                  | 9, _, h => exact absurd h (by decide)
                  | 10, _, h => exact absurd h (by decide)
                  | 11, _, h => exact absurd h (by decide)
                  | 12, _, h => exact absurd h (by decide)
                  | 13, _, h => exact absurd h (by decide)
                  | 14, _, h => exact absurd h (by decide)
                  | 15, _, h => exact absurd h (by decide)
                  | 16, _, h => exact absurd h (by decide)
                  | 17, _, h => exact absurd h (by decide)
                  | 18, _, _ => exact rfl
                  | 19, _, _ => exact rfl
                  | 20, _, _ => exact rfl
                  | 21, _, _ => exact rfl
                  | 22, _, _ => exact rfl
                  | 23, _, _ => exact rfl
                  | 24, _, _ => exact rfl
                  | 25, _, _ => exact rfl
                  | 26, _, _ => exact rfl
                  | 27, _, _ => exact rfl
                  | 28, _, _ => exact rfl
                  | 29, _, _ => exact rfl
                  | 30, _, _ => exact rfl
                  | 31, _, _ => exact rfl
                  | 32, _, _ => exact rfl
                  | 33, _, _ => exact rfl
                  | 34, _, h => exact absurd h (by decide)
                  | 35, _, h => exact absurd h (by decide)
                  | 36, _, h => exact absurd h (by decide)
                  | 37, _, h => exact absurd h (by decide)
                  | 38, _, h => exact absurd h (by decide)
                  | 39, _, h => exact absurd h (by decide)
                  | 40, _, h => exact absurd h (by decide)
                  | 41, _, h => exact absurd h (by decide)
                  | 42, _, h => exact absurd h (by decide)
                  | 43, _, h => exact absurd h (by decide)
                  | 44, _, h => exact absurd h (by decide)
                  | 45, _, h => exact absurd h (by decide)
                  | 46, _, h => exact absurd h (by decide)
                  | 47, _, h => exact absurd h (by decide)
                  | 48, _, h => exact absurd h (by decide)
                  | 49, _, h => exact absurd h (by decide)
                  | 50, _, h => exact absurd h (by decide)
                  | 51, _, h => exact absurd h (by decide)
                  | 52, _, h => exact absurd h (by decide)
                  | 53, _, h => exact absurd h (by decide)
                  | 54, _, h => exact absurd h (by decide)
                  | 55, _, h => exact absurd h (by decide)
                  | 56, _, h => exact absurd h (by decide)
                  | 57, _, _ => exact rfl
                  | 58, _, _ => exact rfl
                  | 59, _, _ => exact rfl
                  | 60, _, _ => exact rfl
                  | 61, _, _ => exact rfl
                  | 62, _, _ => exact rfl
                  | 63, _, _ => exact rfl
                  | 64, _, h => exact absurd h (by decide)
                  | 65, _, h => exact absurd h (by decide)
                  | kq + 66, h, _ => omega) ?hsteqa ?henqa
              case hsteqa =>
                intro kq o ho hw a w hI hA hd K hK
                obtain ⟨ρ, hρ⟩ : ∃ ρ, a.eval = ρ := ⟨_, rfl⟩
                rw [hρ] at hA hd
                match kq, ho with
                | 0, ho =>
                  have hoo := Option.some.inj ho
                  subst hoo
                  exact fx_val hK hρ (.int .i64 (k : Int)) (by have h := hA.tmp 10 (by decide); simp [execOp, h, go_sem]) rfl
                | 1, ho =>
                  have hoo := Option.some.inj ho
                  subst hoo
                  exact fx_val hK hρ (.pointer (some ⟨gx, 0, none⟩)) (by have h := hA.tmp 5 (by decide); simp [execOp, h, go_sem]) rfl
                | 2, ho =>
                  have hoo := Option.some.inj ho
                  subst hoo
                  have f1 : (ρ (.tmp 89)) = .pointer (some ⟨gx, 0, none⟩) := hd ⟨1, .data⟩ (by simp) (by rfl)
                  exact fx_val hK hρ _ (by have h0 := hI.1.x0; simp [execOp, f1, h0, go_sem]) rfl
                | 3, ho =>
                  have hoo := Option.some.inj ho
                  subst hoo
                  have f2 : (ρ (.tmp 90)) = .slice (some ⟨bx, ox, none⟩) n' cx := hd ⟨2, .data⟩ (by simp) (by rfl)
                  exact fx_val hK hρ (.int .i64 (n' : Int)) (by simp [execOp, f2, hA.const, go_sem]) rfl
                | 4, ho =>
                  have hoo := Option.some.inj ho
                  subst hoo
                  have f0 : (ρ (.tmp 88)) = .int .i64 (k : Int) := hd ⟨0, .data⟩ (by simp) (by rfl)
                  have f3 : (ρ (.tmp 91)) = .int .i64 (n' : Int) := hd ⟨3, .data⟩ (by simp) (by rfl)
                  exact fx_val hK hρ (.bool false) (by simp [execOp, f0, f3, hlt, go_sem]) rfl
                | 5, ho =>
                  have hoo := Option.some.inj ho
                  subst hoo
                  have f4 : (ρ (.tmp 92)) = .bool false := hd ⟨4, .data⟩ (by simp) (by rfl)
                  exact fx_val hK hρ (.bool false) (by simp [execOp, f4, hA.const, go_sem]) rfl
                | 6, ho =>
                  have hoo := Option.some.inj ho
                  subst hoo
                  exact fx_val hK hρ (.pointer (some ⟨gx, 0, none⟩)) (by have h := hA.tmp 5 (by decide); simp [execOp, h, go_sem]) rfl
                | 7, ho =>
                  have hoo := Option.some.inj ho
                  subst hoo
                  have f6 : (ρ (.tmp 94)) = .pointer (some ⟨gx, 0, none⟩) := hd ⟨6, .data⟩ (by simp) (by rfl)
                  exact fx_val hK hρ _ (by have h0 := hI.1.x0; simp [execOp, f6, h0, go_sem]) rfl
                | 8, ho =>
                  have hoo := Option.some.inj ho
                  subst hoo
                  exact fx_val hK hρ (.int .i64 (k : Int)) (by have h := hA.tmp 10 (by decide); simp [execOp, h, go_sem]) rfl
                | 9, ho =>
                  have hoo := Option.some.inj ho
                  subst hoo
                  have f7 : (ρ (.tmp 95)) = .slice (some ⟨bx, ox, none⟩) n' cx := hd ⟨7, .data⟩ (by simp) (by rfl)
                  have f8 : (ρ (.tmp 96)) = .int .i64 (k : Int) := hd ⟨8, .data⟩ (by simp) (by rfl)
                  exact fx_val hK hρ (.pointer (some ⟨bx, ox + k, none⟩)) (by simp [execOp, f7, f8, hlt, go_sem]) rfl
                | 10, ho =>
                  have hoo := Option.some.inj ho
                  subst hoo
                  have f9 : (ρ (.tmp 97)) = .pointer (some ⟨bx, ox + k, none⟩) := hd ⟨9, .data⟩ (by simp) (by rfl)
                  exact fx_val hK hρ (.int .i64 z) (by have h0 := ints_cell hI.1.k2.on HZ2.out; simp [execOp, f9, h0, go_sem]) rfl
                | 11, ho =>
                  have hoo := Option.some.inj ho
                  subst hoo
                  exact fx_val hK hρ (.pointer (some ⟨(w0.heap.size + 1), 0, none⟩)) (by have h := hA.tmp 3 (by decide); simp [execOp, h, go_sem]) rfl
                | 12, ho =>
                  have hoo := Option.some.inj ho
                  subst hoo
                  have f11 : (ρ (.tmp 99)) = .pointer (some ⟨(w0.heap.size + 1), 0, none⟩) := hd ⟨11, .data⟩ (by simp) (by rfl)
                  exact fx_val hK hρ _ (by have h0 := hI.1.b.c0; simp [execOp, f11, h0, go_sem]) rfl
                | 13, ho =>
                  have hoo := Option.some.inj ho
                  subst hoo
                  exact fx_val hK hρ (.int .i64 (k : Int)) (by have h := hA.tmp 10 (by decide); simp [execOp, h, go_sem]) rfl
                | 14, ho =>
                  have hoo := Option.some.inj ho
                  subst hoo
                  have f12 : (ρ (.tmp 100)) = .slice (some ⟨ba, oa, none⟩) n' c' := hd ⟨12, .data⟩ (by simp) (by rfl)
                  have f13 : (ρ (.tmp 101)) = .int .i64 (k : Int) := hd ⟨13, .data⟩ (by simp) (by rfl)
                  exact fx_val hK hρ (.pointer (some ⟨ba, oa + k, none⟩)) (by simp [execOp, f12, f13, hlt, go_sem]) rfl
                | 15, ho =>
                  have hoo := Option.some.inj ho
                  subst hoo
                  have f14 : (ρ (.tmp 102)) = .pointer (some ⟨ba, oa + k, none⟩) := hd ⟨14, .data⟩ (by simp) (by rfl)
                  exact fx_val hK hρ (.int .i64 y) (by have h0 := ints_cell hI.1.b.k.on HZ1.out; simp [execOp, f14, h0, go_sem]) rfl
                | 16, ho =>
                  have hoo := Option.some.inj ho
                  subst hoo
                  have f10 : (ρ (.tmp 98)) = .int .i64 z := hd ⟨10, .data⟩ (by simp) (by rfl)
                  have f15 : (ρ (.tmp 103)) = .int .i64 y := hd ⟨15, .data⟩ (by simp) (by rfl)
                  exact fx_val hK hρ (.bool false) (by have h := HNE.out; simp [execOp, f10, f15, h, go_sem]) rfl
                | 17, ho =>
                  have hoo := Option.some.inj ho
                  subst hoo
                  have f16 : (ρ (.tmp 104)) = .bool false := hd ⟨16, .data⟩ (by simp) (by rfl)
                  exact fx_val hK hρ (.bool false) (by simp [execOp, f16, hA.const, go_sem]) rfl
                | 18, ho =>
                  exact absurd hw (by decide)
                | 19, ho =>
                  exact absurd hw (by decide)
                | 20, ho =>
                  exact absurd hw (by decide)
                | 21, ho =>
                  exact absurd hw (by decide)
                | 22, ho =>
                  exact absurd hw (by decide)
                | 23, ho =>
                  exact absurd hw (by decide)
                | 24, ho =>
                  exact absurd hw (by decide)
                | 25, ho =>
                  exact absurd hw (by decide)
                | 26, ho =>
                  exact absurd hw (by decide)
                | 27, ho =>
                  exact absurd hw (by decide)
                | 28, ho =>
                  exact absurd hw (by decide)
                | 29, ho =>
                  exact absurd hw (by decide)
                | 30, ho =>
                  exact absurd hw (by decide)
                | 31, ho =>
                  exact absurd hw (by decide)
                | 32, ho =>
                  exact absurd hw (by decide)
                | 33, ho =>
                  exact absurd hw (by decide)
                | 34, ho =>
                  have hoo := Option.some.inj ho
                  subst hoo
                  have f17 : (ρ (.tmp 105)) = .bool false := hd ⟨17, .data⟩ (by simp) (by rfl)
                  exact fx_val hK hρ (.bool false) (by simp [execOp, f17, hA.const, hA.const, go_sem]) rfl
                | 35, ho =>
                  have hoo := Option.some.inj ho
                  subst hoo
                  have f5 : (ρ (.tmp 93)) = .bool false := hd ⟨5, .data⟩ (by simp) (by rfl)
                  have f34 : (ρ (.tmp 122)) = .bool false := hd ⟨34, .data⟩ (by simp) (by rfl)
                  exact fx_val hK hρ (.bool false) (by simp [execOp, f5, f34, hA.const, hA.const, go_sem]) rfl
                | 36, ho =>
                  have hoo := Option.some.inj ho
                  subst hoo
                  have f35 : (ρ (.tmp 123)) = .bool false := hd ⟨35, .data⟩ (by simp) (by rfl)
                  exact fx_val hK hρ (.bool false) (by simp [execOp, f35, hA.const, go_sem]) rfl
                | 37, ho =>
                  have hoo := Option.some.inj ho
                  subst hoo
                  exact fx_val hK hρ (.pointer (some ⟨gx, 0, none⟩)) (by have h := hA.tmp 5 (by decide); simp [execOp, h, go_sem]) rfl
                | 38, ho =>
                  have hoo := Option.some.inj ho
                  subst hoo
                  have f37 : (ρ (.tmp 125)) = .pointer (some ⟨gx, 0, none⟩) := hd ⟨37, .data⟩ (by simp) (by rfl)
                  exact fx_val hK hρ _ (by have h0 := hI.1.x0; simp [execOp, f37, h0, go_sem]) rfl
                | 39, ho =>
                  have hoo := Option.some.inj ho
                  subst hoo
                  exact fx_val hK hρ (.int .i64 (k : Int)) (by have h := hA.tmp 10 (by decide); simp [execOp, h, go_sem]) rfl
                | 40, ho =>
                  have hoo := Option.some.inj ho
                  subst hoo
                  have f38 : (ρ (.tmp 126)) = .slice (some ⟨bx, ox, none⟩) n' cx := hd ⟨38, .data⟩ (by simp) (by rfl)
                  have f39 : (ρ (.tmp 127)) = .int .i64 (k : Int) := hd ⟨39, .data⟩ (by simp) (by rfl)
                  exact fx_val hK hρ (.pointer (some ⟨bx, ox + k, none⟩)) (by simp [execOp, f38, f39, hlt, go_sem]) rfl
                | 41, ho =>
                  have hoo := Option.some.inj ho
                  subst hoo
                  have f40 : (ρ (.tmp 128)) = .pointer (some ⟨bx, ox + k, none⟩) := hd ⟨40, .data⟩ (by simp) (by rfl)
                  exact fx_val hK hρ (.int .i64 z) (by have h0 := ints_cell hI.1.k2.on HZ2.out; simp [execOp, f40, h0, go_sem]) rfl
                | 42, ho =>
                  have hoo := Option.some.inj ho
                  subst hoo
                  exact fx_val hK hρ (.pointer (some ⟨(w0.heap.size + 1), 0, none⟩)) (by have h := hA.tmp 3 (by decide); simp [execOp, h, go_sem]) rfl
                | 43, ho =>
                  have hoo := Option.some.inj ho
                  subst hoo
                  have f42 : (ρ (.tmp 130)) = .pointer (some ⟨(w0.heap.size + 1), 0, none⟩) := hd ⟨42, .data⟩ (by simp) (by rfl)
                  exact fx_val hK hρ _ (by have h0 := hI.1.b.c0; simp [execOp, f42, h0, go_sem]) rfl
                | 44, ho =>
                  have hoo := Option.some.inj ho
                  subst hoo
                  exact fx_val hK hρ (.int .i64 (k : Int)) (by have h := hA.tmp 10 (by decide); simp [execOp, h, go_sem]) rfl
                | 45, ho =>
                  have hoo := Option.some.inj ho
                  subst hoo
                  have f43 : (ρ (.tmp 131)) = .slice (some ⟨ba, oa, none⟩) n' c' := hd ⟨43, .data⟩ (by simp) (by rfl)
                  have f44 : (ρ (.tmp 132)) = .int .i64 (k : Int) := hd ⟨44, .data⟩ (by simp) (by rfl)
                  exact fx_val hK hρ (.pointer (some ⟨ba, oa + k, none⟩)) (by simp [execOp, f43, f44, hlt, go_sem]) rfl
                | 46, ho =>
                  have hoo := Option.some.inj ho
                  subst hoo
                  have f45 : (ρ (.tmp 133)) = .pointer (some ⟨ba, oa + k, none⟩) := hd ⟨45, .data⟩ (by simp) (by rfl)
                  exact fx_val hK hρ (.int .i64 y) (by have h0 := ints_cell hI.1.b.k.on HZ1.out; simp [execOp, f45, h0, go_sem]) rfl
                | 47, ho =>
                  have hoo := Option.some.inj ho
                  subst hoo
                  have f41 : (ρ (.tmp 129)) = .int .i64 z := hd ⟨41, .data⟩ (by simp) (by rfl)
                  have f46 : (ρ (.tmp 134)) = .int .i64 y := hd ⟨46, .data⟩ (by simp) (by rfl)
                  exact fx_val hK hρ (.bool true) (by have h := HEQ.out; simp [execOp, f41, f46, h, go_sem]) rfl
                | 48, ho =>
                  have hoo := Option.some.inj ho
                  subst hoo
                  have f47 : (ρ (.tmp 135)) = .bool true := hd ⟨47, .data⟩ (by simp) (by rfl)
                  exact fx_val hK hρ (.bool true) (by simp [execOp, f47, hA.const, go_sem]) rfl
                | 49, ho =>
                  have hoo := Option.some.inj ho
                  subst hoo
                  exact fx_val hK hρ (.pointer (some ⟨(w0.heap.size + 1), 0, none⟩)) (by have h := hA.tmp 3 (by decide); simp [execOp, h, go_sem]) rfl
                | 50, ho =>
                  have hoo := Option.some.inj ho
                  subst hoo
                  have f49 : (ρ (.tmp 137)) = .pointer (some ⟨(w0.heap.size + 1), 0, none⟩) := hd ⟨49, .data⟩ (by simp) (by rfl)
                  exact fx_val hK hρ _ (by have h0 := hI.1.b.c0; simp [execOp, f49, h0, go_sem]) rfl
                | 51, ho =>
                  have hoo := Option.some.inj ho
                  subst hoo
                  exact fx_val hK hρ (.int .i64 (k : Int)) (by have h := hA.tmp 10 (by decide); simp [execOp, h, go_sem]) rfl
                | 52, ho =>
                  have hoo := Option.some.inj ho
                  subst hoo
                  have f50 : (ρ (.tmp 138)) = .slice (some ⟨ba, oa, none⟩) n' c' := hd ⟨50, .data⟩ (by simp) (by rfl)
                  have f51 : (ρ (.tmp 139)) = .int .i64 (k : Int) := hd ⟨51, .data⟩ (by simp) (by rfl)
                  exact fx_val hK hρ (.pointer (some ⟨ba, oa + k, none⟩)) (by simp [execOp, f50, f51, hlt, go_sem]) rfl
                | 53, ho =>
                  have hoo := Option.some.inj ho
                  subst hoo
                  have f52 : (ρ (.tmp 140)) = .pointer (some ⟨ba, oa + k, none⟩) := hd ⟨52, .data⟩ (by simp) (by rfl)
                  exact fx_val hK hρ (.int .i64 y) (by have h0 := ints_cell hI.1.b.k.on HZ1.out; simp [execOp, f52, h0, go_sem]) rfl
                | 54, ho =>
                  have hoo := Option.some.inj ho
                  subst hoo
                  have f53 : (ρ (.tmp 141)) = .int .i64 y := hd ⟨53, .data⟩ (by simp) (by rfl)
                  exact fx_val hK hρ (.bool false) (by have h := HGE.out; simp [execOp, f53, h, hA.const, go_sem]) rfl
                | 55, ho =>
                  have hoo := Option.some.inj ho
                  subst hoo
                  have f48 : (ρ (.tmp 136)) = .bool true := hd ⟨48, .data⟩ (by simp) (by rfl)
                  have f54 : (ρ (.tmp 142)) = .bool false := hd ⟨54, .data⟩ (by simp) (by rfl)
                  exact fx_val hK hρ (.bool false) (by simp [execOp, f48, f54, hA.const, hA.const, go_sem]) rfl
                | 56, ho =>
                  have hoo := Option.some.inj ho
                  subst hoo
                  have f55 : (ρ (.tmp 143)) = .bool false := hd ⟨55, .data⟩ (by simp) (by rfl)
                  exact fx_val hK hρ (.bool false) (by simp [execOp, f55, hA.const, go_sem]) rfl
                | 57, ho =>
                  exact absurd hw (by decide)
                | 58, ho =>
                  exact absurd hw (by decide)
                | 59, ho =>
                  exact absurd hw (by decide)
                | 60, ho =>
                  exact absurd hw (by decide)
                | 61, ho =>
                  exact absurd hw (by decide)
                | 62, ho =>
                  exact absurd hw (by decide)
                | 63, ho =>
                  exact absurd hw (by decide)
                | 64, ho =>
                  have hoo := Option.some.inj ho
                  subst hoo
                  have f56 : (ρ (.tmp 144)) = .bool false := hd ⟨56, .data⟩ (by simp) (by rfl)
                  exact fx_val hK hρ (.bool false) (by simp [execOp, f56, hA.const, hA.const, go_sem]) rfl
                | 65, ho =>
                  have hoo := Option.some.inj ho
                  subst hoo
                  have f36 : (ρ (.tmp 124)) = .bool false := hd ⟨36, .data⟩ (by simp) (by rfl)
                  have f64 : (ρ (.tmp 152)) = .bool false := hd ⟨64, .data⟩ (by simp) (by rfl)
                  exact fx_val hK hρ (.bool false) (by simp [execOp, f36, f64, hA.const, hA.const, go_sem]) rfl
                | kq + 66, ho => simp at ho
              case henqa =>
                intro vals9 xw hI hF
                have fz : vals9 153 = .bool false := hF 65 (by decide)
                simp only [fillA, fillL, List.contains_cons, List.contains_nil, Nat.reduceBEq, Bool.or_false, Bool.false_or, Bool.or_true, Bool.true_or, cond_true, cond_false, Nat.zero_add, Nat.reduceAdd]
                rw [fz]
                have BL2 := Lib.hid hI
                clear hF hI fz
                go_wp2
                go_roundw
                case rel => exact ⟨k + 1, by omega, by go_num, BL2⟩
                case measure => simp [intOf]; omega
            · by_cases hd1 : leftC L y = 1
              · rw [if_pos ⟨hy1, hd1⟩] at h2
                obtain ⟨z, hz⟩ : ∃ z : Int, -1 = z := ⟨_, rfl⟩
                rw [hz] at h2
                have HZ2 := Lib.hid h2
                have HNE : Hid ((z != y) = true) := Lib.hid (by rw [← hz]; exact bne_iff_ne.mpr (fun q => hy1 q.symm))
                have HN1 : Hid ((z != -1) = false) := Lib.hid (by rw [← hz]; rfl)
                have HEQ : Hid ((z == y) = false) := Lib.hid (by rw [← hz]; exact beq_eq_false_iff_ne.mpr (fun q => hy1 q.symm))
                have HHB : Hid (y ∈ D2) := Lib.hid (h3.mpr ⟨hy1, hd1⟩)
                clear h2 h3 h4 hy1 hz hd1
                go_wp2_with fail
                refine wp_region_skips' [88, 89, 90, 91, 92, 93, 94, 95, 96, 97, 98, 99, 100, 101, 102, 103, 104, 105, 106, 107, 108, 109, 110, 111, 112, 113, 114, 115, 116, 117, 118, 119, 120, 121, 122, 123, 124, 125, 126, 127, 128, 129, 130, 131, 132, 133, 134, 135, 136, 137, 138, 139, 140, 141, 142, 143, 144, 145, 146, 147, 148, 149, 150, 151, 152, 153] [true, true, true, true, true, true, true, true, true, true, true, true, true, true, true, true, true, true, true, true, true, true, true, true, true, true, true, true, true, true, true, true, true, true, true, true, true, true, true, true, true, true, true, true, true, true, true, true, true, false, false, false, false, false, false, true, true, false, false, false, false, false, false, false, true, true] [(5, false), (17, true), (24, false), (36, false), (48, false), (56, false)] (by kernel_rfl) (by kernel_rfl) (by kernel_rfl) (by intro d hd; simp at hd ⊢; omega) (fun x => BxFx w0 A n c F m d W E (some ⟨ba, oa, none⟩) n' c' F' m' d' O L gx (some ⟨bx, ox, none⟩) cx Fx dx O2 L2 x ∧ Ints x x.heap.size Al D2) (PhiT17b w0.heap.size gx bx ox n' cx ba oa c' k y z Al dn cl)
                  (fun x y h hb => ⟨h.1.next hb, (h.2.below hb).more hb.size⟩) (phiT17b_below w0.heap.size gx bx ox n' cx ba oa c' k y z Al dn cl) (⟨BL.out.1.next (Below.refl _ _).drew, (BL.out.2.below (Below.refl _ _).drew).more (Below.refl 0 _).drew.size⟩) (fun p hp v w hv => by
                    simp only [List.mem_cons, List.not_mem_nil, or_false] at hp
                    rcases hp with rfl | rfl | rfl | rfl | rfl | rfl <;> exact hv) (fun kq hkq v w hv => by
                    have hlt : kq < 66 := by
                      apply Classical.byContradiction
                      intro h
                      rw [List.getD_eq_getElem?_getD, List.getElem?_eq_none (by simp; omega)] at hkq
                      simp at hkq
                    match kq, hlt, hkq, hv with
                    | 0, _, h, _ => exact absurd h (by decide)
                    | 1, _, h, _ => exact absurd h (by decide)
                    | 2, _, h, _ => exact absurd h (by decide)
                    | 3, _, h, _ => exact absurd h (by decide)
                    | 4, _, h, _ => exact absurd h (by decide)
                    | 5, _, h, _ => exact absurd h (by decide)
                    | 6, _, h, _ => exact absurd h (by decide)
                    | 7, _, h, _ => exact absurd h (by decide)
                    | 8, _, h, _ => exact absurd h (by decide)
                    | 9, _, h, _ => exact absurd h (by decide)
                    | 10, _, h, _ => exact absurd h (by decide)
                    | 11, _, h, _ => exact absurd h (by decide)
                    | 12, _, h, _ => exact absurd h (by decide)
                    | 13, _, h, _ => exact absurd h (by decide)
                    | 14, _, h, _ => exact absurd h (by decide)
                    | 15, _, h, _ => exact absurd h (by decide)
                    | 16, _, h, _ => exact absurd h (by decide)
                    | 17, _, h, _ => exact absurd h (by decide)
                    | 18, _, h, _ => exact absurd h (by decide)
                    | 19, _, h, _ => exact absurd h (by decide)
                    | 20, _, h, _ => exact absurd h (by decide)
                    | 21, _, h, _ => exact absurd h (by decide)
                    | 22, _, h, _ => exact absurd h (by decide)
                    | 23, _, h, _ => exact absurd h (by decide)
                    | 24, _, h, _ => exact absurd h (by decide)
                    | 25, _, h, _ => exact absurd h (by decide)
                    | 26, _, h, _ => exact absurd h (by decide)
                    | 27, _, h, _ => exact absurd h (by decide)
                    | 28, _, h, _ => exact absurd h (by decide)
                    | 29, _, h, _ => exact absurd h (by decide)
                    | 30, _, h, _ => exact absurd h (by decide)
                    | 31, _, h, _ => exact absurd h (by decide)
                    | 32, _, h, _ => exact absurd h (by decide)
                    | 33, _, h, _ => exact absurd h (by decide)
                    | 34, _, h, _ => exact absurd h (by decide)
                    | 35, _, h, _ => exact absurd h (by decide)
                    | 36, _, h, _ => exact absurd h (by decide)
                    | 37, _, h, _ => exact absurd h (by decide)
                    | 38, _, h, _ => exact absurd h (by decide)
                    | 39, _, h, _ => exact absurd h (by decide)
                    | 40, _, h, _ => exact absurd h (by decide)
                    | 41, _, h, _ => exact absurd h (by decide)
                    | 42, _, h, _ => exact absurd h (by decide)
                    | 43, _, h, _ => exact absurd h (by decide)
                    | 44, _, h, _ => exact absurd h (by decide)
                    | 45, _, h, _ => exact absurd h (by decide)
                    | 46, _, h, _ => exact absurd h (by decide)
                    | 47, _, h, _ => exact absurd h (by decide)
                    | 48, _, h, _ => exact absurd h (by decide)
                    | 49, _, _, hv => exact hv
                    | 50, _, _, hv => exact hv
                    | 51, _, _, hv => exact hv
                    | 52, _, _, hv => exact hv
                    | 53, _, _, hv => exact hv
                    | 54, _, _, hv => exact hv
                    | 55, _, h, _ => exact absurd h (by decide)
                    | 56, _, h, _ => exact absurd h (by decide)
                    | 57, _, _, hv => exact hv
                    | 58, _, _, hv => exact hv
                    | 59, _, _, hv => exact hv
                    | 60, _, _, hv => exact hv
                    | 61, _, _, hv => exact hv
                    | 62, _, _, hv => exact hv
                    | 63, _, _, hv => exact hv
                    | 64, _, h, _ => exact absurd h (by decide)
                    | 65, _, h, _ => exact absurd h (by decide)
                    | kq + 66, h, _, _ => omega) (fun kq hkq w => by
                    have hlt : kq < 66 := by
                      apply Classical.byContradiction
                      intro h
                      rw [List.getD_eq_getElem?_getD, List.getElem?_eq_none (by simp; omega)] at hkq
                      simp at hkq
                    match kq, hlt, hkq with
                    | 0, _, h => exact absurd h (by decide)
                    | 1, _, h => exact absurd h (by decide)
                    | 2, _, h => exact absurd h (by decide)
                    | 3, _, h => exact absurd h (by decide)
                    | 4, _, h => exact absurd h (by decide)
                    | 5, _, h => exact absurd h (by decide)
                    | 6, _, h => exact absurd h (by decide)
                    | 7, _, h => exact absurd h (by decide)
                    | 8, _, h => exact absurd h (by decide)
                    | 9, _, h => exact absurd h (by decide)
                    | 10, _, h => exact absurd h (by decide)
                    | 11, _, h => exact absurd h (by decide)
                    | 12, _, h => exact absurd h (by decide)
                    | 13, _, h => exact absurd h (by decide)
                    | 14, _, h => exact absurd h (by decide)
                    | 15, _, h => exact absurd h (by decide)
                    | 16, _, h => exact absurd h (by decide)
                    | 17, _, h => exact absurd h (by decide)
                    | 18, _, h => exact absurd h (by decide)
                    | 19, _, h => exact absurd h (by decide)
                    | 20, _, h => exact absurd h (by decide)
                    | 21, _, h => exact absurd h (by decide)
                    | 22, _, h => exact absurd h (by decide)
                    | 23, _, h => exact absurd h (by decide)
                    | 24, _, h => exact absurd h (by decide)
                    | 25, _, h => exact absurd h (by decide)
                    | 26, _, h => exact absurd h (by decide)
                    | 27, _, h => exact absurd h (by decide)
                    | 28, _, h => exact absurd h (by decide)
                    | 29, _, h => exact absurd h (by decide)
                    | 30, _, h => exact absurd h (by decide)
                    | 31, _, h => exact absurd h (by decide)
                    | 32, _, h => exact absurd h (by decide)
                    | 33, _, h => exact absurd h (by decide)
                    | 34, _, h => exact absurd h (by decide)
                    | 35, _, h => exact absurd h (by decide)
                    | 36, _, h => exact absurd h (by decide)
                    | 37, _, h => exact absurd h (by decide)
                    | 38, _, h => exact absurd h (by decide)
                    | 39, _, h => exact absurd h (by decide)
                    | 40, _, h => exact absurd h (by decide)
                    | 41, _, h => exact absurd h (by decide)
                    | 42, _, h => exact absurd h (by decide)
                    | 43, _, h => exact absurd h (by decide)
                    | 44, _, h => exact absurd h (by decide)
                    | 45, _, h => exact absurd h (by decide)
                    | 46, _, h => exact absurd h (by decide)
                    | 47, _, h => exact absurd h (by decide)
                    | 48, _, h => exact absurd h (by decide)
                    | 49, _, _ => exact rfl
                    | 50, _, _ => exact rfl
                    | 51, _, _ => exact rfl
                    | 52, _, _ => exact rfl
                    | 53, _, _ => exact rfl
                    | 54, _, _ => exact rfl
                    | 55, _, h => exact absurd h (by decide)
                    | 56, _, h => exact absurd h (by decide)
                    | 57, _, _ => exact rfl
                    | 58, _, _ => exact rfl
                    | 59, _, _ => exact rfl
                    | 60, _, _ => exact rfl
                    | 61, _, _ => exact rfl
                    | 62, _, _ => exact rfl
                    | 63, _, _ => exact rfl
                    | 64, _, h => exact absurd h (by decide)
                    | 65, _, h => exact absurd h (by decide)
                    | kq + 66, h, _ => omega) ?hsteqb ?henqb
                case hsteqb =>
                  intro kq o ho hw a w hI hA hd K hK
                  obtain ⟨ρ, hρ⟩ : ∃ ρ, a.eval = ρ := ⟨_, rfl⟩
                  rw [hρ] at hA hd
                  match kq, ho with
                  | 0, ho =>
                    have hoo := Option.some.inj ho
                    subst hoo
                    exact fx_val hK hρ (.int .i64 (k : Int)) (by have h := hA.tmp 10 (by decide); simp [execOp, h, go_sem]) rfl
                  | 1, ho =>
                    have hoo := Option.some.inj ho
                    subst hoo
                    exact fx_val hK hρ (.pointer (some ⟨gx, 0, none⟩)) (by have h := hA.tmp 5 (by decide); simp [execOp, h, go_sem]) rfl
                  | 2, ho =>
                    have hoo := Option.some.inj ho
                    subst hoo
                    have f1 : (ρ (.tmp 89)) = .pointer (some ⟨gx, 0, none⟩) := hd ⟨1, .data⟩ (by simp) (by rfl)
                    exact fx_val hK hρ _ (by have h0 := hI.1.x0; simp [execOp, f1, h0, go_sem]) rfl
                  | 3, ho =>
                    have hoo := Option.some.inj ho
                    subst hoo
                    have f2 : (ρ (.tmp 90)) = .slice (some ⟨bx, ox, none⟩) n' cx := hd ⟨2, .data⟩ (by simp) (by rfl)
                    exact fx_val hK hρ (.int .i64 (n' : Int)) (by simp [execOp, f2, hA.const, go_sem]) rfl
                  | 4, ho =>
                    have hoo := Option.some.inj ho
                    subst hoo
                    have f0 : (ρ (.tmp 88)) = .int .i64 (k : Int) := hd ⟨0, .data⟩ (by simp) (by rfl)
                    have f3 : (ρ (.tmp 91)) = .int .i64 (n' : Int) := hd ⟨3, .data⟩ (by simp) (by rfl)
                    exact fx_val hK hρ (.bool false) (by simp [execOp, f0, f3, hlt, go_sem]) rfl
                  | 5, ho =>
                    have hoo := Option.some.inj ho
                    subst hoo
                    have f4 : (ρ (.tmp 92)) = .bool false := hd ⟨4, .data⟩ (by simp) (by rfl)
                    exact fx_val hK hρ (.bool false) (by simp [execOp, f4, hA.const, go_sem]) rfl
                  | 6, ho =>
                    have hoo := Option.some.inj ho
                    subst hoo
                    exact fx_val hK hρ (.pointer (some ⟨gx, 0, none⟩)) (by have h := hA.tmp 5 (by decide); simp [execOp, h, go_sem]) rfl
                  | 7, ho =>
                    have hoo := Option.some.inj ho
                    subst hoo
                    have f6 : (ρ (.tmp 94)) = .pointer (some ⟨gx, 0, none⟩) := hd ⟨6, .data⟩ (by simp) (by rfl)
                    exact fx_val hK hρ _ (by have h0 := hI.1.x0; simp [execOp, f6, h0, go_sem]) rfl
                  | 8, ho =>
                    have hoo := Option.some.inj ho
                    subst hoo
                    exact fx_val hK hρ (.int .i64 (k : Int)) (by have h := hA.tmp 10 (by decide); simp [execOp, h, go_sem]) rfl
                  | 9, ho =>
                    have hoo := Option.some.inj ho
                    subst hoo
                    have f7 : (ρ (.tmp 95)) = .slice (some ⟨bx, ox, none⟩) n' cx := hd ⟨7, .data⟩ (by simp) (by rfl)
                    have f8 : (ρ (.tmp 96)) = .int .i64 (k : Int) := hd ⟨8, .data⟩ (by simp) (by rfl)
                    exact fx_val hK hρ (.pointer (some ⟨bx, ox + k, none⟩)) (by simp [execOp, f7, f8, hlt, go_sem]) rfl
                  | 10, ho =>
                    have hoo := Option.some.inj ho
                    subst hoo
                    have f9 : (ρ (.tmp 97)) = .pointer (some ⟨bx, ox + k, none⟩) := hd ⟨9, .data⟩ (by simp) (by rfl)
                    exact fx_val hK hρ (.int .i64 z) (by have h0 := ints_cell hI.1.k2.on HZ2.out; simp [execOp, f9, h0, go_sem]) rfl
                  | 11, ho =>
                    have hoo := Option.some.inj ho
                    subst hoo
                    exact fx_val hK hρ (.pointer (some ⟨(w0.heap.size + 1), 0, none⟩)) (by have h := hA.tmp 3 (by decide); simp [execOp, h, go_sem]) rfl
                  | 12, ho =>
                    have hoo := Option.some.inj ho
                    subst hoo
                    have f11 : (ρ (.tmp 99)) = .pointer (some ⟨(w0.heap.size + 1), 0, none⟩) := hd ⟨11, .data⟩ (by simp) (by rfl)
                    exact fx_val hK hρ _ (by have h0 := hI.1.b.c0; simp [execOp, f11, h0, go_sem]) rfl
                  | 13, ho =>
                    have hoo := Option.some.inj ho
                    subst hoo
                    exact fx_val hK hρ (.int .i64 (k : Int)) (by have h := hA.tmp 10 (by decide); simp [execOp, h, go_sem]) rfl
                  | 14, ho =>
                    have hoo := Option.some.inj ho
                    subst hoo
                    have f12 : (ρ (.tmp 100)) = .slice (some ⟨ba, oa, none⟩) n' c' := hd ⟨12, .data⟩ (by simp) (by rfl)
                    have f13 : (ρ (.tmp 101)) = .int .i64 (k : Int) := hd ⟨13, .data⟩ (by simp) (by rfl)
                    exact fx_val hK hρ (.pointer (some ⟨ba, oa + k, none⟩)) (by simp [execOp, f12, f13, hlt, go_sem]) rfl
                  | 15, ho =>
                    have hoo := Option.some.inj ho
                    subst hoo
                    have f14 : (ρ (.tmp 102)) = .pointer (some ⟨ba, oa + k, none⟩) := hd ⟨14, .data⟩ (by simp) (by rfl)
                    exact fx_val hK hρ (.int .i64 y) (by have h0 := ints_cell hI.1.b.k.on HZ1.out; simp [execOp, f14, h0, go_sem]) rfl
                  | 16, ho =>
                    have hoo := Option.some.inj ho
                    subst hoo
                    have f10 : (ρ (.tmp 98)) = .int .i64 z := hd ⟨10, .data⟩ (by simp) (by rfl)
                    have f15 : (ρ (.tmp 103)) = .int .i64 y := hd ⟨15, .data⟩ (by simp) (by rfl)
                    exact fx_val hK hρ (.bool true) (by have h := HNE.out; simp [execOp, f10, f15, h, go_sem]) rfl
                  | 17, ho =>
                    have hoo := Option.some.inj ho
                    subst hoo
                    have f16 : (ρ (.tmp 104)) = .bool true := hd ⟨16, .data⟩ (by simp) (by rfl)
                    exact fx_val hK hρ (.bool true) (by simp [execOp, f16, hA.const, go_sem]) rfl
                  | 18, ho =>
                    have hoo := Option.some.inj ho
                    subst hoo
                    exact fx_val hK hρ (.pointer (some ⟨gx, 0, none⟩)) (by have h := hA.tmp 5 (by decide); simp [execOp, h, go_sem]) rfl
                  | 19, ho =>
                    have hoo := Option.some.inj ho
                    subst hoo
                    have f18 : (ρ (.tmp 106)) = .pointer (some ⟨gx, 0, none⟩) := hd ⟨18, .data⟩ (by simp) (by rfl)
                    exact fx_val hK hρ _ (by have h0 := hI.1.x0; simp [execOp, f18, h0, go_sem]) rfl
                  | 20, ho =>
                    have hoo := Option.some.inj ho
                    subst hoo
                    exact fx_val hK hρ (.int .i64 (k : Int)) (by have h := hA.tmp 10 (by decide); simp [execOp, h, go_sem]) rfl
                  | 21, ho =>
                    have hoo := Option.some.inj ho
                    subst hoo
                    have f19 : (ρ (.tmp 107)) = .slice (some ⟨bx, ox, none⟩) n' cx := hd ⟨19, .data⟩ (by simp) (by rfl)
                    have f20 : (ρ (.tmp 108)) = .int .i64 (k : Int) := hd ⟨20, .data⟩ (by simp) (by rfl)
                    exact fx_val hK hρ (.pointer (some ⟨bx, ox + k, none⟩)) (by simp [execOp, f19, f20, hlt, go_sem]) rfl
                  | 22, ho =>
                    have hoo := Option.some.inj ho
                    subst hoo
                    have f21 : (ρ (.tmp 109)) = .pointer (some ⟨bx, ox + k, none⟩) := hd ⟨21, .data⟩ (by simp) (by rfl)
                    exact fx_val hK hρ (.int .i64 z) (by have h0 := ints_cell hI.1.k2.on HZ2.out; simp [execOp, f21, h0, go_sem]) rfl
                  | 23, ho =>
                    have hoo := Option.some.inj ho
                    subst hoo
                    have f22 : (ρ (.tmp 110)) = .int .i64 z := hd ⟨22, .data⟩ (by simp) (by rfl)
                    exact fx_val hK hρ (.bool false) (by have h := HN1.out; simp [execOp, f22, h, hA.const, go_sem]) rfl
                  | 24, ho =>
                    have hoo := Option.some.inj ho
                    subst hoo
                    have f23 : (ρ (.tmp 111)) = .bool false := hd ⟨23, .data⟩ (by simp) (by rfl)
                    exact fx_val hK hρ (.bool false) (by simp [execOp, f23, hA.const, go_sem]) rfl
                  | 25, ho =>
                    have hoo := Option.some.inj ho
                    subst hoo
                    exact fx_val hK hρ (.slice Al dn cl) (by have h := hA.tmp 6 (by decide); simp [execOp, h, go_sem]) rfl
                  | 26, ho =>
                    have hoo := Option.some.inj ho
                    subst hoo
                    exact fx_val hK hρ (.pointer (some ⟨(w0.heap.size + 1), 0, none⟩)) (by have h := hA.tmp 3 (by decide); simp [execOp, h, go_sem]) rfl
                  | 27, ho =>
                    have hoo := Option.some.inj ho
                    subst hoo
                    have f26 : (ρ (.tmp 114)) = .pointer (some ⟨(w0.heap.size + 1), 0, none⟩) := hd ⟨26, .data⟩ (by simp) (by rfl)
                    exact fx_val hK hρ _ (by have h0 := hI.1.b.c0; simp [execOp, f26, h0, go_sem]) rfl
                  | 28, ho =>
                    have hoo := Option.some.inj ho
                    subst hoo
                    exact fx_val hK hρ (.int .i64 (k : Int)) (by have h := hA.tmp 10 (by decide); simp [execOp, h, go_sem]) rfl
                  | 29, ho =>
                    have hoo := Option.some.inj ho
                    subst hoo
                    have f27 : (ρ (.tmp 115)) = .slice (some ⟨ba, oa, none⟩) n' c' := hd ⟨27, .data⟩ (by simp) (by rfl)
                    have f28 : (ρ (.tmp 116)) = .int .i64 (k : Int) := hd ⟨28, .data⟩ (by simp) (by rfl)
                    exact fx_val hK hρ (.pointer (some ⟨ba, oa + k, none⟩)) (by simp [execOp, f27, f28, hlt, go_sem]) rfl
                  | 30, ho =>
                    have hoo := Option.some.inj ho
                    subst hoo
                    have f29 : (ρ (.tmp 117)) = .pointer (some ⟨ba, oa + k, none⟩) := hd ⟨29, .data⟩ (by simp) (by rfl)
                    exact fx_val hK hρ (.int .i64 y) (by have h0 := ints_cell hI.1.b.k.on HZ1.out; simp [execOp, f29, h0, go_sem]) rfl
                  | 31, ho =>
                    have hoo := Option.some.inj ho
                    subst hoo
                    have f25 : (ρ (.tmp 113)) = .slice Al dn cl := hd ⟨25, .data⟩ (by simp) (by rfl)
                    have f30 : (ρ (.tmp 118)) = .int .i64 y := hd ⟨30, .data⟩ (by simp) (by rfl)
                    exact fx_call hK hρ 35 _ _ #[.slice Al dn cl, .int .i64 y] rfl (by simp only [List.map_toArray, List.map_cons, List.map_nil, hA.const, f25, f30]) (eg_of Tryd.func35 (by kernel_rfl) rfl) ((has_is w hI.2 HDN.out.1 HDN.out.2 true ⟨fun _ => rfl, fun _ => HHB.out⟩).mono fun e w' ⟨he, hb⟩ => ⟨_, he, rfl, hb⟩)
                  | 32, ho =>
                    have hoo := Option.some.inj ho
                    subst hoo
                    have f31 : (ρ (.tmp 119)) = .bool true := hd ⟨31, .data⟩ (by simp) (by rfl)
                    exact fx_val hK hρ (.bool false) (by simp [execOp, f31, hA.const, go_sem]) rfl
                  | 33, ho =>
                    have hoo := Option.some.inj ho
                    subst hoo
                    have f24 : (ρ (.tmp 112)) = .bool false := hd ⟨24, .data⟩ (by simp) (by rfl)
                    have f32 : (ρ (.tmp 120)) = .bool false := hd ⟨32, .data⟩ (by simp) (by rfl)
                    exact fx_val hK hρ (.bool false) (by simp [execOp, f24, f32, hA.const, hA.const, go_sem]) rfl
                  | 34, ho =>
                    have hoo := Option.some.inj ho
                    subst hoo
                    have f17 : (ρ (.tmp 105)) = .bool true := hd ⟨17, .data⟩ (by simp) (by rfl)
                    have f33 : (ρ (.tmp 121)) = .bool false := hd ⟨33, .data⟩ (by simp) (by rfl)
                    exact fx_val hK hρ (.bool false) (by simp [execOp, f17, f33, hA.const, hA.const, go_sem]) rfl
                  | 35, ho =>
                    have hoo := Option.some.inj ho
                    subst hoo
                    have f5 : (ρ (.tmp 93)) = .bool false := hd ⟨5, .data⟩ (by simp) (by rfl)
                    have f34 : (ρ (.tmp 122)) = .bool false := hd ⟨34, .data⟩ (by simp) (by rfl)
                    exact fx_val hK hρ (.bool false) (by simp [execOp, f5, f34, hA.const, hA.const, go_sem]) rfl
                  | 36, ho =>
                    have hoo := Option.some.inj ho
                    subst hoo
                    have f35 : (ρ (.tmp 123)) = .bool false := hd ⟨35, .data⟩ (by simp) (by rfl)
                    exact fx_val hK hρ (.bool false) (by simp [execOp, f35, hA.const, go_sem]) rfl
                  | 37, ho =>
                    have hoo := Option.some.inj ho
                    subst hoo
                    exact fx_val hK hρ (.pointer (some ⟨gx, 0, none⟩)) (by have h := hA.tmp 5 (by decide); simp [execOp, h, go_sem]) rfl
                  | 38, ho =>
                    have hoo := Option.some.inj ho
                    subst hoo
                    have f37 : (ρ (.tmp 125)) = .pointer (some ⟨gx, 0, none⟩) := hd ⟨37, .data⟩ (by simp) (by rfl)
                    exact fx_val hK hρ _ (by have h0 := hI.1.x0; simp [execOp, f37, h0, go_sem]) rfl
                  | 39, ho =>
                    have hoo := Option.some.inj ho
                    subst hoo
                    exact fx_val hK hρ (.int .i64 (k : Int)) (by have h := hA.tmp 10 (by decide); simp [execOp, h, go_sem]) rfl
                  | 40, ho =>
                    have hoo := Option.some.inj ho
                    subst hoo
                    have f38 : (ρ (.tmp 126)) = .slice (some ⟨bx, ox, none⟩) n' cx := hd ⟨38, .data⟩ (by simp) (by rfl)
                    have f39 : (ρ (.tmp 127)) = .int .i64 (k : Int) := hd ⟨39, .data⟩ (by simp) (by rfl)
                    exact fx_val hK hρ (.pointer (some ⟨bx, ox + k, none⟩)) (by simp [execOp, f38, f39, hlt, go_sem]) rfl
                  | 41, ho =>
                    have hoo := Option.some.inj ho
                    subst hoo
                    have f40 : (ρ (.tmp 128)) = .pointer (some ⟨bx, ox + k, none⟩) := hd ⟨40, .data⟩ (by simp) (by rfl)
                    exact fx_val hK hρ (.int .i64 z) (by have h0 := ints_cell hI.1.k2.on HZ2.out; simp [execOp, f40, h0, go_sem]) rfl
                  | 42, ho =>
                    have hoo := Option.some.inj ho
                    subst hoo
                    exact fx_val hK hρ (.pointer (some ⟨(w0.heap.size + 1), 0, none⟩)) (by have h := hA.tmp 3 (by decide); simp [execOp, h, go_sem]) rfl
                  | 43, ho =>
                    have hoo := Option.some.inj ho
                    subst hoo
                    have f42 : (ρ (.tmp 130)) = .pointer (some ⟨(w0.heap.size + 1), 0, none⟩) := hd ⟨42, .data⟩ (by simp) (by rfl)
                    exact fx_val hK hρ _ (by have h0 := hI.1.b.c0; simp [execOp, f42, h0, go_sem]) rfl
                  | 44, ho =>
                    have hoo := Option.some.inj ho
                    subst hoo
                    exact fx_val hK hρ (.int .i64 (k : Int)) (by have h := hA.tmp 10 (by decide); simp [execOp, h, go_sem]) rfl
                  | 45, ho =>
                    have hoo := Option.some.inj ho
                    subst hoo
                    have f43 : (ρ (.tmp 131)) = .slice (some ⟨ba, oa, none⟩) n' c' := hd ⟨43, .data⟩ (by simp) (by rfl)
                    have f44 : (ρ (.tmp 132)) = .int .i64 (k : Int) := hd ⟨44, .data⟩ (by simp) (by rfl)
                    exact fx_val hK hρ (.pointer (some ⟨ba, oa + k, none⟩)) (by simp [execOp, f43, f44, hlt, go_sem]) rfl
                  | 46, ho =>
                    have hoo := Option.some.inj ho
                    subst hoo
                    have f45 : (ρ (.tmp 133)) = .pointer (some ⟨ba, oa + k, none⟩) := hd ⟨45, .data⟩ (by simp) (by rfl)
                    exact fx_val hK hρ (.int .i64 y) (by have h0 := ints_cell hI.1.b.k.on HZ1.out; simp [execOp, f45, h0, go_sem]) rfl
                  | 47, ho =>
                    have hoo := Option.some.inj ho
                    subst hoo
                    have f41 : (ρ (.tmp 129)) = .int .i64 z := hd ⟨41, .data⟩ (by simp) (by rfl)
                    have f46 : (ρ (.tmp 134)) = .int .i64 y := hd ⟨46, .data⟩ (by simp) (by rfl)
                    exact fx_val hK hρ (.bool false) (by have h := HEQ.out; simp [execOp, f41, f46, h, go_sem]) rfl
                  | 48, ho =>
                    have hoo := Option.some.inj ho
                    subst hoo
                    have f47 : (ρ (.tmp 135)) = .bool false := hd ⟨47, .data⟩ (by simp) (by rfl)
                    exact fx_val hK hρ (.bool false) (by simp [execOp, f47, hA.const, go_sem]) rfl
                  | 49, ho =>
                    exact absurd hw (by decide)
                  | 50, ho =>
                    exact absurd hw (by decide)
                  | 51, ho =>
                    exact absurd hw (by decide)
                  | 52, ho =>
                    exact absurd hw (by decide)
                  | 53, ho =>
                    exact absurd hw (by decide)
                  | 54, ho =>
                    exact absurd hw (by decide)
                  | 55, ho =>
                    have hoo := Option.some.inj ho
                    subst hoo
                    have f48 : (ρ (.tmp 136)) = .bool false := hd ⟨48, .data⟩ (by simp) (by rfl)
                    exact fx_val hK hρ (.bool false) (by simp [execOp, f48, hA.const, hA.const, go_sem]) rfl
                  | 56, ho =>
                    have hoo := Option.some.inj ho
                    subst hoo
                    have f55 : (ρ (.tmp 143)) = .bool false := hd ⟨55, .data⟩ (by simp) (by rfl)
                    exact fx_val hK hρ (.bool false) (by simp [execOp, f55, hA.const, go_sem]) rfl
                  | 57, ho =>
                    exact absurd hw (by decide)
                  | 58, ho =>
                    exact absurd hw (by decide)
                  | 59, ho =>
                    exact absurd hw (by decide)
                  | 60, ho =>
                    exact absurd hw (by decide)
                  | 61, ho =>
                    exact absurd hw (by decide)
                  | 62, ho =>
                    exact absurd hw (by decide)
                  | 63, ho =>
                    exact absurd hw (by decide)
                  | 64, ho =>
                    have hoo := Option.some.inj ho
                    subst hoo
                    have f56 : (ρ (.tmp 144)) = .bool false := hd ⟨56, .data⟩ (by simp) (by rfl)
                    exact fx_val hK hρ (.bool false) (by simp [execOp, f56, hA.const, hA.const, go_sem]) rfl
                  | 65, ho =>
                    have hoo := Option.some.inj ho
                    subst hoo
                    have f36 : (ρ (.tmp 124)) = .bool false := hd ⟨36, .data⟩ (by simp) (by rfl)
                    have f64 : (ρ (.tmp 152)) = .bool false := hd ⟨64, .data⟩ (by simp) (by rfl)
                    exact fx_val hK hρ (.bool false) (by simp [execOp, f36, f64, hA.const, hA.const, go_sem]) rfl
                  | kq + 66, ho => simp at ho
                case henqb =>
                  intro vals9 xw hI hF
                  have fz : vals9 153 = .bool false := hF 65 (by decide)
                  simp only [fillA, fillL, List.contains_cons, List.contains_nil, Nat.reduceBEq, Bool.or_false, Bool.false_or, Bool.or_true, Bool.true_or, cond_true, cond_false, Nat.zero_add, Nat.reduceAdd]
                  rw [fz]
                  have BL2 := Lib.hid hI
                  clear hF hI fz
                  go_wp2
                  go_roundw
                  case rel => exact ⟨k + 1, by omega, by go_num, BL2⟩
                  case measure => simp [intOf]; omega
              · rw [if_neg (fun q => hd1 q.2)] at h2
                obtain ⟨z, hz⟩ : ∃ z, y = z := ⟨_, rfl⟩
                have HZ2 : Hid (O2[k]? = some z) := Lib.hid (hz ▸ h2)
                have HNE : Hid ((z != y) = false) := Lib.hid (by rw [hz]; simp)
                have HEQ : Hid ((z == y) = true) := Lib.hid (by rw [hz]; simp)
                have HGE : Hid (decide (0 ≤ y) = true) := Lib.hid (decide_eq_true (by omega))
                have HHB : Hid (y ∉ D2) := Lib.hid (fun q => hd1 (h3.mp q).2)
                clear h2 h3 h4 hy1 hz hd1
                go_wp2_with fail
                refine wp_region_skips' [88, 89, 90, 91, 92, 93, 94, 95, 96, 97, 98, 99, 100, 101, 102, 103, 104, 105, 106, 107, 108, 109, 110, 111, 112, 113, 114, 115, 116, 117, 118, 119, 120, 121, 122, 123, 124, 125, 126, 127, 128, 129, 130, 131, 132, 133, 134, 135, 136, 137, 138, 139, 140, 141, 142, 143, 144, 145, 146, 147, 148, 149, 150, 151, 152, 153] [true, true, true, true, true, true, true, true, true, true, true, true, true, true, true, true, true, true, false, false, false, false, false, false, false, false, false, false, false, false, false, false, false, false, true, true, true, true, true, true, true, true, true, true, true, true, true, true, true, true, true, true, true, true, true, true, true, true, true, true, true, true, true, true, true, true] [(5, false), (17, false), (36, false), (48, true), (56, true)] (by kernel_rfl) (by kernel_rfl) (by kernel_rfl) (by intro d hd; simp at hd ⊢; omega) (fun x => BxFx w0 A n c F m d W E (some ⟨ba, oa, none⟩) n' c' F' m' d' O L gx (some ⟨bx, ox, none⟩) cx Fx dx O2 L2 x ∧ Ints x x.heap.size Al D2) (PhiT17c w0.heap.size gx bx ox n' cx ba oa c' k y z Al dn cl)
                  (fun x y h hb => ⟨h.1.next hb, (h.2.below hb).more hb.size⟩) (phiT17c_below w0.heap.size gx bx ox n' cx ba oa c' k y z Al dn cl) (⟨BL.out.1.next (Below.refl _ _).drew, (BL.out.2.below (Below.refl _ _).drew).more (Below.refl 0 _).drew.size⟩) (fun p hp v w hv => by
                    simp only [List.mem_cons, List.not_mem_nil, or_false] at hp
                    rcases hp with rfl | rfl | rfl | rfl | rfl <;> exact hv) (fun kq hkq v w hv => by
                    have hlt : kq < 66 := by
                      apply Classical.byContradiction
                      intro h
                      rw [List.getD_eq_getElem?_getD, List.getElem?_eq_none (by simp; omega)] at hkq
                      simp at hkq
                    match kq, hlt, hkq, hv with
                    | 0, _, h, _ => exact absurd h (by decide)
                    | 1, _, h, _ => exact absurd h (by decide)
                    | 2, _, h, _ => exact absurd h (by decide)
                    | 3, _, h, _ => exact absurd h (by decide)
                    | 4, _, h, _ => exact absurd h (by decide)
                    | 5, _, h, _ => exact absurd h (by decide)
                    | 6, _, h, _ => exact absurd h (by decide)
                    | 7, _, h, _ => exact absurd h (by decide)
                    | 8, _, h, _ => exact absurd h (by decide)
                    | 9, _, h, _ => exact absurd h (by decide)
                    | 10, _, h, _ => exact absurd h (by decide)
                    | 11, _, h, _ => exact absurd h (by decide)
                    | 12, _, h, _ => exact absurd h (by decide)
                    | 13, _, h, _ => exact absurd h (by decide)
                    | 14, _, h, _ => exact absurd h (by decide)
                    | 15, _, h, _ => exact absurd h (by decide)
                    | 16, _, h, _ => exact absurd h (by decide)
                    | 17, _, h, _ => exact absurd h (by decide)
                    | 18, _, _, hv => exact hv
                    | 19, _, _, hv => exact hv
                    | 20, _, _, hv => exact hv
                    | 21, _, _, hv => exact hv
                    | 22, _, _, hv => exact hv
                    | 23, _, _, hv => exact hv
                    | 24, _, _, hv => exact hv
                    | 25, _, _, hv => exact hv
                    | 26, _, _, hv => exact hv
                    | 27, _, _, hv => exact hv
                    | 28, _, _, hv => exact hv
                    | 29, _, _, hv => exact hv
                    | 30, _, _, hv => exact hv
                    | 31, _, _, hv => exact hv
                    | 32, _, _, hv => exact hv
                    | 33, _, _, hv => exact hv
                    | 34, _, h, _ => exact absurd h (by decide)
                    | 35, _, h, _ => exact absurd h (by decide)
                    | 36, _, h, _ => exact absurd h (by decide)
                    | 37, _, h, _ => exact absurd h (by decide)
                    | 38, _, h, _ => exact absurd h (by decide)
                    | 39, _, h, _ => exact absurd h (by decide)
                    | 40, _, h, _ => exact absurd h (by decide)
                    | 41, _, h, _ => exact absurd h (by decide)
                    | 42, _, h, _ => exact absurd h (by decide)
                    | 43, _, h, _ => exact absurd h (by decide)
                    | 44, _, h, _ => exact absurd h (by decide)
                    | 45, _, h, _ => exact absurd h (by decide)
                    | 46, _, h, _ => exact absurd h (by decide)
                    | 47, _, h, _ => exact absurd h (by decide)
                    | 48, _, h, _ => exact absurd h (by decide)
                    | 49, _, h, _ => exact absurd h (by decide)
                    | 50, _, h, _ => exact absurd h (by decide)
                    | 51, _, h, _ => exact absurd h (by decide)
                    | 52, _, h, _ => exact absurd h (by decide)
                    | 53, _, h, _ => exact absurd h (by decide)
                    | 54, _, h, _ => exact absurd h (by decide)
                    | 55, _, h, _ => exact absurd h (by decide)
                    | 56, _, h, _ => exact absurd h (by decide)
                    | 57, _, h, _ => exact absurd h (by decide)
                    | 58, _, h, _ => exact absurd h (by decide)
                    | 59, _, h, _ => exact absurd h (by decide)
                    | 60, _, h, _ => exact absurd h (by decide)
                    | 61, _, h, _ => exact absurd h (by decide)
                    | 62, _, h, _ => exact absurd h (by decide)
                    | 63, _, h, _ => exact absurd h (by decide)
                    | 64, _, h, _ => exact absurd h (by decide)
                    | 65, _, h, _ => exact absurd h (by decide)
                    | kq + 66, h, _, _ => omega) (fun kq hkq w => by
                    have hlt : kq < 66 := by
                      apply Classical.byContradiction
                      intro h
                      rw [List.getD_eq_getElem?_getD, List.getElem?_eq_none (by simp; omega)] at hkq
                      simp at hkq
                    match kq, hlt, hkq with
                    | 0, _, h => exact absurd h (by decide)
                    | 1, _, h => exact absurd h (by decide)
                    | 2, _, h => exact absurd h (by decide)
                    | 3, _, h => exact absurd h (by decide)
                    | 4, _, h => exact absurd h (by decide)
                    | 5, _, h => exact absurd h (by decide)
                    | 6, _, h => exact absurd h (by decide)
                    | 7, _, h => exact absurd h (by decide)
                    | 8, _, h => exact absurd h (by decide)
                    | 9, _, h => exact absurd h (by decide)
                    | 10, _, h => exact absurd h (by decide)
                    | 11, _, h => exact absurd h (by decide)
                    | 12, _, h => exact absurd h (by decide)
                    | 13, _, h => exact absurd h (by decide)
                    | 14, _, h => exact absurd h (by decide)
                    | 15, _, h => exact absurd h (by decide)
                    | 16, _, h => exact absurd h (by decide)
                    | 17, _, h => exact absurd h (by decide)
                    | 18, _, _ => exact rfl
                    | 19, _, _ => exact rfl
                    | 20, _, _ => exact rfl
                    | 21, _, _ => exact rfl
                    | 22, _, _ => exact rfl
                    | 23, _, _ => exact rfl
                    | 24, _, _ => exact rfl
                    | 25, _, _ => exact rfl
                    | 26, _, _ => exact rfl
                    | 27, _, _ => exact rfl
                    | 28, _, _ => exact rfl
                    | 29, _, _ => exact rfl
                    | 30, _, _ => exact rfl
                    | 31, _, _ => exact rfl
                    | 32, _, _ => exact rfl
                    | 33, _, _ => exact rfl
                    | 34, _, h => exact absurd h (by decide)
                    | 35, _, h => exact absurd h (by decide)
                    | 36, _, h => exact absurd h (by decide)
                    | 37, _, h => exact absurd h (by decide)
                    | 38, _, h => exact absurd h (by decide)
                    | 39, _, h => exact absurd h (by decide)
                    | 40, _, h => exact absurd h (by decide)
                    | 41, _, h => exact absurd h (by decide)
                    | 42, _, h => exact absurd h (by decide)
                    | 43, _, h => exact absurd h (by decide)
                    | 44, _, h => exact absurd h (by decide)
                    | 45, _, h => exact absurd h (by decide)
                    | 46, _, h => exact absurd h (by decide)
                    | 47, _, h => exact absurd h (by decide)
                    | 48, _, h => exact absurd h (by decide)
                    | 49, _, h => exact absurd h (by decide)
                    | 50, _, h => exact absurd h (by decide)
                    | 51, _, h => exact absurd h (by decide)
                    | 52, _, h => exact absurd h (by decide)
                    | 53, _, h => exact absurd h (by decide)
                    | 54, _, h => exact absurd h (by decide)
                    | 55, _, h => exact absurd h (by decide)
                    | 56, _, h => exact absurd h (by decide)
                    | 57, _, h => exact absurd h (by decide)
                    | 58, _, h => exact absurd h (by decide)
                    | 59, _, h => exact absurd h (by decide)
                    | 60, _, h => exact absurd h (by decide)
                    | 61, _, h => exact absurd h (by decide)
                    | 62, _, h => exact absurd h (by decide)
                    | 63, _, h => exact absurd h (by decide)
                    | 64, _, h => exact absurd h (by decide)
                    | 65, _, h => exact absurd h (by decide)
                    | kq + 66, h, _ => omega) ?hsteqc ?henqc
                case hsteqc =>
                  intro kq o ho hw a w hI hA hd K hK
                  obtain ⟨ρ, hρ⟩ : ∃ ρ, a.eval = ρ := ⟨_, rfl⟩
                  rw [hρ] at hA hd
                  match kq, ho with
                  | 0, ho =>
                    have hoo := Option.some.inj ho
                    subst hoo
                    exact fx_val hK hρ (.int .i64 (k : Int)) (by have h := hA.tmp 10 (by decide); simp [execOp, h, go_sem]) rfl
                  | 1, ho =>
                    have hoo := Option.some.inj ho
                    subst hoo
                    exact fx_val hK hρ (.pointer (some ⟨gx, 0, none⟩)) (by have h := hA.tmp 5 (by decide); simp [execOp, h, go_sem]) rfl
                  | 2, ho =>
                    have hoo := Option.some.inj ho
                    subst hoo
                    have f1 : (ρ (.tmp 89)) = .pointer (some ⟨gx, 0, none⟩) := hd ⟨1, .data⟩ (by simp) (by rfl)
                    exact fx_val hK hρ _ (by have h0 := hI.1.x0; simp [execOp, f1, h0, go_sem]) rfl
                  | 3, ho =>
                    have hoo := Option.some.inj ho
                    subst hoo
                    have f2 : (ρ (.tmp 90)) = .slice (some ⟨bx, ox, none⟩) n' cx := hd ⟨2, .data⟩ (by simp) (by rfl)
                    exact fx_val hK hρ (.int .i64 (n' : Int)) (by simp [execOp, f2, hA.const, go_sem]) rfl
                  | 4, ho =>
                    have hoo := Option.some.inj ho
                    subst hoo
                    have f0 : (ρ (.tmp 88)) = .int .i64 (k : Int) := hd ⟨0, .data⟩ (by simp) (by rfl)
                    have f3 : (ρ (.tmp 91)) = .int .i64 (n' : Int) := hd ⟨3, .data⟩ (by simp) (by rfl)
                    exact fx_val hK hρ (.bool false) (by simp [execOp, f0, f3, hlt, go_sem]) rfl
                  | 5, ho =>
                    have hoo := Option.some.inj ho
                    subst hoo
                    have f4 : (ρ (.tmp 92)) = .bool false := hd ⟨4, .data⟩ (by simp) (by rfl)
                    exact fx_val hK hρ (.bool false) (by simp [execOp, f4, hA.const, go_sem]) rfl
                  | 6, ho =>
                    have hoo := Option.some.inj ho
                    subst hoo
                    exact fx_val hK hρ (.pointer (some ⟨gx, 0, none⟩)) (by have h := hA.tmp 5 (by decide); simp [execOp, h, go_sem]) rfl
                  | 7, ho =>
                    have hoo := Option.some.inj ho
                    subst hoo
                    have f6 : (ρ (.tmp 94)) = .pointer (some ⟨gx, 0, none⟩) := hd ⟨6, .data⟩ (by simp) (by rfl)
                    exact fx_val hK hρ _ (by have h0 := hI.1.x0; simp [execOp, f6, h0, go_sem]) rfl
                  | 8, ho =>
                    have hoo := Option.some.inj ho
                    subst hoo
                    exact fx_val hK hρ (.int .i64 (k : Int)) (by have h := hA.tmp 10 (by decide); simp [execOp, h, go_sem]) rfl
                  | 9, ho =>
                    have hoo := Option.some.inj ho
                    subst hoo
                    have f7 : (ρ (.tmp 95)) = .slice (some ⟨bx, ox, none⟩) n' cx := hd ⟨7, .data⟩ (by simp) (by rfl)
                    have f8 : (ρ (.tmp 96)) = .int .i64 (k : Int) := hd ⟨8, .data⟩ (by simp) (by rfl)
                    exact fx_val hK hρ (.pointer (some ⟨bx, ox + k, none⟩)) (by simp [execOp, f7, f8, hlt, go_sem]) rfl
                  | 10, ho =>
                    have hoo := Option.some.inj ho
                    subst hoo
                    have f9 : (ρ (.tmp 97)) = .pointer (some ⟨bx, ox + k, none⟩) := hd ⟨9, .data⟩ (by simp) (by rfl)
                    exact fx_val hK hρ (.int .i64 z) (by have h0 := ints_cell hI.1.k2.on HZ2.out; simp [execOp, f9, h0, go_sem]) rfl
                  | 11, ho =>
                    have hoo := Option.some.inj ho
                    subst hoo
                    exact fx_val hK hρ (.pointer (some ⟨(w0.heap.size + 1), 0, none⟩)) (by have h := hA.tmp 3 (by decide); simp [execOp, h, go_sem]) rfl
                  | 12, ho =>
                    have hoo := Option.some.inj ho
                    subst hoo
                    have f11 : (ρ (.tmp 99)) = .pointer (some ⟨(w0.heap.size + 1), 0, none⟩) := hd ⟨11, .data⟩ (by simp) (by rfl)
                    exact fx_val hK hρ _ (by have h0 := hI.1.b.c0; simp [execOp, f11, h0, go_sem]) rfl
                  | 13, ho =>
                    have hoo := Option.some.inj ho
                    subst hoo
                    exact fx_val hK hρ (.int .i64 (k : Int)) (by have h := hA.tmp 10 (by decide); simp [execOp, h, go_sem]) rfl
                  | 14, ho =>
                    have hoo := Option.some.inj ho
                    subst hoo
                    have f12 : (ρ (.tmp 100)) = .slice (some ⟨ba, oa, none⟩) n' c' := hd ⟨12, .data⟩ (by simp) (by rfl)
                    have f13 : (ρ (.tmp 101)) = .int .i64 (k : Int) := hd ⟨13, .data⟩ (by simp) (by rfl)
                    exact fx_val hK hρ (.pointer (some ⟨ba, oa + k, none⟩)) (by simp [execOp, f12, f13, hlt, go_sem]) rfl
                  | 15, ho =>
                    have hoo := Option.some.inj ho
                    subst hoo
                    have f14 : (ρ (.tmp 102)) = .pointer (some ⟨ba, oa + k, none⟩) := hd ⟨14, .data⟩ (by simp) (by rfl)
                    exact fx_val hK hρ (.int .i64 y) (by have h0 := ints_cell hI.1.b.k.on HZ1.out; simp [execOp, f14, h0, go_sem]) rfl
                  | 16, ho =>
                    have hoo := Option.some.inj ho
                    subst hoo
                    have f10 : (ρ (.tmp 98)) = .int .i64 z := hd ⟨10, .data⟩ (by simp) (by rfl)
                    have f15 : (ρ (.tmp 103)) = .int .i64 y := hd ⟨15, .data⟩ (by simp) (by rfl)
                    exact fx_val hK hρ (.bool false) (by have h := HNE.out; simp [execOp, f10, f15, h, go_sem]) rfl
                  | 17, ho =>
                    have hoo := Option.some.inj ho
                    subst hoo
                    have f16 : (ρ (.tmp 104)) = .bool false := hd ⟨16, .data⟩ (by simp) (by rfl)
                    exact fx_val hK hρ (.bool false) (by simp [execOp, f16, hA.const, go_sem]) rfl
                  | 18, ho =>
                    exact absurd hw (by decide)
                  | 19, ho =>
                    exact absurd hw (by decide)
                  | 20, ho =>
                    exact absurd hw (by decide)
                  | 21, ho =>
                    exact absurd hw (by decide)
                  | 22, ho =>
                    exact absurd hw (by decide)
                  | 23, ho =>
                    exact absurd hw (by decide)
                  | 24, ho =>
                    exact absurd hw (by decide)
                  | 25, ho =>
                    exact absurd hw (by decide)
                  | 26, ho =>
                    exact absurd hw (by decide)
                  | 27, ho =>
                    exact absurd hw (by decide)
                  | 28, ho =>
                    exact absurd hw (by decide)
                  | 29, ho =>
                    exact absurd hw (by decide)
                  | 30, ho =>
                    exact absurd hw (by decide)
                  | 31, ho =>
                    exact absurd hw (by decide)
                  | 32, ho =>
                    exact absurd hw (by decide)
                  | 33, ho =>
                    exact absurd hw (by decide)
                  | 34, ho =>
                    have hoo := Option.some.inj ho
                    subst hoo
                    have f17 : (ρ (.tmp 105)) = .bool false := hd ⟨17, .data⟩ (by simp) (by rfl)
                    exact fx_val hK hρ (.bool false) (by simp [execOp, f17, hA.const, hA.const, go_sem]) rfl
                  | 35, ho =>
                    have hoo := Option.some.inj ho
                    subst hoo
                    have f5 : (ρ (.tmp 93)) = .bool false := hd ⟨5, .data⟩ (by simp) (by rfl)
                    have f34 : (ρ (.tmp 122)) = .bool false := hd ⟨34, .data⟩ (by simp) (by rfl)
                    exact fx_val hK hρ (.bool false) (by simp [execOp, f5, f34, hA.const, hA.const, go_sem]) rfl
                  | 36, ho =>
                    have hoo := Option.some.inj ho
                    subst hoo
                    have f35 : (ρ (.tmp 123)) = .bool false := hd ⟨35, .data⟩ (by simp) (by rfl)
                    exact fx_val hK hρ (.bool false) (by simp [execOp, f35, hA.const, go_sem]) rfl
                  | 37, ho =>
                    have hoo := Option.some.inj ho
                    subst hoo
                    exact fx_val hK hρ (.pointer (some ⟨gx, 0, none⟩)) (by have h := hA.tmp 5 (by decide); simp [execOp, h, go_sem]) rfl
                  | 38, ho =>
                    have hoo := Option.some.inj ho
                    subst hoo
                    have f37 : (ρ (.tmp 125)) = .pointer (some ⟨gx, 0, none⟩) := hd ⟨37, .data⟩ (by simp) (by rfl)
                    exact fx_val hK hρ _ (by have h0 := hI.1.x0; simp [execOp, f37, h0, go_sem]) rfl
                  | 39, ho =>
                    have hoo := Option.some.inj ho
                    subst hoo
                    exact fx_val hK hρ (.int .i64 (k : Int)) (by have h := hA.tmp 10 (by decide); simp [execOp, h, go_sem]) rfl
                  | 40, ho =>
                    have hoo := Option.some.inj ho
                    subst hoo
                    have f38 : (ρ (.tmp 126)) = .slice (some ⟨bx, ox, none⟩) n' cx := hd ⟨38, .data⟩ (by simp) (by rfl)
                    have f39 : (ρ (.tmp 127)) = .int .i64 (k : Int) := hd ⟨39, .data⟩ (by simp) (by rfl)
                    exact fx_val hK hρ (.pointer (some ⟨bx, ox + k, none⟩)) (by simp [execOp, f38, f39, hlt, go_sem]) rfl
                  | 41, ho =>
                    have hoo := Option.some.inj ho
                    subst hoo
                    have f40 : (ρ (.tmp 128)) = .pointer (some ⟨bx, ox + k, none⟩) := hd ⟨40, .data⟩ (by simp) (by rfl)
                    exact fx_val hK hρ (.int .i64 z) (by have h0 := ints_cell hI.1.k2.on HZ2.out; simp [execOp, f40, h0, go_sem]) rfl
                  | 42, ho =>
                    have hoo := Option.some.inj ho
                    subst hoo
                    exact fx_val hK hρ (.pointer (some ⟨(w0.heap.size + 1), 0, none⟩)) (by have h := hA.tmp 3 (by decide); simp [execOp, h, go_sem]) rfl
                  | 43, ho =>
                    have hoo := Option.some.inj ho
                    subst hoo
                    have f42 : (ρ (.tmp 130)) = .pointer (some ⟨(w0.heap.size + 1), 0, none⟩) := hd ⟨42, .data⟩ (by simp) (by rfl)
                    exact fx_val hK hρ _ (by have h0 := hI.1.b.c0; simp [execOp, f42, h0, go_sem]) rfl
                  | 44, ho =>
                    have hoo := Option.some.inj ho
                    subst hoo
                    exact fx_val hK hρ (.int .i64 (k : Int)) (by have h := hA.tmp 10 (by decide); simp [execOp, h, go_sem]) rfl
                  | 45, ho =>
                    have hoo := Option.some.inj ho
                    subst hoo
                    have f43 : (ρ (.tmp 131)) = .slice (some ⟨ba, oa, none⟩) n' c' := hd ⟨43, .data⟩ (by simp) (by rfl)
                    have f44 : (ρ (.tmp 132)) = .int .i64 (k : Int) := hd ⟨44, .data⟩ (by simp) (by rfl)
                    exact fx_val hK hρ (.pointer (some ⟨ba, oa + k, none⟩)) (by simp [execOp, f43, f44, hlt, go_sem]) rfl
                  | 46, ho =>
                    have hoo := Option.some.inj ho
                    subst hoo
                    have f45 : (ρ (.tmp 133)) = .pointer (some ⟨ba, oa + k, none⟩) := hd ⟨45, .data⟩ (by simp) (by rfl)
                    exact fx_val hK hρ (.int .i64 y) (by have h0 := ints_cell hI.1.b.k.on HZ1.out; simp [execOp, f45, h0, go_sem]) rfl
                  | 47, ho =>
                    have hoo := Option.some.inj ho
                    subst hoo
                    have f41 : (ρ (.tmp 129)) = .int .i64 z := hd ⟨41, .data⟩ (by simp) (by rfl)
                    have f46 : (ρ (.tmp 134)) = .int .i64 y := hd ⟨46, .data⟩ (by simp) (by rfl)
                    exact fx_val hK hρ (.bool true) (by have h := HEQ.out; simp [execOp, f41, f46, h, go_sem]) rfl
                  | 48, ho =>
                    have hoo := Option.some.inj ho
                    subst hoo
                    have f47 : (ρ (.tmp 135)) = .bool true := hd ⟨47, .data⟩ (by simp) (by rfl)
                    exact fx_val hK hρ (.bool true) (by simp [execOp, f47, hA.const, go_sem]) rfl
                  | 49, ho =>
                    have hoo := Option.some.inj ho
                    subst hoo
                    exact fx_val hK hρ (.pointer (some ⟨(w0.heap.size + 1), 0, none⟩)) (by have h := hA.tmp 3 (by decide); simp [execOp, h, go_sem]) rfl
                  | 50, ho =>
                    have hoo := Option.some.inj ho
                    subst hoo
                    have f49 : (ρ (.tmp 137)) = .pointer (some ⟨(w0.heap.size + 1), 0, none⟩) := hd ⟨49, .data⟩ (by simp) (by rfl)
                    exact fx_val hK hρ _ (by have h0 := hI.1.b.c0; simp [execOp, f49, h0, go_sem]) rfl
                  | 51, ho =>
                    have hoo := Option.some.inj ho
                    subst hoo
                    exact fx_val hK hρ (.int .i64 (k : Int)) (by have h := hA.tmp 10 (by decide); simp [execOp, h, go_sem]) rfl
                  | 52, ho =>
                    have hoo := Option.some.inj ho
                    subst hoo
                    have f50 : (ρ (.tmp 138)) = .slice (some ⟨ba, oa, none⟩) n' c' := hd ⟨50, .data⟩ (by simp) (by rfl)
                    have f51 : (ρ (.tmp 139)) = .int .i64 (k : Int) := hd ⟨51, .data⟩ (by simp) (by rfl)
                    exact fx_val hK hρ (.pointer (some ⟨ba, oa + k, none⟩)) (by simp [execOp, f50, f51, hlt, go_sem]) rfl
                  | 53, ho =>
                    have hoo := Option.some.inj ho
                    subst hoo
                    have f52 : (ρ (.tmp 140)) = .pointer (some ⟨ba, oa + k, none⟩) := hd ⟨52, .data⟩ (by simp) (by rfl)
                    exact fx_val hK hρ (.int .i64 y) (by have h0 := ints_cell hI.1.b.k.on HZ1.out; simp [execOp, f52, h0, go_sem]) rfl
                  | 54, ho =>
                    have hoo := Option.some.inj ho
                    subst hoo
                    have f53 : (ρ (.tmp 141)) = .int .i64 y := hd ⟨53, .data⟩ (by simp) (by rfl)
                    exact fx_val hK hρ (.bool true) (by have h := HGE.out; simp [execOp, f53, h, hA.const, go_sem]) rfl
                  | 55, ho =>
                    have hoo := Option.some.inj ho
                    subst hoo
                    have f48 : (ρ (.tmp 136)) = .bool true := hd ⟨48, .data⟩ (by simp) (by rfl)
                    have f54 : (ρ (.tmp 142)) = .bool true := hd ⟨54, .data⟩ (by simp) (by rfl)
                    exact fx_val hK hρ (.bool true) (by simp [execOp, f48, f54, hA.const, hA.const, go_sem]) rfl
                  | 56, ho =>
                    have hoo := Option.some.inj ho
                    subst hoo
                    have f55 : (ρ (.tmp 143)) = .bool true := hd ⟨55, .data⟩ (by simp) (by rfl)
                    exact fx_val hK hρ (.bool true) (by simp [execOp, f55, hA.const, go_sem]) rfl
                  | 57, ho =>
                    have hoo := Option.some.inj ho
                    subst hoo
                    exact fx_val hK hρ (.slice Al dn cl) (by have h := hA.tmp 6 (by decide); simp [execOp, h, go_sem]) rfl
                  | 58, ho =>
                    have hoo := Option.some.inj ho
                    subst hoo
                    exact fx_val hK hρ (.pointer (some ⟨(w0.heap.size + 1), 0, none⟩)) (by have h := hA.tmp 3 (by decide); simp [execOp, h, go_sem]) rfl
                  | 59, ho =>
                    have hoo := Option.some.inj ho
                    subst hoo
                    have f58 : (ρ (.tmp 146)) = .pointer (some ⟨(w0.heap.size + 1), 0, none⟩) := hd ⟨58, .data⟩ (by simp) (by rfl)
                    exact fx_val hK hρ _ (by have h0 := hI.1.b.c0; simp [execOp, f58, h0, go_sem]) rfl
                  | 60, ho =>
                    have hoo := Option.some.inj ho
                    subst hoo
                    exact fx_val hK hρ (.int .i64 (k : Int)) (by have h := hA.tmp 10 (by decide); simp [execOp, h, go_sem]) rfl
                  | 61, ho =>
                    have hoo := Option.some.inj ho
                    subst hoo
                    have f59 : (ρ (.tmp 147)) = .slice (some ⟨ba, oa, none⟩) n' c' := hd ⟨59, .data⟩ (by simp) (by rfl)
                    have f60 : (ρ (.tmp 148)) = .int .i64 (k : Int) := hd ⟨60, .data⟩ (by simp) (by rfl)
                    exact fx_val hK hρ (.pointer (some ⟨ba, oa + k, none⟩)) (by simp [execOp, f59, f60, hlt, go_sem]) rfl
                  | 62, ho =>
                    have hoo := Option.some.inj ho
                    subst hoo
                    have f61 : (ρ (.tmp 149)) = .pointer (some ⟨ba, oa + k, none⟩) := hd ⟨61, .data⟩ (by simp) (by rfl)
                    exact fx_val hK hρ (.int .i64 y) (by have h0 := ints_cell hI.1.b.k.on HZ1.out; simp [execOp, f61, h0, go_sem]) rfl
                  | 63, ho =>
                    have hoo := Option.some.inj ho
                    subst hoo
                    have f57 : (ρ (.tmp 145)) = .slice Al dn cl := hd ⟨57, .data⟩ (by simp) (by rfl)
                    have f62 : (ρ (.tmp 150)) = .int .i64 y := hd ⟨62, .data⟩ (by simp) (by rfl)
                    exact fx_call hK hρ 35 _ _ #[.slice Al dn cl, .int .i64 y] rfl (by simp only [List.map_toArray, List.map_cons, List.map_nil, hA.const, f57, f62]) (eg_of Tryd.func35 (by kernel_rfl) rfl) ((has_is w hI.2 HDN.out.1 HDN.out.2 false ⟨fun q => absurd q HHB.out, fun q => by cases q⟩).mono fun e w' ⟨he, hb⟩ => ⟨_, he, rfl, hb⟩)
                  | 64, ho =>
                    have hoo := Option.some.inj ho
                    subst hoo
                    have f56 : (ρ (.tmp 144)) = .bool true := hd ⟨56, .data⟩ (by simp) (by rfl)
                    have f63 : (ρ (.tmp 151)) = .bool false := hd ⟨63, .data⟩ (by simp) (by rfl)
                    exact fx_val hK hρ (.bool false) (by simp [execOp, f56, f63, hA.const, hA.const, go_sem]) rfl
                  | 65, ho =>
                    have hoo := Option.some.inj ho
                    subst hoo
                    have f36 : (ρ (.tmp 124)) = .bool false := hd ⟨36, .data⟩ (by simp) (by rfl)
                    have f64 : (ρ (.tmp 152)) = .bool false := hd ⟨64, .data⟩ (by simp) (by rfl)
                    exact fx_val hK hρ (.bool false) (by simp [execOp, f36, f64, hA.const, hA.const, go_sem]) rfl
                  | kq + 66, ho => simp at ho
                case henqc =>
                  intro vals9 xw hI hF
                  have fz : vals9 153 = .bool false := hF 65 (by decide)
                  simp only [fillA, fillL, List.contains_cons, List.contains_nil, Nat.reduceBEq, Bool.or_false, Bool.false_or, Bool.or_true, Bool.true_or, cond_true, cond_false, Nat.zero_add, Nat.reduceAdd]
                  rw [fz]
                  have BL2 := Lib.hid hI
                  clear hF hI fz
                  go_wp2
                  go_roundw
                  case rel => exact ⟨k + 1, by omega, by go_num, BL2⟩
                  case measure => simp [intOf]; omega
          · obtain rfl : n' = k := by omega
            clear BL0
            go_wp2_with fail
            refine wp_region_facts' [154, 155, 156, 157, 158, 159, 4] [] [] (by kernel_rfl) (by kernel_rfl) (by kernel_rfl) (by intro d hd; simp at hd ⊢; omega) (fun x => BxFx w0 A n c F m d W E A' n' c' F' m' d' O L gx Ax cx Fx dx O2 L2 x ∧ Ints x x.heap.size Al D2) (PhiT19 A n c F m d W E n' m' O2 L2 Ax cx Fx dx)
              (fun x y h hb => ⟨h.1.next hb, (h.2.below hb).more hb.size⟩) (phiT19_below A n c F m d W E n' m' O2 L2 Ax cx Fx dx) (⟨BL.out.1.next (Below.refl _ _).drew, (BL.out.2.below (Below.refl _ _).drew).more (Below.refl 0 _).drew.size⟩) (fun p hp v w hv => by cases hp) (fun kq hkq => by simp at hkq) ?hstepz ?hendz
            case hstepz =>
              intro kq o ho hw a w hI hA hd K hK
              obtain ⟨ρ, hρ⟩ : ∃ ρ, a.eval = ρ := ⟨_, rfl⟩
              rw [hρ] at hA hd
              match kq, ho with
              | 0, ho =>
                have hoo := Option.some.inj ho
                subst hoo
                exact fx_val hK hρ _ (by have h := hA.tmp 2 (by decide); have h0 := hI.1.b.d0; have h1 := hI.1.b.d1; simp [execOp, h, h0, h1, go_sem]) rfl
              | 1, ho =>
                have hoo := Option.some.inj ho
                subst hoo
                have f0 : (ρ (.tmp 154)) = .agg #[.slice A n c, .slice F m d] := hd ⟨0, .data⟩ (by simp) (by rfl)
                exact fx_call hK hρ 12 _ _ #[.agg #[.slice A n c, .slice F m d]] rfl (by simp only [List.map_toArray, List.map_cons, List.map_nil, hA.const, f0]) (eg_of Tryd.func12 (by kernel_rfl) rfl) ((own_g10 (hI.1.b.g)).mono fun e w' ⟨A1, c1, F1, d1, he, hd, hb⟩ => ⟨_, he, ⟨A1, c1, F1, d1, rfl, hd⟩, hb⟩)
              | 2, ho =>
                have hoo := Option.some.inj ho
                subst hoo
                exact fx_val hK hρ _ (by have h := hA.tmp 5 (by decide); have h0 := hI.1.x0; have h1 := hI.1.x1; simp [execOp, h, h0, h1, go_sem]) rfl
              | 3, ho =>
                have hoo := Option.some.inj ho
                subst hoo
                have f2 : (ρ (.tmp 156)) = .agg #[.slice Ax n' cx, .slice Fx m' dx] := hd ⟨2, .data⟩ (by simp) (by rfl)
                exact fx_call hK hρ 13 _ _ #[.agg #[.slice Ax n' cx, .slice Fx m' dx]] rfl (by simp only [List.map_toArray, List.map_cons, List.map_nil, hA.const, f2]) (eg_of Tryd.func13 (by kernel_rfl) rfl) ((ownC_any w (hI.1.k2)).mono fun e w' ⟨⟨A1, c1, F1, d1, he, hM⟩, hb⟩ => ⟨_, he, ⟨A1, c1, F1, d1, rfl, hM⟩, hb⟩)
              | 4, ho =>
                have hoo := Option.some.inj ho
                subst hoo
                have f1 : GDl n m W E (ρ (.tmp 155)) w := hd ⟨1, .data⟩ (by simp) (by rfl)
                have f3 : GCl n' m' O2 L2 (ρ (.tmp 157)) w := hd ⟨3, .data⟩ (by simp) (by rfl)
                obtain ⟨A1, c1, F1, d1, f1', hD⟩ := f1
                obtain ⟨A2, c2, F2, d2, f3', hM⟩ := f3
                exact fx_call hK hρ 17 _ _ #[.agg #[.slice A1 n c1, .slice F1 m d1], .agg #[.slice A2 n' c2, .slice F2 m' d2]] rfl (by simp only [List.map_toArray, List.map_cons, List.map_nil, hA.const, f1', f3']) (eg_of Tryd.func17 (by kernel_rfl) rfl) ((HK.out.check w hD hM).mono fun e w' ⟨he, hb⟩ => ⟨_, he, (by show Value.int .i64 _ = .int .i64 0; rw [HFE2.out]), hb⟩)
              | 5, ho =>
                have hoo := Option.some.inj ho
                subst hoo
                have f4 : (ρ (.tmp 158)) = .int .i64 0 := hd ⟨4, .data⟩ (by simp) (by rfl)
                exact fx_val hK hρ (.bool true) (by simp [execOp, f4, hA.const, go_sem]) rfl
              | 6, ho =>
                have hoo := Option.some.inj ho
                subst hoo
                have f5 : (ρ (.tmp 159)) = .bool true := hd ⟨5, .data⟩ (by simp) (by rfl)
                exact fx_val hK hρ (.bool true) (by simp [execOp, f5, hA.const, go_sem]) rfl
              | kq + 7, ho => simp at ho
            case hendz =>
              intro vals9 xw hI hF
              have fz : vals9 4 = .bool true := hF 6 (by decide)
              simp only [fillA, fillL, List.contains_cons, List.contains_nil, Nat.reduceBEq, Bool.or_false, Bool.false_or, Bool.or_true, Bool.true_or, cond_true, cond_false, Nat.zero_add, Nat.reduceAdd]
              rw [fz]
              have BZ := Lib.hid hI.1.b.bel
              clear hF hI fz
              go_wp2
              go_ret
              exact ⟨rfl, BZ.out⟩
theorem walk_ListTick (K : ListOk) (w0 : World) (hT : Tab64 w0) (hg : InG w0 A n c F m d W E) (hc : InC w0 A' n' c' F' m' d' O L) : Calls Tryd.prog 7 #[.agg #[.slice A n c, .slice F m d], .agg #[.slice A' n' c', .slice F' m' d']] w0 fun e w' => e = .returned (.bool true) ∧ Below w0.heap.size w0 w' := by
  by_cases h : (n ≤ 70 ∧ m ≤ 300) ∧ n' ≤ 12 ∧ m' ≤ 70
  · by_cases h0 : crewE W E O L = 0
    · exact tick_good K w0 (hg.isG hT h.1.1 h.1.2) (hc.isC h.2.1 h.2.2) h h0
    · exact tick_bad K w0 (hg.isG hT h.1.1 h.1.2) (hc.isC h.2.1 h.2.2) h h0
  · exact tick_many K w0 hT hg hc h
end
end Go.Proofs.YtmmogdccjiagnaaDoor
