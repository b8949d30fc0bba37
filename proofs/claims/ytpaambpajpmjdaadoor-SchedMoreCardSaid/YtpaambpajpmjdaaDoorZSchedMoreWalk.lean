/- The walk of SchedMore in the seat YtpaambpajpmjdaaDoor (printed by sched/mk_more.py). No statement is proved here. -/
import Derived.Test.YtpaambpajpmjdaaDoorZM19
import Derived.Test.YtpaambpajpmjdaaDoorZSchedBoxes
set_option linter.unusedSimpArgs false
set_option linter.unusedVariables false
set_option linter.unusedSimpArgs false
namespace Go.Proofs.YtpaambpajpmjdaaDoor
open Go Go.RowKit

section
variable {A : Option Addr} {n c : Nat} {F : Option Addr} {m d : Nat} {W : List Int} {E : List (Int × Int)} {N : Option Addr} {nn nc : Nat} {need : List Int} 

/-- The law's box, and the graph's in block g. -/
structure MxB (w : World) (A : Option Addr) (n c : Nat) (F : Option Addr) (m d : Nat) (g nn : Nat) (need : List Int) (E : List (Int × Int)) (A6 : Option Addr) (c6 : Nat) (F6 : Option Addr) (d6 : Nat) (y : World) : Prop where
  toB : BxB w w.heap.size A n c F m d y
  box : InBox g nn m need E A6 c6 F6 d6 y
section
variable {w x y : World} {g : Nat} {A6 : Option Addr} {c6 : Nat} {F6 : Option Addr} {d6 : Nat}
theorem MxB.bel (h : MxB w A n c F m d g nn need E A6 c6 F6 d6 y) : Below w.heap.size w y := h.toB.bel
theorem MxB.cells (h : MxB w A n c F m d g nn need E A6 c6 F6 d6 y) : y.cell? ⟨w.heap.size, 0, none⟩ = some (.slice A n c) ∧ y.cell? ⟨w.heap.size, 1, none⟩ = some (.slice F m d) := h.toB.cells
theorem MxB.next (h : MxB w A n c F m d g nn need E A6 c6 F6 d6 x) (b : Below x.heap.size x y) : MxB w A n c F m d g nn need E A6 c6 F6 d6 y := ⟨h.toB.next b, h.box.below b⟩
end
theorem bd_step {C L : Int} (h0 : 0 ≤ L) (h1 : L ≤ C) {k : Nat} (hk : 2 ≤ k) (hk8 : k ≤ 8) : (C + ((k : Int) - 1) * L) / (k : Int) ≤ (C + (((k - 1 : Nat) : Int) - 1) * L) / ((k - 1 : Nat) : Int) ∧ L ≤ (C + ((k : Int) - 1) * L) / (k : Int) := by
  rcases (by omega : k = 2 ∨ k = 3 ∨ k = 4 ∨ k = 5 ∨ k = 6 ∨ k = 7 ∨ k = 8) with rfl | rfl | rfl | rfl | rfl | rfl | rfl <;> constructor <;> simp <;> omega
end
def PhiMo (w0 : World) (A : Option Addr) (n c : Nat) (F : Option Addr) (m d : Nat) (W : List Int) (E : List (Int × Int)) (N : Option Addr) (nn nc : Nat) (need : List Int) (hbs : Nat) : Nat → Value → World → Prop
  | 0, v, w => v = .slice N nn nc
  | 1, v, w => GXn nn need v w
  | 2, v, w => GXr 45 hbs v w
  | 3, v, w => v = .pointer (some ⟨w0.heap.size, 1, none⟩)
  | 4, v, w => v = .slice F m d
  | 5, v, w => GXe m E v w
  | 6, v, w => GXd nn m need E v w
  | 7, v, w => GXa hbs v w
  | 8, v, w => True
  | _, _, _ => True
theorem phiMo_below (w0 : World) (A : Option Addr) (n c : Nat) (F : Option Addr) (m d : Nat) (W : List Int) (E : List (Int × Int)) (N : Option Addr) (nn nc : Nat) (need : List Int) (hbs : Nat) : ∀ kq v w w', PhiMo w0 A n c F m d W E N nn nc need hbs kq v w → Below w.heap.size w w' → PhiMo w0 A n c F m d W E N nn nc need hbs kq v w' := by
  intro kq v w w' h hb
  match kq, h with
  | 0, h => exact h
  | 1, h => exact GXn.below h hb
  | 2, h => exact GXr.below h hb
  | 3, h => exact h
  | 4, h => exact h
  | 5, h => exact GXe.below h hb
  | 6, h => exact GXd.below h hb
  | 7, h => exact GXa.below h hb
  | 8, h => exact h
  | kq + 9, h => exact trivial
section
variable {A : Option Addr} {n c : Nat} {F : Option Addr} {m d : Nat} {W : List Int} {E : List (Int × Int)} {N : Option Addr} {nn nc : Nat} {need : List Int}
set_option maxRecDepth 100000 in
set_option maxHeartbeats 16000000 in
theorem more_many (w0 : World) (hT : Tab64 w0) (hg : InG w0 A n c F m d W E) (hs : InN w0 N nn nc need) (h : ¬ ((n ≤ 70 ∧ m ≤ 300) ∧ nn ≤ 70)) : Calls Tryd.prog 9 #[.agg #[.slice A n c, .slice F m d], .slice N nn nc] w0 fun e w' => e = .returned (.bool true) ∧ Below w0.heap.size w0 w' := by
  have HTW := Lib.hid (fun W (h : Below w0.heap.size w0 W) => Tab64.via hT h)
  have B0 := Lib.hid (BxB.start (Below.refl w0.heap.size w0) A n c F m d)
  by_cases hd : n ≤ 70 ∧ m ≤ 300
  · have F1 := Lib.hid (fun W => few_yes A F n c m d W hd.1 hd.2)
    have hk1 := hs.ln
    have hk2 : 70 < nn := by
      apply Classical.byContradiction
      intro q
      exact h ⟨hd, by omega⟩
    clear hg hs h hd hT
    go_enter Tryd.func9, Tryd.ntmps9
    go_wp2_with fail
    refine (awake10_any _ (HTW.out _ B0.out.bel)).mono ?_
    rintro e y1 ⟨rfl, b⟩
    have B1 := Lib.hid (B0.out.next b)
    clear b
    obtain ⟨q0, q1⟩ := B1.out.cells
    go_wp2_with fail
    refine (F1.out _).mono ?_
    rintro e y2 ⟨rfl, b⟩
    have B2 := Lib.hid (B1.out.next b)
    clear b q0 q1
    go_wp2_with fail
    refine (awake10_any _ (HTW.out _ B2.out.bel)).mono ?_
    rintro e y3 ⟨rfl, b⟩
    have B3 := Lib.hid (B2.out.next b)
    clear b
    go_wp2_with fail
    go_ret
    exact ⟨rfl, B3.out.bel⟩
  · have F1 := Lib.hid (fun W => few_no A F n c m d W hg.ln hg.lm hd)
    clear hg hs h hd hT
    go_enter Tryd.func9, Tryd.ntmps9
    go_wp2_with fail
    refine (awake10_any _ (HTW.out _ B0.out.bel)).mono ?_
    rintro e y1 ⟨rfl, b⟩
    have B1 := Lib.hid (B0.out.next b)
    clear b
    obtain ⟨q0, q1⟩ := B1.out.cells
    go_wp2_with fail
    refine (F1.out _).mono ?_
    rintro e y2 ⟨rfl, b⟩
    have B2 := Lib.hid (B1.out.next b)
    clear b q0 q1
    go_wp2_with fail
    refine (awake10_any _ (HTW.out _ B2.out.bel)).mono ?_
    rintro e y3 ⟨rfl, b⟩
    have B3 := Lib.hid (B2.out.next b)
    clear b
    go_wp2_with fail
    go_ret
    exact ⟨rfl, B3.out.bel⟩
set_option maxRecDepth 100000 in
set_option maxHeartbeats 64000000 in
theorem more_few (w0 : World) (hG : IsG w0 A n c F m d W E) (hS0 : IsS w0 N nn nc none 0 0 need []) (l1 : n ≤ 70) (l2 : m ≤ 300) (l3 : nn ≤ 70) : Calls Tryd.prog 9 #[.agg #[.slice A n c, .slice F m d], .slice N nn nc] w0 fun e w' => e = .returned (.bool true) ∧ Below w0.heap.size w0 w' := by
  have HTW := Lib.hid (fun W (h : Below w0.heap.size w0 W) => Tab64.via hG.tab h)
  have HG := Lib.hid (fun W' (h : Below w0.heap.size w0 W') => hG.below h)
  have HS := Lib.hid (fun W' (h : Below w0.heap.size w0 W') => hS0.below h)
  have HZ := Lib.hid hS0
  have B0 := Lib.hid (BxB.start (Below.refl w0.heap.size w0) A n c F m d)
  have F1 := Lib.hid (fun W => few_yes A F n c m d W l1 l2)
  have HT0 := Lib.hid hG.tab.lt
  obtain ⟨z, hz⟩ : ∃ z, z = schedE W E need 1 [] := ⟨_, rfl⟩
  have HZE := Lib.hid hz
  clear hG hS0 hz
  go_enter Tryd.func9, Tryd.ntmps9
  go_wp2_with fail
  refine (awake10_any _ (HTW.out _ B0.out.bel)).mono ?_
  rintro e y1 ⟨rfl, b⟩
  have B1 := Lib.hid (B0.out.next b)
  clear b
  obtain ⟨q0, q1⟩ := B1.out.cells
  go_wp2_with fail
  refine (F1.out _).mono ?_
  rintro e y2 ⟨rfl, b⟩
  have B2 := Lib.hid (B1.out.next b)
  clear b q0 q1
  obtain ⟨q0, q1⟩ := B2.out.cells
  go_wp2_with fail
  refine (own_g10 (HG.out _ B2.out.bel)).mono ?_
  rintro e y3 ⟨Ad1, cd1, Fd1, dd1, rfl, hg, b⟩
  have B3 := Lib.hid (B2.out.next b)
  have HGd := Lib.hid hg
  clear b hg q0 q1
  go_wp2_with fail
  refine (ints10_any _ HZ.out.hn (by have := HZ.out.ln; omega) (HS.out _ B3.out.bel).ints HZ.out.hN).mono ?_
  rintro e y4 ⟨An1, cn1, rfl, hI, hN, b⟩
  have B4 := Lib.hid (B3.out.next b)
  have HGI := Lib.hid (And.intro (HGd.out.below b) (And.intro hI hN))
  clear b hI hN HGd
  go_wp2_with fail
  refine (scheck_any 1 _ HGI.out.1 (mkS HZ.out HGI.out.2.1 HGI.out.2.2 (Trc.nil_ _ _ none) (fun _ => ⟨rfl, rfl⟩))).mono ?_
  rintro e y5 ⟨rfl, b⟩
  have B5 := Lib.hid (B4.out.next b)
  rw [← HZE.out]
  clear b HGI B0 B1 B2 B3 B4
  by_cases hz : z = 0
  · subst hz
    obtain ⟨k0, hk0, hok⟩ := schedE_zero.mp HZE.out.symm
    have hk01 : k0 = 1 := by omega
    subst hk01
    have hfk : ∀ k : Nat, 1 ≤ k → k ≤ 8 → FormOk W need (k : Int) := fun k h1 h2 => ⟨hok.form.1, hok.form.2.1, by omega, by omega⟩
    have HBD := Lib.hid (fun (k : Nat) (h1 : 1 ≤ k) (h2 : k ≤ 8) => (by
      unfold boundV
      rw [if_pos ⟨hok.may, hfk k h1 h2⟩] : boundV W E need (k : Int) = (need.sum + ((k : Int) - 1) * longV need E) / (k : Int)))
    have HB9 : Hid (boundV W E need 9 = 0) := Lib.hid (by
      unfold boundV
      rw [if_neg]
      rintro ⟨_, q⟩
      have := q.2.2.2
      omega)
    have hM2 := need_may hok.may hok.form
    have hlo := longV_total hM2
    have hTV : totalV need E = need.sum := by unfold totalV; rw [if_pos hM2]
    have HTB : Hid (0 < y5.heap.size) := Lib.hid (Nat.lt_of_lt_of_le HT0.out B5.out.bel.size)
    have HTV := Lib.hid hTV
    obtain ⟨s, hs⟩ : ∃ s, s = need.sum := ⟨_, rfl⟩
    obtain ⟨L, hL⟩ : ∃ L, L = longV need E := ⟨_, rfl⟩
    rw [← hs] at HBD HTV hlo
    rw [← hL] at HBD hlo
    have HL := Lib.hid hL
    obtain ⟨bd, hbd⟩ : ∃ bd : Nat → Int, bd = fun k : Nat => boundV W E need (k : Int) := ⟨_, rfl⟩
    have HBE : Hid (∀ k : Nat, boundV W E need (k : Int) = bd k) := Lib.hid (fun k => by rw [hbd])
    have HST := Lib.hid (fun (k : Nat) (h1 : 2 ≤ k) (h2 : k ≤ 8) => (by
      have h := bd_step hlo.2 hlo.1 h1 h2
      have e1 := HBD.out k (by omega) h2
      have e2 := HBD.out (k - 1) (by omega) (by omega)
      rw [HBE.out] at e1 e2
      rw [e1, e2]
      exact h : bd k ≤ bd (k - 1) ∧ L ≤ bd k))
    have HB1 : Hid (boundV W E need 1 = s) := Lib.hid (by
      have := HBD.out 1 (by omega) (by omega)
      simpa using this)
    have hbs1 : bd 1 = s := by
      have h1 := HBE.out 1
      have h2 := HB1.out
      rw [← h1]; exact h2
    clear hok hk0 hfk hM2 hTV hs hL hbd hlo
    go_wp2
    refine wp_region_stored 8 [30, 31, 32, 33, 34, 35, 36, 5, 1000] [] (by kernel_rfl) (by kernel_rfl) (by intro d hd; simp at hd ⊢; omega) (fun y => BxB w0 w0.heap.size A n c F m d y ∧ Below y5.heap.size y5 y) (PhiMo w0 A n c F m d W E N nn nc need y5.heap.size) (ThD y5 5 nn m need E)
      (fun x y h hb => ⟨h.1.next hb, h.2.trans (hb.mono h.2.size)⟩) (phiMo_below w0 A n c F m d W E N nn nc need y5.heap.size) (⟨B5.out.next (Below.refl _ _).drew, (Below.refl _ _).drew⟩) ?hstep ?hpure ?hstore ?htheta ?hend
    case hstep =>
      intro kq o hkp hkS ho a w hI hA hd K hK
      obtain ⟨ρ, hρ⟩ : ∃ ρ, a.eval = ρ := ⟨_, rfl⟩
      rw [hρ] at hA hd
      match kq, hkp, hkS, ho with
      | 0, _, _, ho =>
        have hoo := Option.some.inj ho
        subst hoo
        exact fx_val hK hρ (.slice N nn nc) (by have h := hA.tmp 1 (by decide); simp [execOp, h, go_sem]) rfl
      | 1, _, _, ho =>
        have hoo := Option.some.inj ho
        subst hoo
        have f0 : (ρ (.tmp 30)) = .slice N nn nc := hd ⟨0, .data⟩ (by simp) (by rfl)
        exact fx_call hK hρ 16 _ _ #[.slice N nn nc] rfl (by simp only [List.map_toArray, List.map_cons, List.map_nil, hA.const, f0]) (eg_of Tryd.func16 (by kernel_rfl) rfl) ((ints10_any w HZ.out.hn (by have := HZ.out.ln; omega) (HS.out w hI.1.bel).ints HZ.out.hN).mono fun e w' ⟨A', c', he, h1, h2, hb⟩ => ⟨_, he, ⟨A', c', rfl, h1, h2⟩, hb⟩)
      | 2, _, _, ho =>
        have hoo := Option.some.inj ho
        subst hoo
        exact fx_make hK hρ (.slice (some ⟨w.heap.size, 0, none⟩) 0 0) (w.alloc (.cells #[] 45)) (by simp [execOp, go_sem]) ⟨_, rfl, heap_alloc_new w _, hI.2.size⟩ (below_alloc _)
      | 3, _, _, ho =>
        have hoo := Option.some.inj ho
        subst hoo
        exact fx_val hK hρ (.pointer (some ⟨w0.heap.size, 1, none⟩)) (by have h := hA.tmp 2 (by decide); simp [execOp, h, go_sem]) rfl
      | 4, _, _, ho =>
        have hoo := Option.some.inj ho
        subst hoo
        have f3 : (ρ (.tmp 33)) = .pointer (some ⟨w0.heap.size, 1, none⟩) := hd ⟨3, .data⟩ (by simp) (by rfl)
        exact fx_val hK hρ (.slice F m d) (by have h1 := hI.1.p1; simp [execOp, f3, h1, go_sem]) rfl
      | 5, _, _, ho =>
        have hoo := Option.some.inj ho
        subst hoo
        have f2 : GXr 45 y5.heap.size (ρ (.tmp 32)) w := hd ⟨2, .data⟩ (by simp) (by rfl)
        have f4 : (ρ (.tmp 34)) = .slice F m d := hd ⟨4, .data⟩ (by simp) (by rfl)
        obtain ⟨F2, d2, w2', hr, hg8, hbb⟩ := app_edges f2 (HG.out w hI.1.bel).hm (HG.out w hI.1.bel).lm (HG.out w hI.1.bel).pairs (HG.out w hI.1.bel).hF hI.2.size
        exact fx_make hK hρ _ w2' (by simp [execOp, resolve, invoke, builtin, f4, hr, Result.andThen]) hg8 hbb
      | 6, _, _, ho =>
        have hoo := Option.some.inj ho
        subst hoo
        have f1 : GXn nn need (ρ (.tmp 31)) w := hd ⟨1, .data⟩ (by simp) (by rfl)
        have f5 : GXe m E (ρ (.tmp 35)) w := hd ⟨5, .data⟩ (by simp) (by rfl)
        obtain ⟨A1, c1, f1', hi1, hn1⟩ := f1
        obtain ⟨F2, d2, f5', hp5, hn5⟩ := f5
        exact fx_val hK hρ (.agg #[.slice A1 nn c1, .slice F2 m d2]) (by simp [execOp, f1', f5', go_sem]) ⟨A1, c1, F2, d2, rfl, ⟨HZ.out.hn, (HG.out w hI.1.bel).hm, HZ.out.ln, (HG.out w hI.1.bel).lm, hi1, hp5, hn1, hn5, HTW.out w hI.1.bel⟩⟩
      | 7, _, _, ho =>
        have hoo := Option.some.inj ho
        subst hoo
        exact fx_make hK hρ (.pointer (some ⟨w.heap.size, 0, none⟩)) (w.alloc (.cells #[.slice none 0 0, .slice none 0 0] 25)) (by simp [execOp, go_sem]) ⟨_, rfl, hI.2.size, heap_alloc_new w _⟩ (below_alloc _)
      | 8, hkp, _, _ => exact absurd rfl hkp
      | kq + 9, _, _, ho => simp at ho
    case hpure =>
      intro kq o hkS ho ρ w hA hd
      exact absurd hkS (by simp)
    case hstore =>
      intro o ho a w hI hA hF K hK
      have hoo := Option.some.inj ho
      subst hoo
      exact stD (slot := 5) rfl rfl rfl (hF 7 (by decide) (by decide) (by simp)) (hF 6 (by decide) (by decide) (by simp)) hI.2 HTB.out hK
    case htheta =>
      intro f g w h hT
      exact ThD.slot hT (h 7 (by decide) (by decide) (by simp))
    case hend =>
      intro vals xw hT he
      obtain ⟨g, A6, c6, F6, d6, f5, hbl, hgl, hbox⟩ := hT
      have C6 : Hid (MxB w0 A n c F m d g nn need E A6 c6 F6 d6 xw) := Lib.hid ⟨B5.out.next hbl, hbox⟩
      have HGS := Lib.hid (World.block_lt_of_cell? _ _ hbox.cells.1)
      clear he hbl hgl hbox B5
      simp only [fillA, fillL, List.contains_cons, List.contains_nil, Nat.reduceBEq, Bool.or_false, Bool.false_or, Bool.or_true, Bool.true_or, cond_true, cond_false, Nat.zero_add, Nat.reduceAdd]
      rw [f5]
      clear f5
      have hgs := HGS.out
      obtain ⟨p0, p1⟩ := C6.out.box.cells
      go_wp2_with fail
      refine (total_done _ C6.out.box.g).mono ?_
      rintro e y7 ⟨rfl, b⟩
      have B7 := Lib.hid (C6.out.next b)
      rw [HTV.out]
      clear b p0 p1 C6 HGS hgs
      obtain ⟨q0, q1⟩ := B7.out.cells
      go_wp2_with fail
      refine (own_g10 (HG.out _ B7.out.bel)).mono ?_
      rintro e y8 ⟨Ad2, cd2, Fd2, dd2, rfl, hg, b⟩
      have B8 := Lib.hid (B7.out.next b)
      have HGd := Lib.hid hg
      clear b hg q0 q1
      go_wp2_with fail
      refine (ints10_any _ HZ.out.hn (by have := HZ.out.ln; omega) (HS.out _ B8.out.bel).ints HZ.out.hN).mono ?_
      rintro e y9 ⟨An2, cn2, rfl, hI, hN, b⟩
      have B9 := Lib.hid (B8.out.next b)
      have HGI := Lib.hid (And.intro (HGd.out.below b) (And.intro hI hN))
      clear b hI hN HGd
      go_wp2_with fail
      refine (bound_any 1 _ HGI.out.1 HZ.out.hn HZ.out.ln HGI.out.2.1 HGI.out.2.2).mono ?_
      rintro e y10 ⟨rfl, b⟩
      have B10 := Lib.hid (B9.out.next b)
      rw [HB1.out]
      clear b HGI B7 B8 B9
      have hss : (s != s) = false := by simp
      go_wp2
      go_loopw [6, 7] (fun sv v wr => ∃ k : Nat, 2 ≤ k ∧ k ≤ 9 ∧ v = .int .i64 k ∧ sv = .int .i64 (bd (k - 1)) ∧ Hid (MxB w0 A n c F m d g nn need E A6 c6 F6 d6 wr)) (fun _ v _ => 9 - (intOf v).toNat)
      case atStart => exact ⟨2, by omega, by omega, rfl, by rw [← hbs1], B10⟩
      case round =>
        obtain ⟨k, hk, hk9, rfl, rfl, B20⟩ := hrel
        clear B10
        by_cases hlt : k ≤ 8
        · obtain ⟨hs1, hs2⟩ := HST.out k hk hlt
          have hs1' : decide (bd (k - 1) < bd k) = false := decide_eq_false (by omega)
          have hs2' : decide (bd k < L) = false := decide_eq_false (by omega)
          obtain ⟨q0, q1⟩ := B20.out.cells
          go_wp2_with fail
          refine (own_g10 (HG.out _ B20.out.bel)).mono ?_
          rintro e y21 ⟨Ad3, cd3, Fd3, dd3, rfl, hg, b⟩
          have B21 := Lib.hid (B20.out.next b)
          have HGd := Lib.hid hg
          clear b hg q0 q1
          go_wp2_with fail
          refine (ints10_any _ HZ.out.hn (by have := HZ.out.ln; omega) (HS.out _ B21.out.bel).ints HZ.out.hN).mono ?_
          rintro e y22 ⟨An3, cn3, rfl, hI, hN, b⟩
          have B22 := Lib.hid (B21.out.next b)
          have HGI := Lib.hid (And.intro (HGd.out.below b) (And.intro hI hN))
          clear b hI hN HGd
          go_wp2_with fail
          refine (bound_any (k : Int) _ HGI.out.1 HZ.out.hn HZ.out.ln HGI.out.2.1 HGI.out.2.2).mono ?_
          rintro e y23 ⟨rfl, b⟩
          have B23 := Lib.hid (B22.out.next b)
          rw [HBE.out]
          clear b HGI B20 B21 B22
          obtain ⟨p0, p1⟩ := B23.out.box.cells
          go_wp2_with fail
          refine (long_done _ B23.out.box.g).mono ?_
          rintro e y24 ⟨rfl, b⟩
          have B24 := Lib.hid (B23.out.next b)
          rw [← HL.out]
          clear b p0 p1
          go_wp2
          go_roundw
          case rel => exact ⟨k + 1, by omega, by omega, by go_num, by rw [Nat.add_sub_cancel], B24⟩
          case measure => simp [intOf]; omega
        · obtain rfl : k = 9 := by omega
          obtain ⟨q0, q1⟩ := B20.out.cells
          go_wp2_with fail
          refine (own_g10 (HG.out _ B20.out.bel)).mono ?_
          rintro e y21 ⟨Ad4, cd4, Fd4, dd4, rfl, hg, b⟩
          have B21 := Lib.hid (B20.out.next b)
          have HGd := Lib.hid hg
          clear b hg q0 q1
          go_wp2_with fail
          refine (ints10_any _ HZ.out.hn (by have := HZ.out.ln; omega) (HS.out _ B21.out.bel).ints HZ.out.hN).mono ?_
          rintro e y22 ⟨An4, cn4, rfl, hI, hN, b⟩
          have B22 := Lib.hid (B21.out.next b)
          have HGI := Lib.hid (And.intro (HGd.out.below b) (And.intro hI hN))
          clear b hI hN HGd
          go_wp2_with fail
          refine (bound_any 9 _ HGI.out.1 HZ.out.hn HZ.out.ln HGI.out.2.1 HGI.out.2.2).mono ?_
          rintro e y23 ⟨rfl, b⟩
          have B23 := Lib.hid (B22.out.next b)
          rw [HB9.out]
          clear b HGI
          go_wp2
          go_ret
          exact ⟨rfl, B23.out.bel⟩
  · have hne : (z != 0) = true := bne_iff_ne.mpr hz
    clear hz
    go_wp2_with fail
    refine (awake10_any _ (HTW.out _ B5.out.bel)).mono ?_
    rintro e y6 ⟨rfl, b⟩
    have B6 := Lib.hid (B5.out.next b)
    clear b
    go_wp2_with fail
    go_ret
    exact ⟨rfl, B6.out.bel⟩
theorem walk_SchedMore (w0 : World) (hg : InG w0 A n c F m d W E) (hN : InN w0 N nn nc need) (hT : Tab64 w0) : Calls Tryd.prog 9 #[.agg #[.slice A n c, .slice F m d], .slice N nn nc] w0 fun e w' => e = .returned (.bool true) ∧ Below w0.heap.size w0 w' := by
  by_cases h : (n ≤ 70 ∧ m ≤ 300) ∧ nn ≤ 70
  · exact more_few w0 (hg.isG hT h.1.1 h.1.2) ⟨hN.hn, rfl, by omega, by omega, fun r hr => by simp at hr, hN.ints, Trc.nil_ _ _ none, hN.hN, fun _ => ⟨rfl, rfl⟩⟩ h.1.1 h.1.2 h.2
  · exact more_many w0 hT hg hN h
end
end Go.Proofs.YtpaambpajpmjdaaDoor
