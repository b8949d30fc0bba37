/- The walk of EvalReady in the seat YtmelgolnmnebpaaGreatDoor (printed by eval/mk_ready.py). No statement is proved here. -/
import Derived.Test.YtmelgolnmnebpaaGreatDoorZM33
import Derived.Test.YtmelgolnmnebpaaGreatDoorZM34
set_option linter.unusedSimpArgs false
set_option linter.unusedVariables false
set_option linter.unusedSimpArgs false
namespace Go.Proofs.YtmelgolnmnebpaaGreatDoor
open Go.RowKit

def PhiYa (P : Option Addr) (np pc : Nat) (E : Option Addr) (ne ec : Nat) (Fu : Option Addr) (nf fc : Nat) (R : Option Addr) (nr rc : Nat) (T : Task) (A : Option Addr) (n c : Nat) (F : Option Addr) (m d : Nat) (D : List Bool) (V : List Int) : Nat → Value → World → Prop
  | 0, v, w => v = .bool true
  | 1, v, w => v = .bool false
  | 2, v, w => v = .bool false
  | 3, v, w => v = (⟨P, np, pc, E, ne, ec, Fu, nf, fc, R, nr, rc⟩ : Sh).arg T.period T.deadline
  | 4, v, w => v = .agg #[.slice A n c, .slice F m d]
  | 5, v, w => v = .bool false
  | 6, v, w => v = .bool true
  | 7, v, w => v = .bool true
  | 8, v, w => v = .bool true
  | 9, v, w => True
  | 10, v, w => True
  | 11, v, w => True
  | 12, v, w => True
  | 13, v, w => True
  | 14, v, w => True
  | 15, v, w => v = .bool true
  | _, _, _ => True
theorem phiYa_below (P : Option Addr) (np pc : Nat) (E : Option Addr) (ne ec : Nat) (Fu : Option Addr) (nf fc : Nat) (R : Option Addr) (nr rc : Nat) (T : Task) (A : Option Addr) (n c : Nat) (F : Option Addr) (m d : Nat) (D : List Bool) (V : List Int) : ∀ kq v w w', PhiYa P np pc E ne ec Fu nf fc R nr rc T A n c F m d D V kq v w → Below w.heap.size w w' → PhiYa P np pc E ne ec Fu nf fc R nr rc T A n c F m d D V kq v w' := by
  intro kq v w w' h hb
  match kq, h with
  | 0, h => exact h
  | 1, h => exact h
  | 2, h => exact h
  | 3, h => exact h
  | 4, h => exact h
  | 5, h => exact h
  | 6, h => exact h
  | 7, h => exact h
  | 8, h => exact h
  | 9, h => exact h
  | 10, h => exact h
  | 11, h => exact h
  | 12, h => exact h
  | 13, h => exact h
  | 14, h => exact h
  | 15, h => exact h
  | kq + 16, h => exact trivial
def PhiYb (P : Option Addr) (np pc : Nat) (E : Option Addr) (ne ec : Nat) (Fu : Option Addr) (nf fc : Nat) (R : Option Addr) (nr rc : Nat) (T : Task) (A : Option Addr) (n c : Nat) (F : Option Addr) (m d : Nat) (D : List Bool) (V : List Int) (r : Int) (b : Bool) : Nat → Value → World → Prop
  | 0, v, w => v = .bool true
  | 1, v, w => v = .bool false
  | 2, v, w => v = .bool false
  | 3, v, w => v = (⟨P, np, pc, E, ne, ec, Fu, nf, fc, R, nr, rc⟩ : Sh).arg T.period T.deadline
  | 4, v, w => v = .agg #[.slice A n c, .slice F m d]
  | 5, v, w => v = .bool true
  | 6, v, w => v = .bool false
  | 7, v, w => v = .bool false
  | 8, v, w => v = .bool false
  | 9, v, w => v = (⟨P, np, pc, E, ne, ec, Fu, nf, fc, R, nr, rc⟩ : Sh).arg T.period T.deadline
  | 10, v, w => GDq T v w
  | 11, v, w => v = .agg #[.slice A n c, .slice F m d]
  | 12, v, w => GMq n m D V v w
  | 13, v, w => v = .int .i64 r
  | 14, v, w => v = .bool b
  | 15, v, w => v = .bool b
  | _, _, _ => True
theorem phiYb_below (P : Option Addr) (np pc : Nat) (E : Option Addr) (ne ec : Nat) (Fu : Option Addr) (nf fc : Nat) (R : Option Addr) (nr rc : Nat) (T : Task) (A : Option Addr) (n c : Nat) (F : Option Addr) (m d : Nat) (D : List Bool) (V : List Int) (r : Int) (b : Bool) : ∀ kq v w w', PhiYb P np pc E ne ec Fu nf fc R nr rc T A n c F m d D V r b kq v w → Below w.heap.size w w' → PhiYb P np pc E ne ec Fu nf fc R nr rc T A n c F m d D V r b kq v w' := by
  intro kq v w w' h hb
  match kq, h with
  | 0, h => exact h
  | 1, h => exact h
  | 2, h => exact h
  | 3, h => exact h
  | 4, h => exact h
  | 5, h => exact h
  | 6, h => exact h
  | 7, h => exact h
  | 8, h => exact h
  | 9, h => exact h
  | 10, h => exact GDq.below h hb
  | 11, h => exact h
  | 12, h => exact GMq.below h hb
  | 13, h => exact h
  | 14, h => exact h
  | 15, h => exact h
  | kq + 16, h => exact trivial
def PhiYc (P : Option Addr) (np pc : Nat) (E : Option Addr) (ne ec : Nat) (Fu : Option Addr) (nf fc : Nat) (R : Option Addr) (nr rc : Nat) (T : Task) (A : Option Addr) (n c : Nat) (F : Option Addr) (m d : Nat) (D : List Bool) (V : List Int) (k : Nat) (zs : List Int) : Nat → Value → World → Prop
  | 0, v, w => v = (⟨P, np, pc, E, ne, ec, Fu, nf, fc, R, nr, rc⟩ : Sh).arg T.period T.deadline
  | 1, v, w => GDq T v w
  | 2, v, w => v = .agg #[.slice A n c, .slice F m d]
  | 3, v, w => GMq n m D V v w
  | 4, v, w => GLq k zs v w
  | 5, v, w => GLq k zs v w
  | _, _, _ => True
theorem phiYc_below (P : Option Addr) (np pc : Nat) (E : Option Addr) (ne ec : Nat) (Fu : Option Addr) (nf fc : Nat) (R : Option Addr) (nr rc : Nat) (T : Task) (A : Option Addr) (n c : Nat) (F : Option Addr) (m d : Nat) (D : List Bool) (V : List Int) (k : Nat) (zs : List Int) : ∀ kq v w w', PhiYc P np pc E ne ec Fu nf fc R nr rc T A n c F m d D V k zs kq v w → Below w.heap.size w w' → PhiYc P np pc E ne ec Fu nf fc R nr rc T A n c F m d D V k zs kq v w' := by
  intro kq v w w' h hb
  match kq, h with
  | 0, h => exact h
  | 1, h => exact GDq.below h hb
  | 2, h => exact h
  | 3, h => exact GMq.below h hb
  | 4, h => exact GLq.below h hb
  | 5, h => exact GLq.below h hb
  | kq + 6, h => exact trivial
section
variable {s : Sh} {T : Task} {A : Option Addr} {n c : Nat} {F : Option Addr} {m d : Nat} {D : List Bool} {V : List Int}
set_option maxRecDepth 100000 in
set_option maxHeartbeats 16000000 in
theorem ready_many (w0 : World) (node : Int) (hd : InD w0 s T) (hm : InM w0 A n c F m d D V) (hT : DTab w0) (h : ¬ (FewD T ∧ n ≤ 70 ∧ m ≤ 70)) : Calls Tryz.prog 7 #[s.arg T.period T.deadline, .agg #[.slice A n c, .slice F m d], .int .i64 node] w0 fun z w' => z = .returned (.bool true) ∧ Below w0.heap.size w0 w' := by
  have HTW := Lib.hid (fun W (h : Below w0.heap.size w0 W) => DTab.via hT h)
  have B0 := Lib.hid (BxV.start (D := D) (V := V) hd.t hm)
  have HLE := Lib.hid (And.intro hd.lE hd.lF)
  have CF := Lib.hid (fun W (k : IsT W W.heap.size s T) => few8_any (s := s) (T := T) (A := A) (n := n) (c := c) (F := F) (m := m) (d := d) (Ai := none) (ni := 0) (ci := 0) W k false ⟨fun e => (by cases e), fun e => absurd ⟨e.1, e.2.2⟩ h⟩)
  obtain ⟨P, np, pc, E, ne, ec, Fu, nf, fc, R, nr, rc⟩ := s
  simp only at B0 CF HLE
  obtain ⟨wb, hwb⟩ : ∃ wb, wb = (w0.alloc (.cells #[.int .i64 T.period, .int .i64 T.deadline, .slice P np pc, .slice E ne ec, .slice Fu nf fc, .slice R nr rc] 27)).alloc (.cells #[.slice A n c, .slice F m d] 43) := ⟨_, rfl⟩
  rw [← hwb] at B0
  have HW := Lib.hid hwb
  clear hd hm hT h hwb
  go_enter Tryz.func7, Tryz.ntmps7
  go_wp2_with fail
  rw [← HW.out]
  clear HW
  refine wp_region_facts' [18, 19, 20, 21, 22, 23, 24, 25, 26, 27, 28, 29, 30, 31, 32, 33] [true, true, true, true, true, true, true, true, true, false, false, false, false, false, false, true] [(2, false), (8, true)] (by kernel_rfl) (by kernel_rfl) (by kernel_rfl) (by intro d hd; simp at hd ⊢; omega) (BxV w0 (⟨P, np, pc, E, ne, ec, Fu, nf, fc, R, nr, rc⟩ : Sh) T A n c F m d D V) (PhiYa P np pc E ne ec Fu nf fc R nr rc T A n c F m d D V)
    (fun x y h hb => h.next hb) (phiYa_below P np pc E ne ec Fu nf fc R nr rc T A n c F m d D V) (B0.out.next (Below.refl _ _).drew) (fun p hp v w hv => by
      simp only [List.mem_cons, List.not_mem_nil, or_false] at hp
      rcases hp with rfl | rfl <;> exact hv) (fun kq hkq w => by
      have hlt : kq < 16 := by
        apply Classical.byContradiction
        intro h
        rw [List.getD_eq_getElem?_getD, List.getElem?_eq_none (by simp; omega)] at hkq
        simp at hkq
      match kq, hlt, hkq with
      | 0, _, h => exact absurd h (by decide)
      | 1, _, h => exact absurd h (by decide)
      | 2, _, h => exact absurd h (by decide)
      | 3, _, h => exact absurd h (by decide)
      | 4, _, h => exact absurd h (by decide)
      | 5, _, h => exact absurd h (by decide)
      | 6, _, h => exact absurd h (by decide)
      | 7, _, h => exact absurd h (by decide)
      | 8, _, h => exact absurd h (by decide)
      | 9, _, _ => exact trivial
      | 10, _, _ => exact trivial
      | 11, _, _ => exact trivial
      | 12, _, _ => exact trivial
      | 13, _, _ => exact trivial
      | 14, _, _ => exact trivial
      | 15, _, h => exact absurd h (by decide)
      | kq + 16, h, _ => omega) ?hstep ?hend
  case hstep =>
    intro kq o ho hw a w hI hA hd K hK
    obtain ⟨ρ, hρ⟩ : ∃ ρ, a.eval = ρ := ⟨_, rfl⟩
    rw [hρ] at hA hd
    match kq, ho with
    | 0, ho =>
      have hoo := Option.some.inj ho
      subst hoo
      exact fx_call hK hρ 15 _ _ #[] rfl (by simp) (eg_of Tryz.func15 (by kernel_rfl) rfl) ((awakeE_any _ (HTW.out _ hI.k.bel)).mono fun e w' ⟨he, hb⟩ => ⟨_, he, rfl, hb⟩)
    | 1, ho =>
      have hoo := Option.some.inj ho
      subst hoo
      have f0 : (ρ (.tmp 18)) = .bool true := hd ⟨0, .data⟩ (by simp) (by rfl)
      exact fx_val hK hρ (.bool false) (by simp [execOp, f0, hA.const, go_sem]) rfl
    | 2, ho =>
      have hoo := Option.some.inj ho
      subst hoo
      have f1 : (ρ (.tmp 19)) = .bool false := hd ⟨1, .data⟩ (by simp) (by rfl)
      exact fx_val hK hρ (.bool false) (by simp [execOp, f1, hA.const, go_sem]) rfl
    | 3, ho =>
      have hoo := Option.some.inj ho
      subst hoo
      exact fx_val hK hρ ((⟨P, np, pc, E, ne, ec, Fu, nf, fc, R, nr, rc⟩ : Sh).arg T.period T.deadline) (ld_desc rfl (hA.tmp 3 (by decide)) hI.k.cd) rfl
    | 4, ho =>
      have hoo := Option.some.inj ho
      subst hoo
      exact fx_val hK hρ _ (by have h := hA.tmp 4 (by decide); have h0 := hI.k.m0; have h1 := hI.k.m1; simp [execOp, h, h0, h1, go_sem]) rfl
    | 5, ho =>
      have hoo := Option.some.inj ho
      subst hoo
      have f3 : (ρ (.tmp 21)) = (⟨P, np, pc, E, ne, ec, Fu, nf, fc, R, nr, rc⟩ : Sh).arg T.period T.deadline := hd ⟨3, .data⟩ (by simp) (by rfl)
      have f4 : (ρ (.tmp 22)) = .agg #[.slice A n c, .slice F m d] := hd ⟨4, .data⟩ (by simp) (by rfl)
      exact fx_call hK hρ 16 _ _ #[(⟨P, np, pc, E, ne, ec, Fu, nf, fc, R, nr, rc⟩ : Sh).arg T.period T.deadline, .slice none 0 0, .agg #[.slice A n c, .slice F m d]] rfl (by simp only [List.map_toArray, List.map_cons, List.map_nil, hA.const, f3, f4]) (eg_of Tryz.func16 (by kernel_rfl) rfl) ((CF.out _ hI.k.t).mono fun e w' ⟨he, hb⟩ => ⟨_, he, rfl, hb⟩)
    | 6, ho =>
      have hoo := Option.some.inj ho
      subst hoo
      have f5 : (ρ (.tmp 23)) = .bool false := hd ⟨5, .data⟩ (by simp) (by rfl)
      exact fx_val hK hρ (.bool true) (by simp [execOp, f5, hA.const, go_sem]) rfl
    | 7, ho =>
      have hoo := Option.some.inj ho
      subst hoo
      have f2 : (ρ (.tmp 20)) = .bool false := hd ⟨2, .data⟩ (by simp) (by rfl)
      have f6 : (ρ (.tmp 24)) = .bool true := hd ⟨6, .data⟩ (by simp) (by rfl)
      exact fx_val hK hρ (.bool true) (by simp [execOp, f2, f6, hA.const, hA.const, go_sem]) rfl
    | 8, ho =>
      have hoo := Option.some.inj ho
      subst hoo
      have f7 : (ρ (.tmp 25)) = .bool true := hd ⟨7, .data⟩ (by simp) (by rfl)
      exact fx_val hK hρ (.bool true) (by simp [execOp, f7, hA.const, go_sem]) rfl
    | 9, ho =>
      exact absurd hw (by decide)
    | 10, ho =>
      exact absurd hw (by decide)
    | 11, ho =>
      exact absurd hw (by decide)
    | 12, ho =>
      exact absurd hw (by decide)
    | 13, ho =>
      exact absurd hw (by decide)
    | 14, ho =>
      exact absurd hw (by decide)
    | 15, ho =>
      have hoo := Option.some.inj ho
      subst hoo
      have f8 : (ρ (.tmp 26)) = .bool true := hd ⟨8, .data⟩ (by simp) (by rfl)
      exact fx_val hK hρ (.bool true) (by simp [execOp, f8, hA.const, hA.const, go_sem]) rfl
    | kq + 16, ho => simp at ho
  case hend =>
    intro vals xw hI hF
    have fz : vals 33 = .bool true := hF 15 (by decide)
    simp only [fillA, fillL, List.contains_cons, List.contains_nil, Nat.reduceBEq, Bool.or_false, Bool.false_or, Bool.or_true, Bool.true_or, cond_true, cond_false, Nat.zero_add, Nat.reduceAdd]
    rw [fz]
    have B1 := Lib.hid hI
    clear hF hI fz
    go_wp2_with fail
    refine (awakeE_any _ (HTW.out _ B1.out.k.bel)).mono ?_
    rintro e w2 ⟨rfl, b2⟩
    have B2 := Lib.hid (B1.out.next b2)
    clear b2
    go_wp2_with fail
    go_ret
    exact ⟨rfl, B2.out.k.bel⟩
set_option maxRecDepth 100000 in
set_option maxHeartbeats 16000000 in
theorem ready_bad (w0 : World) (node : Int) (hd : InD w0 s T) (hm : InM w0 A n c F m d D V) (hT : DTab w0) (h1 : FewD T) (l1 : n ≤ 70) (l2 : m ≤ 70) (hc : chkM T D V ≠ 0) : Calls Tryz.prog 7 #[s.arg T.period T.deadline, .agg #[.slice A n c, .slice F m d], .int .i64 node] w0 fun z w' => z = .returned (.bool true) ∧ Below w0.heap.size w0 w' := by
  have HTW := Lib.hid (fun W (h : Below w0.heap.size w0 W) => DTab.via hT h)
  have B0 := Lib.hid (BxV.start (D := D) (V := V) hd.t hm)
  have HLE := Lib.hid (And.intro hd.lE hd.lF)
  have CF := Lib.hid (fun W (k : IsT W W.heap.size s T) => few8_any (s := s) (T := T) (A := A) (n := n) (c := c) (F := F) (m := m) (d := d) (Ai := none) (ni := 0) (ci := 0) W k true ⟨fun _ => ⟨h1, by decide, l1, l2⟩, fun _ => rfl⟩)
  have HF := Lib.hid (And.intro h1 True.intro)
  obtain ⟨r, hr⟩ : ∃ r, r = chkM T D V := ⟨_, rfl⟩
  rw [← hr] at hc
  obtain ⟨b, hb⟩ : ∃ b : Bool, b = true := ⟨_, rfl⟩
  have HB : Hid ((r != 0) = b) := Lib.hid (by rw [hb]; exact bne_iff_ne.mpr hc)
  have HR := Lib.hid hr.symm
  have HBT := Lib.hid hb
  obtain ⟨P, np, pc, E, ne, ec, Fu, nf, fc, R, nr, rc⟩ := s
  simp only at B0 CF HLE
  obtain ⟨wb, hwb⟩ : ∃ wb, wb = (w0.alloc (.cells #[.int .i64 T.period, .int .i64 T.deadline, .slice P np pc, .slice E ne ec, .slice Fu nf fc, .slice R nr rc] 27)).alloc (.cells #[.slice A n c, .slice F m d] 43) := ⟨_, rfl⟩
  rw [← hwb] at B0
  have HW := Lib.hid hwb
  clear hd hm hT h1 hwb hr hc hb
  go_enter Tryz.func7, Tryz.ntmps7
  go_wp2_with fail
  rw [← HW.out]
  clear HW
  refine wp_region_facts' [18, 19, 20, 21, 22, 23, 24, 25, 26, 27, 28, 29, 30, 31, 32, 33] [] [(2, false), (8, false)] (by kernel_rfl) (by kernel_rfl) (by kernel_rfl) (by intro d hd; simp at hd ⊢; omega) (BxV w0 (⟨P, np, pc, E, ne, ec, Fu, nf, fc, R, nr, rc⟩ : Sh) T A n c F m d D V) (PhiYb P np pc E ne ec Fu nf fc R nr rc T A n c F m d D V r b)
    (fun x y h hb => h.next hb) (phiYb_below P np pc E ne ec Fu nf fc R nr rc T A n c F m d D V r b) (B0.out.next (Below.refl _ _).drew) (fun p hp v w hv => by
      simp only [List.mem_cons, List.not_mem_nil, or_false] at hp
      rcases hp with rfl | rfl <;> exact hv) (fun kq hkq => by simp at hkq) ?hstep ?hend
  case hstep =>
    intro kq o ho hw a w hI hA hd K hK
    obtain ⟨ρ, hρ⟩ : ∃ ρ, a.eval = ρ := ⟨_, rfl⟩
    rw [hρ] at hA hd
    match kq, ho with
    | 0, ho =>
      have hoo := Option.some.inj ho
      subst hoo
      exact fx_call hK hρ 15 _ _ #[] rfl (by simp) (eg_of Tryz.func15 (by kernel_rfl) rfl) ((awakeE_any _ (HTW.out _ hI.k.bel)).mono fun e w' ⟨he, hb⟩ => ⟨_, he, rfl, hb⟩)
    | 1, ho =>
      have hoo := Option.some.inj ho
      subst hoo
      have f0 : (ρ (.tmp 18)) = .bool true := hd ⟨0, .data⟩ (by simp) (by rfl)
      exact fx_val hK hρ (.bool false) (by simp [execOp, f0, hA.const, go_sem]) rfl
    | 2, ho =>
      have hoo := Option.some.inj ho
      subst hoo
      have f1 : (ρ (.tmp 19)) = .bool false := hd ⟨1, .data⟩ (by simp) (by rfl)
      exact fx_val hK hρ (.bool false) (by simp [execOp, f1, hA.const, go_sem]) rfl
    | 3, ho =>
      have hoo := Option.some.inj ho
      subst hoo
      exact fx_val hK hρ ((⟨P, np, pc, E, ne, ec, Fu, nf, fc, R, nr, rc⟩ : Sh).arg T.period T.deadline) (ld_desc rfl (hA.tmp 3 (by decide)) hI.k.cd) rfl
    | 4, ho =>
      have hoo := Option.some.inj ho
      subst hoo
      exact fx_val hK hρ _ (by have h := hA.tmp 4 (by decide); have h0 := hI.k.m0; have h1 := hI.k.m1; simp [execOp, h, h0, h1, go_sem]) rfl
    | 5, ho =>
      have hoo := Option.some.inj ho
      subst hoo
      have f3 : (ρ (.tmp 21)) = (⟨P, np, pc, E, ne, ec, Fu, nf, fc, R, nr, rc⟩ : Sh).arg T.period T.deadline := hd ⟨3, .data⟩ (by simp) (by rfl)
      have f4 : (ρ (.tmp 22)) = .agg #[.slice A n c, .slice F m d] := hd ⟨4, .data⟩ (by simp) (by rfl)
      exact fx_call hK hρ 16 _ _ #[(⟨P, np, pc, E, ne, ec, Fu, nf, fc, R, nr, rc⟩ : Sh).arg T.period T.deadline, .slice none 0 0, .agg #[.slice A n c, .slice F m d]] rfl (by simp only [List.map_toArray, List.map_cons, List.map_nil, hA.const, f3, f4]) (eg_of Tryz.func16 (by kernel_rfl) rfl) ((CF.out _ hI.k.t).mono fun e w' ⟨he, hb⟩ => ⟨_, he, rfl, hb⟩)
    | 6, ho =>
      have hoo := Option.some.inj ho
      subst hoo
      have f5 : (ρ (.tmp 23)) = .bool true := hd ⟨5, .data⟩ (by simp) (by rfl)
      exact fx_val hK hρ (.bool false) (by simp [execOp, f5, hA.const, go_sem]) rfl
    | 7, ho =>
      have hoo := Option.some.inj ho
      subst hoo
      have f2 : (ρ (.tmp 20)) = .bool false := hd ⟨2, .data⟩ (by simp) (by rfl)
      have f6 : (ρ (.tmp 24)) = .bool false := hd ⟨6, .data⟩ (by simp) (by rfl)
      exact fx_val hK hρ (.bool false) (by simp [execOp, f2, f6, hA.const, hA.const, go_sem]) rfl
    | 8, ho =>
      have hoo := Option.some.inj ho
      subst hoo
      have f7 : (ρ (.tmp 25)) = .bool false := hd ⟨7, .data⟩ (by simp) (by rfl)
      exact fx_val hK hρ (.bool false) (by simp [execOp, f7, hA.const, go_sem]) rfl
    | 9, ho =>
      have hoo := Option.some.inj ho
      subst hoo
      exact fx_val hK hρ ((⟨P, np, pc, E, ne, ec, Fu, nf, fc, R, nr, rc⟩ : Sh).arg T.period T.deadline) (ld_desc rfl (hA.tmp 3 (by decide)) hI.k.cd) rfl
    | 10, ho =>
      have hoo := Option.some.inj ho
      subst hoo
      have f9 : (ρ (.tmp 27)) = (⟨P, np, pc, E, ne, ec, Fu, nf, fc, R, nr, rc⟩ : Sh).arg T.period T.deadline := hd ⟨9, .data⟩ (by simp) (by rfl)
      exact fx_call hK hρ 12 _ _ #[(⟨P, np, pc, E, ne, ec, Fu, nf, fc, R, nr, rc⟩ : Sh).arg T.period T.deadline] rfl (by simp only [List.map_toArray, List.map_cons, List.map_nil, hA.const, f9]) (eg_of Tryz.func12 (by kernel_rfl) rfl) ((own_d ⟨hI.k.t, HF.out.1.few, HTW.out _ hI.k.bel, HLE.out.1, HLE.out.2⟩).mono fun e w' ⟨s', he, hd, hb⟩ => ⟨_, he, ⟨s', rfl, hd⟩, hb⟩)
    | 11, ho =>
      have hoo := Option.some.inj ho
      subst hoo
      exact fx_val hK hρ _ (by have h := hA.tmp 4 (by decide); have h0 := hI.k.m0; have h1 := hI.k.m1; simp [execOp, h, h0, h1, go_sem]) rfl
    | 12, ho =>
      have hoo := Option.some.inj ho
      subst hoo
      have f11 : (ρ (.tmp 29)) = .agg #[.slice A n c, .slice F m d] := hd ⟨11, .data⟩ (by simp) (by rfl)
      exact fx_call hK hρ 18 _ _ #[.agg #[.slice A n c, .slice F m d]] rfl (by simp only [List.map_toArray, List.map_cons, List.map_nil, hA.const, f11]) (eg_of Tryz.func18 (by kernel_rfl) rfl) ((ownM_any _ hI.l (by omega) (by omega)).mono fun e w' ⟨⟨A1, c1, F1, d1, he, hM⟩, hb⟩ => ⟨_, he, ⟨A1, c1, F1, d1, rfl, hM⟩, hb⟩)
    | 13, ho =>
      have hoo := Option.some.inj ho
      subst hoo
      have f10 : GDq T (ρ (.tmp 28)) w := hd ⟨10, .data⟩ (by simp) (by rfl)
      have f12 : GMq n m D V (ρ (.tmp 30)) w := hd ⟨12, .data⟩ (by simp) (by rfl)
      obtain ⟨s1, f10', hD⟩ := f10
      obtain ⟨A1, c1, F1, d1, f12', hM⟩ := f12
      exact fx_call hK hρ 25 _ _ #[s1.arg T.period T.deadline, .agg #[.slice A1 n c1, .slice F1 m d1]] rfl (by simp only [List.map_toArray, List.map_cons, List.map_nil, hA.const, f10', f12']) (eg_of Tryz.func25 (by kernel_rfl) rfl) ((echeck_any _ hD hM).mono fun e w' ⟨he, hb⟩ => ⟨_, he, by show Value.int .i64 _ = .int .i64 r; rw [HR.out], hb⟩)
    | 14, ho =>
      have hoo := Option.some.inj ho
      subst hoo
      have f13 : (ρ (.tmp 31)) = .int .i64 r := hd ⟨13, .data⟩ (by simp) (by rfl)
      exact fx_val hK hρ (.bool b) (by simp [execOp, f13, HB.out, hA.const, go_sem]) rfl
    | 15, ho =>
      have hoo := Option.some.inj ho
      subst hoo
      have f8 : (ρ (.tmp 26)) = .bool false := hd ⟨8, .data⟩ (by simp) (by rfl)
      have f14 : (ρ (.tmp 32)) = .bool b := hd ⟨14, .data⟩ (by simp) (by rfl)
      exact fx_val hK hρ (.bool b) (by simp [execOp, f8, f14, hA.const, hA.const, go_sem]) rfl
    | kq + 16, ho => simp at ho
  case hend =>
    intro vals xw hI hF
    have fz : vals 33 = .bool b := hF 15 (by decide)
    simp only [fillA, fillL, List.contains_cons, List.contains_nil, Nat.reduceBEq, Bool.or_false, Bool.false_or, Bool.or_true, Bool.true_or, cond_true, cond_false, Nat.zero_add, Nat.reduceAdd]
    rw [fz]
    have hbt := HBT.out
    subst hbt
    have B1 := Lib.hid hI
    clear hF hI fz
    go_wp2_with fail
    refine (awakeE_any _ (HTW.out _ B1.out.k.bel)).mono ?_
    rintro e w2 ⟨rfl, b2⟩
    have B2 := Lib.hid (B1.out.next b2)
    clear b2
    go_wp2_with fail
    go_ret
    exact ⟨rfl, B2.out.k.bel⟩
end
def PhiYe (P : Option Addr) (np pc : Nat) (E : Option Addr) (ne ec : Nat) (Fu : Option Addr) (nf fc : Nat) (R : Option Addr) (nr rc : Nat) (T : Task) (A : Option Addr) (n c : Nat) (F : Option Addr) (m d : Nat) (D : List Bool) (V : List Int) (A2 : Option Addr) (k c2 : Nat) (zs : List Int) (g : Nat) (A3 : Option Addr) (n3 c3 : Nat) (F3 : Option Addr) (m3 d3 : Nat) (D' : List Bool) (V' : List Int) (k2 : Nat) (zs2 : List Int) : Nat → Value → World → Prop
  | 0, v, w => v = (⟨P, np, pc, E, ne, ec, Fu, nf, fc, R, nr, rc⟩ : Sh).arg T.period T.deadline
  | 1, v, w => GDq T v w
  | 2, v, w => v = .agg #[.slice A3 n3 c3, .slice F3 m3 d3]
  | 3, v, w => GXq D' V' v w
  | 4, v, w => GLq k2 zs2 v w
  | 5, v, w => GLq k2 zs2 v w
  | _, _, _ => True
theorem phiYe_below (P : Option Addr) (np pc : Nat) (E : Option Addr) (ne ec : Nat) (Fu : Option Addr) (nf fc : Nat) (R : Option Addr) (nr rc : Nat) (T : Task) (A : Option Addr) (n c : Nat) (F : Option Addr) (m d : Nat) (D : List Bool) (V : List Int) (A2 : Option Addr) (k c2 : Nat) (zs : List Int) (g : Nat) (A3 : Option Addr) (n3 c3 : Nat) (F3 : Option Addr) (m3 d3 : Nat) (D' : List Bool) (V' : List Int) (k2 : Nat) (zs2 : List Int) : ∀ kq v w w', PhiYe P np pc E ne ec Fu nf fc R nr rc T A n c F m d D V A2 k c2 zs g A3 n3 c3 F3 m3 d3 D' V' k2 zs2 kq v w → Below w.heap.size w w' → PhiYe P np pc E ne ec Fu nf fc R nr rc T A n c F m d D V A2 k c2 zs g A3 n3 c3 F3 m3 d3 D' V' k2 zs2 kq v w' := by
  intro kq v w w' h hb
  match kq, h with
  | 0, h => exact h
  | 1, h => exact GDq.below h hb
  | 2, h => exact h
  | 3, h => exact GXq.below h hb
  | 4, h => exact GLq.below h hb
  | 5, h => exact GLq.below h hb
  | kq + 6, h => exact trivial
def PhiYf (P : Option Addr) (np pc : Nat) (E : Option Addr) (ne ec : Nat) (Fu : Option Addr) (nf fc : Nat) (R : Option Addr) (nr rc : Nat) (T : Task) (A : Option Addr) (n c : Nat) (F : Option Addr) (m d : Nat) (D : List Bool) (V : List Int) (A2 : Option Addr) (k c2 : Nat) (zs : List Int) (g : Nat) (A3 : Option Addr) (n3 c3 : Nat) (F3 : Option Addr) (m3 d3 : Nat) (D' : List Bool) (V' : List Int) : Nat → Value → World → Prop
  | 0, v, w => v = .bool true
  | 1, v, w => v = .bool false
  | 2, v, w => v = .bool false
  | 3, v, w => v = (⟨P, np, pc, E, ne, ec, Fu, nf, fc, R, nr, rc⟩ : Sh).arg T.period T.deadline
  | 4, v, w => GDq T v w
  | 5, v, w => v = .agg #[.slice A3 n3 c3, .slice F3 m3 d3]
  | 6, v, w => GXq D' V' v w
  | 7, v, w => v = .int .i64 0
  | 8, v, w => v = .bool true
  | 9, v, w => v = .bool true
  | 10, v, w => v = .bool true
  | _, _, _ => True
theorem phiYf_below (P : Option Addr) (np pc : Nat) (E : Option Addr) (ne ec : Nat) (Fu : Option Addr) (nf fc : Nat) (R : Option Addr) (nr rc : Nat) (T : Task) (A : Option Addr) (n c : Nat) (F : Option Addr) (m d : Nat) (D : List Bool) (V : List Int) (A2 : Option Addr) (k c2 : Nat) (zs : List Int) (g : Nat) (A3 : Option Addr) (n3 c3 : Nat) (F3 : Option Addr) (m3 d3 : Nat) (D' : List Bool) (V' : List Int) : ∀ kq v w w', PhiYf P np pc E ne ec Fu nf fc R nr rc T A n c F m d D V A2 k c2 zs g A3 n3 c3 F3 m3 d3 D' V' kq v w → Below w.heap.size w w' → PhiYf P np pc E ne ec Fu nf fc R nr rc T A n c F m d D V A2 k c2 zs g A3 n3 c3 F3 m3 d3 D' V' kq v w' := by
  intro kq v w w' h hb
  match kq, h with
  | 0, h => exact h
  | 1, h => exact h
  | 2, h => exact h
  | 3, h => exact h
  | 4, h => exact GDq.below h hb
  | 5, h => exact h
  | 6, h => exact GXq.below h hb
  | 7, h => exact h
  | 8, h => exact h
  | 9, h => exact h
  | 10, h => exact h
  | kq + 11, h => exact trivial
def PhiYg (P : Option Addr) (np pc : Nat) (E : Option Addr) (ne ec : Nat) (Fu : Option Addr) (nf fc : Nat) (R : Option Addr) (nr rc : Nat) (T : Task) (A : Option Addr) (n c : Nat) (F : Option Addr) (m d : Nat) (D : List Bool) (V : List Int) (A2 : Option Addr) (k c2 : Nat) (zs : List Int) (g : Nat) (A3 : Option Addr) (n3 c3 : Nat) (F3 : Option Addr) (m3 d3 : Nat) (D' : List Bool) (V' : List Int) : Nat → Value → World → Prop
  | 0, v, w => v = .bool false
  | 1, v, w => v = .bool true
  | 2, v, w => v = .bool true
  | 3, v, w => True
  | 4, v, w => True
  | 5, v, w => True
  | 6, v, w => True
  | 7, v, w => True
  | 8, v, w => True
  | 9, v, w => v = .bool true
  | 10, v, w => v = .bool true
  | _, _, _ => True
theorem phiYg_below (P : Option Addr) (np pc : Nat) (E : Option Addr) (ne ec : Nat) (Fu : Option Addr) (nf fc : Nat) (R : Option Addr) (nr rc : Nat) (T : Task) (A : Option Addr) (n c : Nat) (F : Option Addr) (m d : Nat) (D : List Bool) (V : List Int) (A2 : Option Addr) (k c2 : Nat) (zs : List Int) (g : Nat) (A3 : Option Addr) (n3 c3 : Nat) (F3 : Option Addr) (m3 d3 : Nat) (D' : List Bool) (V' : List Int) : ∀ kq v w w', PhiYg P np pc E ne ec Fu nf fc R nr rc T A n c F m d D V A2 k c2 zs g A3 n3 c3 F3 m3 d3 D' V' kq v w → Below w.heap.size w w' → PhiYg P np pc E ne ec Fu nf fc R nr rc T A n c F m d D V A2 k c2 zs g A3 n3 c3 F3 m3 d3 D' V' kq v w' := by
  intro kq v w w' h hb
  match kq, h with
  | 0, h => exact h
  | 1, h => exact h
  | 2, h => exact h
  | 3, h => exact h
  | 4, h => exact h
  | 5, h => exact h
  | 6, h => exact h
  | 7, h => exact h
  | 8, h => exact h
  | 9, h => exact h
  | 10, h => exact h
  | kq + 11, h => exact trivial
def PhiYd (P : Option Addr) (np pc : Nat) (E : Option Addr) (ne ec : Nat) (Fu : Option Addr) (nf fc : Nat) (R : Option Addr) (nr rc : Nat) (T : Task) (A : Option Addr) (n c : Nat) (F : Option Addr) (m d : Nat) (D : List Bool) (V : List Int) (hbs : Nat) (node fe : Int) (D' : List Bool) (V' : List Int) : Nat → Value → World → Prop
  | 0, v, w => v = (⟨P, np, pc, E, ne, ec, Fu, nf, fc, R, nr, rc⟩ : Sh).arg T.period T.deadline
  | 1, v, w => GDq T v w
  | 2, v, w => v = .agg #[.slice A n c, .slice F m d]
  | 3, v, w => GMq n m D V v w
  | 4, v, w => v = .int .i64 node
  | 5, v, w => GFq D' V' fe v w
  | 6, v, w => GFq D' V' fe v w
  | 7, v, w => GXq D' V' v w
  | 8, v, w => v = .int .i64 fe
  | 9, v, w => GNq hbs v w
  | 10, v, w => True
  | 11, v, w => v = .int .i64 fe
  | _, _, _ => True
theorem phiYd_below (P : Option Addr) (np pc : Nat) (E : Option Addr) (ne ec : Nat) (Fu : Option Addr) (nf fc : Nat) (R : Option Addr) (nr rc : Nat) (T : Task) (A : Option Addr) (n c : Nat) (F : Option Addr) (m d : Nat) (D : List Bool) (V : List Int) (hbs : Nat) (node fe : Int) (D' : List Bool) (V' : List Int) : ∀ kq v w w', PhiYd P np pc E ne ec Fu nf fc R nr rc T A n c F m d D V hbs node fe D' V' kq v w → Below w.heap.size w w' → PhiYd P np pc E ne ec Fu nf fc R nr rc T A n c F m d D V hbs node fe D' V' kq v w' := by
  intro kq v w w' h hb
  match kq, h with
  | 0, h => exact h
  | 1, h => exact GDq.below h hb
  | 2, h => exact h
  | 3, h => exact GMq.below h hb
  | 4, h => exact h
  | 5, h => exact GFq.below h hb
  | 6, h => exact GFq.below h hb
  | 7, h => exact GXq.below h hb
  | 8, h => exact h
  | 9, h => exact GNq.below h hb
  | 10, h => exact h
  | 11, h => exact h
  | kq + 12, h => exact trivial
section
variable {s : Sh} {T : Task} {A : Option Addr} {n c : Nat} {F : Option Addr} {m d : Nat} {D : List Bool} {V : List Int}
set_option maxRecDepth 100000 in
set_option maxHeartbeats 64000000 in
theorem ready_good (w0 : World) (node : Int) (hd : InD w0 s T) (hm : InM w0 A n c F m d D V) (hT : DTab w0) (h1 : FewD T) (l1 : n ≤ 70) (l2 : m ≤ 70) (hok : MemOk T D V) : Calls Tryz.prog 7 #[s.arg T.period T.deadline, .agg #[.slice A n c, .slice F m d], .int .i64 node] w0 fun z w' => z = .returned (.bool true) ∧ Below w0.heap.size w0 w' := by
  have HTW := Lib.hid (fun W (h : Below w0.heap.size w0 W) => DTab.via hT h)
  have B0 := Lib.hid (BxV.start (D := D) (V := V) hd.t hm)
  have HLE := Lib.hid (And.intro hd.lE hd.lF)
  have CF := Lib.hid (fun W (k : IsT W W.heap.size s T) => few8_any (s := s) (T := T) (A := A) (n := n) (c := c) (F := F) (m := m) (d := d) (Ai := none) (ni := 0) (ci := 0) W k true ⟨fun _ => ⟨h1, by decide, l1, l2⟩, fun _ => rfl⟩)
  have HF := Lib.hid (And.intro h1 True.intro)
  obtain ⟨r, hr⟩ : ∃ r, r = chkM T D V := ⟨_, rfl⟩
  have hr0 : r = 0 := by rw [hr]; exact chkM_zero.mpr hok
  obtain ⟨b, hb⟩ : ∃ b : Bool, b = false := ⟨_, rfl⟩
  have HB : Hid ((r != 0) = b) := Lib.hid (by rw [hb, hr0]; rfl)
  have HR := Lib.hid hr.symm
  have HBT := Lib.hid hb
  have HOK := Lib.hid hok
  have HDN := Lib.hid hm.hn
  obtain ⟨zs, hzs⟩ : ∃ zs, nums (readyM T D V) = zs := ⟨_, rfl⟩
  obtain ⟨k, hk⟩ : ∃ k, zs.length = k := ⟨_, rfl⟩
  have HZ := Lib.hid (And.intro hzs hk)
  have HZR : Hid (zs = nums (readyD (lowE T) D)) := Lib.hid (by rw [← hzs]; unfold readyM; rw [if_pos hok])
  obtain ⟨fe, hfe⟩ : ∃ z, finE T D V node = z := ⟨_, rfl⟩
  obtain ⟨D', hD'⟩ : ∃ z, finD T D V node = z := ⟨_, rfl⟩
  obtain ⟨V', hV'⟩ : ∃ z, finV T [] D V node = z := ⟨_, rfl⟩
  have HFE := Lib.hid (And.intro hfe (And.intro hD' hV'))
  obtain ⟨zs2, hzs2⟩ : ∃ zs, nums (readyM T D' V') = zs := ⟨_, rfl⟩
  obtain ⟨k2, hk2⟩ : ∃ k, zs2.length = k := ⟨_, rfl⟩
  have HZ2 := Lib.hid (And.intro hzs2 hk2)
  have hk70 : k ≤ 400 := by
    have h5 := readyK_len (lowE T) D D.length
    have h6 : k = (readyD (lowE T) D).length := by rw [← hk, HZR.out, nums_length]
    have h7 := hm.hn
    have h8 : (readyD (lowE T) D).length = (readyK (lowE T) D D.length).length := rfl
    omega
  obtain ⟨P, np, pc, E, ne, ec, Fu, nf, fc, R, nr, rc⟩ := s
  simp only at B0 CF HLE
  obtain ⟨wb, hwb⟩ : ∃ wb, wb = (w0.alloc (.cells #[.int .i64 T.period, .int .i64 T.deadline, .slice P np pc, .slice E ne ec, .slice Fu nf fc, .slice R nr rc] 27)).alloc (.cells #[.slice A n c, .slice F m d] 43) := ⟨_, rfl⟩
  rw [← hwb] at B0
  have HW := Lib.hid hwb
  clear hd hm hT h1 hwb hr hr0 hb hok hzs hfe hD' hV' hzs2
  go_enter Tryz.func7, Tryz.ntmps7
  go_wp2_with fail
  rw [← HW.out]
  clear HW
  refine wp_region_facts' [18, 19, 20, 21, 22, 23, 24, 25, 26, 27, 28, 29, 30, 31, 32, 33] [] [(2, false), (8, false)] (by kernel_rfl) (by kernel_rfl) (by kernel_rfl) (by intro d hd; simp at hd ⊢; omega) (BxV w0 (⟨P, np, pc, E, ne, ec, Fu, nf, fc, R, nr, rc⟩ : Sh) T A n c F m d D V) (PhiYb P np pc E ne ec Fu nf fc R nr rc T A n c F m d D V r b)
    (fun x y h hb => h.next hb) (phiYb_below P np pc E ne ec Fu nf fc R nr rc T A n c F m d D V r b) (B0.out.next (Below.refl _ _).drew) (fun p hp v w hv => by
      simp only [List.mem_cons, List.not_mem_nil, or_false] at hp
      rcases hp with rfl | rfl <;> exact hv) (fun kq hkq => by simp at hkq) ?hstep ?hend
  case hstep =>
    intro kq o ho hw a w hI hA hd K hK
    obtain ⟨ρ, hρ⟩ : ∃ ρ, a.eval = ρ := ⟨_, rfl⟩
    rw [hρ] at hA hd
    match kq, ho with
    | 0, ho =>
      have hoo := Option.some.inj ho
      subst hoo
      exact fx_call hK hρ 15 _ _ #[] rfl (by simp) (eg_of Tryz.func15 (by kernel_rfl) rfl) ((awakeE_any _ (HTW.out _ hI.k.bel)).mono fun e w' ⟨he, hb⟩ => ⟨_, he, rfl, hb⟩)
    | 1, ho =>
      have hoo := Option.some.inj ho
      subst hoo
      have f0 : (ρ (.tmp 18)) = .bool true := hd ⟨0, .data⟩ (by simp) (by rfl)
      exact fx_val hK hρ (.bool false) (by simp [execOp, f0, hA.const, go_sem]) rfl
    | 2, ho =>
      have hoo := Option.some.inj ho
      subst hoo
      have f1 : (ρ (.tmp 19)) = .bool false := hd ⟨1, .data⟩ (by simp) (by rfl)
      exact fx_val hK hρ (.bool false) (by simp [execOp, f1, hA.const, go_sem]) rfl
    | 3, ho =>
      have hoo := Option.some.inj ho
      subst hoo
      exact fx_val hK hρ ((⟨P, np, pc, E, ne, ec, Fu, nf, fc, R, nr, rc⟩ : Sh).arg T.period T.deadline) (ld_desc rfl (hA.tmp 3 (by decide)) hI.k.cd) rfl
    | 4, ho =>
      have hoo := Option.some.inj ho
      subst hoo
      exact fx_val hK hρ _ (by have h := hA.tmp 4 (by decide); have h0 := hI.k.m0; have h1 := hI.k.m1; simp [execOp, h, h0, h1, go_sem]) rfl
    | 5, ho =>
      have hoo := Option.some.inj ho
      subst hoo
      have f3 : (ρ (.tmp 21)) = (⟨P, np, pc, E, ne, ec, Fu, nf, fc, R, nr, rc⟩ : Sh).arg T.period T.deadline := hd ⟨3, .data⟩ (by simp) (by rfl)
      have f4 : (ρ (.tmp 22)) = .agg #[.slice A n c, .slice F m d] := hd ⟨4, .data⟩ (by simp) (by rfl)
      exact fx_call hK hρ 16 _ _ #[(⟨P, np, pc, E, ne, ec, Fu, nf, fc, R, nr, rc⟩ : Sh).arg T.period T.deadline, .slice none 0 0, .agg #[.slice A n c, .slice F m d]] rfl (by simp only [List.map_toArray, List.map_cons, List.map_nil, hA.const, f3, f4]) (eg_of Tryz.func16 (by kernel_rfl) rfl) ((CF.out _ hI.k.t).mono fun e w' ⟨he, hb⟩ => ⟨_, he, rfl, hb⟩)
    | 6, ho =>
      have hoo := Option.some.inj ho
      subst hoo
      have f5 : (ρ (.tmp 23)) = .bool true := hd ⟨5, .data⟩ (by simp) (by rfl)
      exact fx_val hK hρ (.bool false) (by simp [execOp, f5, hA.const, go_sem]) rfl
    | 7, ho =>
      have hoo := Option.some.inj ho
      subst hoo
      have f2 : (ρ (.tmp 20)) = .bool false := hd ⟨2, .data⟩ (by simp) (by rfl)
      have f6 : (ρ (.tmp 24)) = .bool false := hd ⟨6, .data⟩ (by simp) (by rfl)
      exact fx_val hK hρ (.bool false) (by simp [execOp, f2, f6, hA.const, hA.const, go_sem]) rfl
    | 8, ho =>
      have hoo := Option.some.inj ho
      subst hoo
      have f7 : (ρ (.tmp 25)) = .bool false := hd ⟨7, .data⟩ (by simp) (by rfl)
      exact fx_val hK hρ (.bool false) (by simp [execOp, f7, hA.const, go_sem]) rfl
    | 9, ho =>
      have hoo := Option.some.inj ho
      subst hoo
      exact fx_val hK hρ ((⟨P, np, pc, E, ne, ec, Fu, nf, fc, R, nr, rc⟩ : Sh).arg T.period T.deadline) (ld_desc rfl (hA.tmp 3 (by decide)) hI.k.cd) rfl
    | 10, ho =>
      have hoo := Option.some.inj ho
      subst hoo
      have f9 : (ρ (.tmp 27)) = (⟨P, np, pc, E, ne, ec, Fu, nf, fc, R, nr, rc⟩ : Sh).arg T.period T.deadline := hd ⟨9, .data⟩ (by simp) (by rfl)
      exact fx_call hK hρ 12 _ _ #[(⟨P, np, pc, E, ne, ec, Fu, nf, fc, R, nr, rc⟩ : Sh).arg T.period T.deadline] rfl (by simp only [List.map_toArray, List.map_cons, List.map_nil, hA.const, f9]) (eg_of Tryz.func12 (by kernel_rfl) rfl) ((own_d ⟨hI.k.t, HF.out.1.few, HTW.out _ hI.k.bel, HLE.out.1, HLE.out.2⟩).mono fun e w' ⟨s', he, hd, hb⟩ => ⟨_, he, ⟨s', rfl, hd⟩, hb⟩)
    | 11, ho =>
      have hoo := Option.some.inj ho
      subst hoo
      exact fx_val hK hρ _ (by have h := hA.tmp 4 (by decide); have h0 := hI.k.m0; have h1 := hI.k.m1; simp [execOp, h, h0, h1, go_sem]) rfl
    | 12, ho =>
      have hoo := Option.some.inj ho
      subst hoo
      have f11 : (ρ (.tmp 29)) = .agg #[.slice A n c, .slice F m d] := hd ⟨11, .data⟩ (by simp) (by rfl)
      exact fx_call hK hρ 18 _ _ #[.agg #[.slice A n c, .slice F m d]] rfl (by simp only [List.map_toArray, List.map_cons, List.map_nil, hA.const, f11]) (eg_of Tryz.func18 (by kernel_rfl) rfl) ((ownM_any _ hI.l (by omega) (by omega)).mono fun e w' ⟨⟨A1, c1, F1, d1, he, hM⟩, hb⟩ => ⟨_, he, ⟨A1, c1, F1, d1, rfl, hM⟩, hb⟩)
    | 13, ho =>
      have hoo := Option.some.inj ho
      subst hoo
      have f10 : GDq T (ρ (.tmp 28)) w := hd ⟨10, .data⟩ (by simp) (by rfl)
      have f12 : GMq n m D V (ρ (.tmp 30)) w := hd ⟨12, .data⟩ (by simp) (by rfl)
      obtain ⟨s1, f10', hD⟩ := f10
      obtain ⟨A1, c1, F1, d1, f12', hM⟩ := f12
      exact fx_call hK hρ 25 _ _ #[s1.arg T.period T.deadline, .agg #[.slice A1 n c1, .slice F1 m d1]] rfl (by simp only [List.map_toArray, List.map_cons, List.map_nil, hA.const, f10', f12']) (eg_of Tryz.func25 (by kernel_rfl) rfl) ((echeck_any _ hD hM).mono fun e w' ⟨he, hb⟩ => ⟨_, he, by show Value.int .i64 _ = .int .i64 r; rw [HR.out], hb⟩)
    | 14, ho =>
      have hoo := Option.some.inj ho
      subst hoo
      have f13 : (ρ (.tmp 31)) = .int .i64 r := hd ⟨13, .data⟩ (by simp) (by rfl)
      exact fx_val hK hρ (.bool b) (by simp [execOp, f13, HB.out, hA.const, go_sem]) rfl
    | 15, ho =>
      have hoo := Option.some.inj ho
      subst hoo
      have f8 : (ρ (.tmp 26)) = .bool false := hd ⟨8, .data⟩ (by simp) (by rfl)
      have f14 : (ρ (.tmp 32)) = .bool b := hd ⟨14, .data⟩ (by simp) (by rfl)
      exact fx_val hK hρ (.bool b) (by simp [execOp, f8, f14, hA.const, hA.const, go_sem]) rfl
    | kq + 16, ho => simp at ho
  case hend =>
    intro vals xw hI hF
    have fz : vals 33 = .bool b := hF 15 (by decide)
    simp only [fillA, fillL, List.contains_cons, List.contains_nil, Nat.reduceBEq, Bool.or_false, Bool.false_or, Bool.or_true, Bool.true_or, cond_true, cond_false, Nat.zero_add, Nat.reduceAdd]
    rw [fz]
    have hbt := HBT.out
    subst hbt
    have B1 := Lib.hid hI
    clear hF hI fz
    go_wp2_with fail
    refine wp_region_facts' [35, 36, 37, 38, 39, 7] [] [] (by kernel_rfl) (by kernel_rfl) (by kernel_rfl) (by intro d hd; simp at hd ⊢; omega) (BxV w0 (⟨P, np, pc, E, ne, ec, Fu, nf, fc, R, nr, rc⟩ : Sh) T A n c F m d D V) (PhiYc P np pc E ne ec Fu nf fc R nr rc T A n c F m d D V k zs)
      (fun x y h hb => h.next hb) (phiYc_below P np pc E ne ec Fu nf fc R nr rc T A n c F m d D V k zs) (B1.out.next (Below.refl _ _).drew) (fun p hp v w hv => by cases hp) (fun kq hkq => by simp at hkq) ?hstep ?hend
    case hstep =>
      intro kq o ho hw a w hI hA hd K hK
      obtain ⟨ρ, hρ⟩ : ∃ ρ, a.eval = ρ := ⟨_, rfl⟩
      rw [hρ] at hA hd
      match kq, ho with
      | 0, ho =>
        have hoo := Option.some.inj ho
        subst hoo
        exact fx_val hK hρ ((⟨P, np, pc, E, ne, ec, Fu, nf, fc, R, nr, rc⟩ : Sh).arg T.period T.deadline) (ld_desc rfl (hA.tmp 3 (by decide)) hI.k.cd) rfl
      | 1, ho =>
        have hoo := Option.some.inj ho
        subst hoo
        have f0 : (ρ (.tmp 35)) = (⟨P, np, pc, E, ne, ec, Fu, nf, fc, R, nr, rc⟩ : Sh).arg T.period T.deadline := hd ⟨0, .data⟩ (by simp) (by rfl)
        exact fx_call hK hρ 12 _ _ #[(⟨P, np, pc, E, ne, ec, Fu, nf, fc, R, nr, rc⟩ : Sh).arg T.period T.deadline] rfl (by simp only [List.map_toArray, List.map_cons, List.map_nil, hA.const, f0]) (eg_of Tryz.func12 (by kernel_rfl) rfl) ((own_d ⟨hI.k.t, HF.out.1.few, HTW.out _ hI.k.bel, HLE.out.1, HLE.out.2⟩).mono fun e w' ⟨s', he, hd, hb⟩ => ⟨_, he, ⟨s', rfl, hd⟩, hb⟩)
      | 2, ho =>
        have hoo := Option.some.inj ho
        subst hoo
        exact fx_val hK hρ _ (by have h := hA.tmp 4 (by decide); have h0 := hI.k.m0; have h1 := hI.k.m1; simp [execOp, h, h0, h1, go_sem]) rfl
      | 3, ho =>
        have hoo := Option.some.inj ho
        subst hoo
        have f2 : (ρ (.tmp 37)) = .agg #[.slice A n c, .slice F m d] := hd ⟨2, .data⟩ (by simp) (by rfl)
        exact fx_call hK hρ 18 _ _ #[.agg #[.slice A n c, .slice F m d]] rfl (by simp only [List.map_toArray, List.map_cons, List.map_nil, hA.const, f2]) (eg_of Tryz.func18 (by kernel_rfl) rfl) ((ownM_any _ hI.l (by omega) (by omega)).mono fun e w' ⟨⟨A1, c1, F1, d1, he, hM⟩, hb⟩ => ⟨_, he, ⟨A1, c1, F1, d1, rfl, hM⟩, hb⟩)
      | 4, ho =>
        have hoo := Option.some.inj ho
        subst hoo
        have f1 : GDq T (ρ (.tmp 36)) w := hd ⟨1, .data⟩ (by simp) (by rfl)
        have f3 : GMq n m D V (ρ (.tmp 38)) w := hd ⟨3, .data⟩ (by simp) (by rfl)
        obtain ⟨s1, f1', hD⟩ := f1
        obtain ⟨A1, c1, F1, d1, f3', hM⟩ := f3
        exact fx_call hK hρ 21 _ _ #[s1.arg T.period T.deadline, .agg #[.slice A1 n c1, .slice F1 m d1]] rfl (by simp only [List.map_toArray, List.map_cons, List.map_nil, hA.const, f1', f3']) (eg_of Tryz.func21 (by kernel_rfl) rfl) ((eready_any _ hD hM).mono fun e w' hg => (by
      obtain ⟨A2, c2, he, hi, hb⟩ := hg.ints
      rw [HZ.out.1, HZ.out.2] at he
      rw [HZ.out.1] at hi
      exact ⟨_, he, ⟨A2, c2, rfl, hi⟩, hb⟩))
      | 5, ho =>
        have hoo := Option.some.inj ho
        subst hoo
        have f4 : GLq k zs (ρ (.tmp 39)) w := hd ⟨4, .data⟩ (by simp) (by rfl)
        obtain ⟨A2, c2, f4', hi⟩ := f4
        exact fx_val hK hρ (.slice A2 k c2) (by simp [execOp, f4', go_sem]) ⟨A2, c2, rfl, hi⟩
      | kq + 6, ho => simp at ho
    case hend =>
      intro vals3 w2 hI hF
      obtain ⟨A2, c2, fz, hi2⟩ : GLq k zs (vals3 7) w2 := hF 5 (by decide)
      simp only [fillA, fillL, List.contains_cons, List.contains_nil, Nat.reduceBEq, Bool.or_false, Bool.false_or, Bool.or_true, Bool.true_or, cond_true, cond_false, Nat.zero_add, Nat.reduceAdd]
      rw [fz]
      have B2 := Lib.hid hI
      have L2 := Lib.hid hi2
      clear hF hI fz hi2
      go_wp2_with fail
      refine wp_region_stored 10 [41, 42, 43, 44, 45, 46, 40, 47, 48, 8, 1000, 9] [8, 11] (by kernel_rfl) (by kernel_rfl) (by intro d hd; simp at hd ⊢; omega) (fun y => BxV w0 (⟨P, np, pc, E, ne, ec, Fu, nf, fc, R, nr, rc⟩ : Sh) T A n c F m d D V y ∧ Below w2.heap.size w2 y) (PhiYd P np pc E ne ec Fu nf fc R nr rc T A n c F m d D V w2.heap.size node fe D' V') (ThM w2 8 D' V')
        (fun x y h hb => ⟨h.1.next hb, h.2.trans (hb.mono h.2.size)⟩) (phiYd_below P np pc E ne ec Fu nf fc R nr rc T A n c F m d D V w2.heap.size node fe D' V') (⟨B2.out.next (Below.refl _ _).drew, (Below.refl _ _).drew⟩) ?hstep ?hpure ?hstore ?htheta ?hend
      case hstep =>
        intro kq o hkp hkS ho a w hI hA hd K hK
        obtain ⟨ρ, hρ⟩ : ∃ ρ, a.eval = ρ := ⟨_, rfl⟩
        rw [hρ] at hA hd
        match kq, hkp, hkS, ho with
        | 0, _, _, ho =>
          have hoo := Option.some.inj ho
          subst hoo
          exact fx_val hK hρ ((⟨P, np, pc, E, ne, ec, Fu, nf, fc, R, nr, rc⟩ : Sh).arg T.period T.deadline) (ld_desc rfl (hA.tmp 3 (by decide)) hI.1.k.cd) rfl
        | 1, _, _, ho =>
          have hoo := Option.some.inj ho
          subst hoo
          have f0 : (ρ (.tmp 41)) = (⟨P, np, pc, E, ne, ec, Fu, nf, fc, R, nr, rc⟩ : Sh).arg T.period T.deadline := hd ⟨0, .data⟩ (by simp) (by rfl)
          exact fx_call hK hρ 12 _ _ #[(⟨P, np, pc, E, ne, ec, Fu, nf, fc, R, nr, rc⟩ : Sh).arg T.period T.deadline] rfl (by simp only [List.map_toArray, List.map_cons, List.map_nil, hA.const, f0]) (eg_of Tryz.func12 (by kernel_rfl) rfl) ((own_d ⟨hI.1.k.t, HF.out.1.few, HTW.out _ hI.1.k.bel, HLE.out.1, HLE.out.2⟩).mono fun e w' ⟨s', he, hd, hb⟩ => ⟨_, he, ⟨s', rfl, hd⟩, hb⟩)
        | 2, _, _, ho =>
          have hoo := Option.some.inj ho
          subst hoo
          exact fx_val hK hρ _ (by have h := hA.tmp 4 (by decide); have h0 := hI.1.k.m0; have h1 := hI.1.k.m1; simp [execOp, h, h0, h1, go_sem]) rfl
        | 3, _, _, ho =>
          have hoo := Option.some.inj ho
          subst hoo
          have f2 : (ρ (.tmp 43)) = .agg #[.slice A n c, .slice F m d] := hd ⟨2, .data⟩ (by simp) (by rfl)
          exact fx_call hK hρ 18 _ _ #[.agg #[.slice A n c, .slice F m d]] rfl (by simp only [List.map_toArray, List.map_cons, List.map_nil, hA.const, f2]) (eg_of Tryz.func18 (by kernel_rfl) rfl) ((ownM_any _ hI.1.l (by omega) (by omega)).mono fun e w' ⟨⟨A1, c1, F1, d1, he, hM⟩, hb⟩ => ⟨_, he, ⟨A1, c1, F1, d1, rfl, hM⟩, hb⟩)
        | 4, _, _, ho =>
          have hoo := Option.some.inj ho
          subst hoo
          exact fx_val hK hρ (.int .i64 node) (by have h := hA.tmp 2 (by decide); simp [execOp, h, go_sem]) rfl
        | 5, _, _, ho =>
          have hoo := Option.some.inj ho
          subst hoo
          have f1 : GDq T (ρ (.tmp 42)) w := hd ⟨1, .data⟩ (by simp) (by rfl)
          have f3 : GMq n m D V (ρ (.tmp 44)) w := hd ⟨3, .data⟩ (by simp) (by rfl)
          have f4 : (ρ (.tmp 45)) = .int .i64 node := hd ⟨4, .data⟩ (by simp) (by rfl)
          obtain ⟨s1, f1', hD⟩ := f1
          obtain ⟨A1, c1, F1, d1, f3', hM⟩ := f3
          exact fx_call hK hρ 17 _ _ #[s1.arg T.period T.deadline, .slice none 0 0, .agg #[.slice A1 n c1, .slice F1 m d1], .int .i64 node] rfl (by simp only [List.map_toArray, List.map_cons, List.map_nil, hA.const, f1', f3', f4]) (eg_of Tryz.func17 (by kernel_rfl) rfl) ((finish_any (inp := []) _ node hD hM (Ints.nil_ _ _ _) rfl (by decide)).mono fun e w' hg => (by
            obtain ⟨⟨A4, n4, c4, F4, m4, d4, he, hM4⟩, hb⟩ := hg
            rw [HFE.out.1] at he
            rw [HFE.out.2.1, HFE.out.2.2] at hM4
            exact ⟨_, he, ⟨A4, n4, c4, F4, m4, d4, rfl, hM4⟩, hb⟩))
        | 6, _, _, ho =>
          have hoo := Option.some.inj ho
          subst hoo
          have f5 : GFq D' V' fe (ρ (.tmp 46)) w := hd ⟨5, .data⟩ (by simp) (by rfl)
          obtain ⟨A4, n4, c4, F4, m4, d4, f5', hM4⟩ := f5
          exact fx_val hK hρ _ (by simp [execOp, f5', go_sem]) ⟨A4, n4, c4, F4, m4, d4, rfl, hM4⟩
        | 7, _, _, ho =>
          have hoo := Option.some.inj ho
          subst hoo
          have f6 : GFq D' V' fe (ρ (.tmp 40)) w := hd ⟨6, .data⟩ (by simp) (by rfl)
          obtain ⟨A4, n4, c4, F4, m4, d4, f6', hM4⟩ := f6
          exact fx_val hK hρ (.agg #[.slice A4 n4 c4, .slice F4 m4 d4]) (by simp [execOp, f6', go_sem]) ⟨A4, n4, c4, F4, m4, d4, rfl, hM4⟩
        | 8, _, hkS, _ => exact absurd (by decide) hkS
        | 9, _, _, ho =>
          have hoo := Option.some.inj ho
          subst hoo
          exact fx_make hK hρ (.pointer (some ⟨w.heap.size, 0, none⟩)) (w.alloc (.cells #[.slice none 0 0, .slice none 0 0] 43)) (by simp [execOp, go_sem]) ⟨_, rfl, hI.2.size, heap_alloc_new w _⟩ (below_alloc _)
        | 10, hkp, _, _ => exact absurd rfl hkp
        | 11, _, hkS, _ => exact absurd (by decide) hkS
        | kq + 12, _, _, ho => simp at ho
      case hpure =>
        intro kq o hkS ho ρ w hA hd
        simp only [List.mem_cons, List.not_mem_nil, or_false] at hkS
        rcases hkS with rfl | rfl
        · have hoo := Option.some.inj ho
          subst hoo
          obtain ⟨w', A4, n4, c4, F4, m4, d4, f6, _⟩ := hd ⟨6, .data⟩ (by simp) (by rfl) (by decide)
          have f6' : ρ (.tmp 40) = .tuple #[.agg #[.slice A4 n4 c4, .slice F4 m4 d4], .int .i64 fe] := f6
          exact ⟨.int .i64 fe, by simp [execOp, f6', go_sem], fun _ => rfl⟩
        · have hoo := Option.some.inj ho
          subst hoo
          obtain ⟨w', f8⟩ := hd ⟨8, .data⟩ (by simp) (by rfl) (by decide)
          have f8' : ρ (.tmp 48) = .int .i64 fe := f8
          exact ⟨.int .i64 fe, by simp [execOp, f8', go_sem], fun _ => rfl⟩
      case hstore =>
        intro o ho a w hI hA hF K hK
        have hoo := Option.some.inj ho
        subst hoo
        exact stM (slot := 8) rfl rfl rfl (hF 9 (by decide) (by decide) (by decide)) (hF 7 (by decide) (by decide) (by decide)) hI.2 hK
      case htheta =>
        intro f g w h hT
        exact ThM.slot hT (h 9 (by decide) (by decide) (by decide))
      case hend =>
        intro vals4 w4 hT hF
        obtain ⟨g, A3, n3, c3, F3, m3, d3, f8, hb4, hg4, hx4, hm4⟩ := hT
        have f9 : vals4 9 = .int .i64 fe := (hF 11 (by decide) (by decide)).choose_spec
        simp only [fillA, fillL, List.contains_cons, List.contains_nil, Nat.reduceBEq, Bool.or_false, Bool.false_or, Bool.or_true, Bool.true_or, cond_true, cond_false, Nat.zero_add, Nat.reduceAdd]
        rw [f8, f9]
        have B4 : Hid (BxX8 w0 (⟨P, np, pc, E, ne, ec, Fu, nf, fc, R, nr, rc⟩ : Sh) T A n c F m d D V A2 zs g A3 n3 c3 F3 m3 d3 D' V' w4) := Lib.hid ⟨B2.out.next hb4, hx4, hm4, (L2.out.below hb4).more hb4.size⟩
        clear hF hb4 hg4 hx4 hm4 f8 f9 B0 B1 B2 L2
        go_wp2
        go_loopw [10, 12] (fun hv i wr => ∃ (j : Nat) (hb : Bool), j ≤ k ∧ i = .int .i64 j ∧ hv = .bool hb ∧ Hid (hb = hasK zs node j) ∧ w4 = wr) (fun _ i _ => k - (intOf i).toNat)
        case atStart => exact ⟨0, false, Nat.zero_le _, rfl, rfl, Lib.hid rfl, rfl⟩
        case round =>
          obtain ⟨j, hb, hj, rfl, rfl, HH, rfl⟩ := hrel
          by_cases hlt : j < k
          · obtain ⟨bk, off, y, rfl, hbg, hy, d1⟩ := B4.out.zs.at_ (k := j) (by rw [HZ.out.2]; exact hlt)
            have HS := hasK_step (z := node) hy
            rw [← HH.out] at HS
            clear hy hbg HH
            cases hb with
            | true =>
              have HS1 : Hid (true = hasK zs node (j + 1)) := Lib.hid (by rw [HS]; rfl)
              clear HS
              go_wp2
              go_roundw
              case rel => exact ⟨j + 1, true, by omega, by go_num, rfl, HS1, trivial⟩
              case measure => simp [intOf]; omega
            | false =>
              by_cases hyn : y = node
              · have hyb : (y == node) = true := by simpa using hyn
                have HS1 : Hid (true = hasK zs node (j + 1)) := Lib.hid (by rw [HS, hyb]; rfl)
                clear HS hyn
                go_wp2
                go_roundw
                case rel => exact ⟨j + 1, true, by omega, by go_num, rfl, HS1, trivial⟩
                case measure => simp [intOf]; omega
              · have hyb : (y == node) = false := by simpa using hyn
                have HS1 : Hid (false = hasK zs node (j + 1)) := Lib.hid (by rw [HS, hyb]; rfl)
                clear HS hyn
                go_wp2
                go_roundw
                case rel => exact ⟨j + 1, false, by omega, by go_num, rfl, HS1, trivial⟩
                case measure => simp [intOf]; omega
          · obtain rfl : k = j := by omega
            have HAS : Hid (hb = true ↔ node ∈ zs) := Lib.hid (by rw [HH.out]; exact hasK_iff HZ.out.2.symm)
            clear HH
            go_wp2
            go_loopw [11, 13] (fun av i wr => ∃ (j : Nat) (ab : Bool), j ≤ n ∧ i = .int .i64 j ∧ av = .bool ab ∧ Hid (ab = allK D j) ∧ w4 = wr) (fun _ i _ => n - (intOf i).toNat)
            case atStart => exact ⟨0, true, Nat.zero_le _, rfl, rfl, Lib.hid rfl, rfl⟩
            case round =>
              obtain ⟨j, ab, hj2, rfl, rfl, HA, rfl⟩ := hrel
              have m0 := B4.out.b.k.m0
              by_cases hlt2 : j < n
              · obtain ⟨bd, od, z, rfl, hbd, hzd, hcd⟩ := B4.out.b.l.bools.at2 (k := j) (by rw [HDN.out]; exact hlt2)
                have HS := allK_step hzd
                rw [← HA.out] at HS
                clear hzd hbd HA
                cases ab with
                | true =>
                  have HS1 : Hid (z = allK D (j + 1)) := Lib.hid (by rw [HS]; rfl)
                  clear HS
                  go_wp2
                  go_roundw
                  case rel => exact ⟨j + 1, z, by omega, by go_num, rfl, HS1, trivial⟩
                  case measure => simp [intOf]; omega
                | false =>
                  have HS1 : Hid (false = allK D (j + 1)) := Lib.hid (by rw [HS]; rfl)
                  clear HS
                  go_wp2
                  go_roundw
                  case rel => exact ⟨j + 1, false, by omega, by go_num, rfl, HS1, trivial⟩
                  case measure => simp [intOf]; omega
              · obtain rfl : n = j := by omega
                have HAL : Hid (ab = true ↔ k = 0) := Lib.hid (by
                  rw [HA.out, allK_iff HDN.out.symm, ← ready_all HOK.out, ← HZ.out.2, HZR.out, nums_length]
                  exact ⟨fun e => by rw [e]; rfl, List.eq_nil_of_length_eq_zero⟩)
                have HE0 : Hid (fe = 0 ↔ hb = true) := Lib.hid (by
                  rw [HAS.out, ← HFE.out.1, finE_zero, HZR.out]
                  exact ⟨fun ⟨_, m', e, hm'⟩ => (by rw [e]; exact List.mem_map.mpr ⟨m', hm', rfl⟩), fun hm' => ⟨HOK.out, (by obtain ⟨m', h1, h2⟩ := List.mem_map.mp hm'; exact ⟨m', h2.symm, h1⟩)⟩⟩)
                clear HA
                cases hb with
                | true =>
                  have hfe0 := HE0.out.mpr rfl
                  subst hfe0
                  have hin := HAS.out.mp rfl
                  have hk0 : ¬ k = 0 := fun e => by
                    have := HZ.out.2
                    rw [e] at this
                    rw [List.eq_nil_of_length_eq_zero this] at hin
                    cases hin
                  obtain rfl : ab = false := by
                    cases ab with
                    | false => rfl
                    | true => exact absurd (HAL.out.mp rfl) hk0
                  have hk1 : ((k : Int) == 0) = false := by simpa using hk0
                  have hk2' : (k == 0) = false := by simpa using hk0
                  have HMK : Hid (MemOk T D' V' ∧ ∀ y ∈ zs, (y ∈ zs2 ↔ y ≠ node)) := Lib.hid (by
                    obtain ⟨hmok, mN, rfl, hmN⟩ := finE_zero.mp HFE.out.1
                    have e1 : D' = D.set mN true := by rw [← HFE.out.2.1]; unfold finD; rw [if_pos HFE.out.1, Int.toNat_natCast]
                    have e2 : V'.length = V.length := by rw [← HFE.out.2.2]; unfold finV; rw [if_pos HFE.out.1, settleV_len]
                    have h3 : MemOk T D' V' := by rw [e1]; exact hmok.step hmN e2
                    refine ⟨h3, fun y hy => ?_⟩
                    rw [HZR.out] at hy
                    obtain ⟨j, hj, rfl⟩ := List.mem_map.mp hy
                    have h4 := ready_stays hmN hj
                    rw [← e1] at h4
                    have h5 : zs2 = nums (readyD (lowE T) D') := by rw [← HZ2.out.1]; unfold readyM; rw [if_pos h3]
                    rw [h5]
                    constructor
                    · intro h6
                      obtain ⟨j', h7, h8⟩ := List.mem_map.mp h6
                      obtain rfl : j' = j := Int.ofNat_inj.mp h8
                      exact fun e => h4.mp h7 (Int.ofNat_inj.mp e)
                    · intro h6
                      exact List.mem_map.mpr ⟨j, h4.mpr (fun e => h6 (by rw [e]; rfl)), rfl⟩)
                  have HR2 : Hid (chkM T D' V' = 0) := Lib.hid (chkM_zero.mpr HMK.out.1)
                  clear HAS HAL HE0 hin hk0
                  go_wp2_with fail
                  refine wp_region_facts' [90, 91, 92, 93, 94, 14] [] [] (by kernel_rfl) (by kernel_rfl) (by kernel_rfl) (by intro d hd; simp at hd ⊢; omega) (BxX8 w0 (⟨P, np, pc, E, ne, ec, Fu, nf, fc, R, nr, rc⟩ : Sh) T A n c F m d D V A2 zs g A3 n3 c3 F3 m3 d3 D' V') (PhiYe P np pc E ne ec Fu nf fc R nr rc T A n c F m d D V A2 k c2 zs g A3 n3 c3 F3 m3 d3 D' V' k2 zs2)
                    (fun x y h hb => h.next hb) (phiYe_below P np pc E ne ec Fu nf fc R nr rc T A n c F m d D V A2 k c2 zs g A3 n3 c3 F3 m3 d3 D' V' k2 zs2) (B4.out.next (Below.refl _ _).drew) (fun p hp v w hv => by cases hp) (fun kq hkq => by simp at hkq) ?hstep ?hend
                  case hstep =>
                    intro kq o ho hw a w hI hA hd K hK
                    obtain ⟨ρ, hρ⟩ : ∃ ρ, a.eval = ρ := ⟨_, rfl⟩
                    rw [hρ] at hA hd
                    match kq, ho with
                    | 0, ho =>
                      have hoo := Option.some.inj ho
                      subst hoo
                      exact fx_val hK hρ ((⟨P, np, pc, E, ne, ec, Fu, nf, fc, R, nr, rc⟩ : Sh).arg T.period T.deadline) (ld_desc rfl (hA.tmp 3 (by decide)) hI.b.k.cd) rfl
                    | 1, ho =>
                      have hoo := Option.some.inj ho
                      subst hoo
                      have f0 : (ρ (.tmp 90)) = (⟨P, np, pc, E, ne, ec, Fu, nf, fc, R, nr, rc⟩ : Sh).arg T.period T.deadline := hd ⟨0, .data⟩ (by simp) (by rfl)
                      exact fx_call hK hρ 12 _ _ #[(⟨P, np, pc, E, ne, ec, Fu, nf, fc, R, nr, rc⟩ : Sh).arg T.period T.deadline] rfl (by simp only [List.map_toArray, List.map_cons, List.map_nil, hA.const, f0]) (eg_of Tryz.func12 (by kernel_rfl) rfl) ((own_d ⟨hI.b.k.t, HF.out.1.few, HTW.out _ hI.b.k.bel, HLE.out.1, HLE.out.2⟩).mono fun e w' ⟨s', he, hd, hb⟩ => ⟨_, he, ⟨s', rfl, hd⟩, hb⟩)
                    | 2, ho =>
                      have hoo := Option.some.inj ho
                      subst hoo
                      exact fx_val hK hρ _ (by have h := hA.tmp 8 (by decide); have h0 := hI.x0; have h1 := hI.x1; simp [execOp, h, h0, h1, go_sem]) rfl
                    | 3, ho =>
                      have hoo := Option.some.inj ho
                      subst hoo
                      have f2 : (ρ (.tmp 92)) = .agg #[.slice A3 n3 c3, .slice F3 m3 d3] := hd ⟨2, .data⟩ (by simp) (by rfl)
                      exact fx_call hK hρ 18 _ _ #[.agg #[.slice A3 n3 c3, .slice F3 m3 d3]] rfl (by simp only [List.map_toArray, List.map_cons, List.map_nil, hA.const, f2]) (eg_of Tryz.func18 (by kernel_rfl) rfl) ((ownM_any _ hI.xm.inM hI.xm.ln hI.xm.lm).mono fun e w' ⟨⟨A1, c1, F1, d1, he, hM⟩, hb⟩ => ⟨_, he, ⟨A1, _, c1, F1, _, d1, rfl, hM⟩, hb⟩)
                    | 4, ho =>
                      have hoo := Option.some.inj ho
                      subst hoo
                      have f1 : GDq T (ρ (.tmp 91)) w := hd ⟨1, .data⟩ (by simp) (by rfl)
                      have f3 : GXq D' V' (ρ (.tmp 93)) w := hd ⟨3, .data⟩ (by simp) (by rfl)
                      obtain ⟨s1, f1', hD⟩ := f1
                      obtain ⟨A1, n1, c1, F1, m1, d1, f3', hM⟩ := f3
                      exact fx_call hK hρ 21 _ _ #[s1.arg T.period T.deadline, .agg #[.slice A1 n1 c1, .slice F1 m1 d1]] rfl (by simp only [List.map_toArray, List.map_cons, List.map_nil, hA.const, f1', f3']) (eg_of Tryz.func21 (by kernel_rfl) rfl) ((eready_any _ hD hM).mono fun e w' hg => (by
                    obtain ⟨A5, c5, he, hi, hb⟩ := hg.ints
                    rw [HZ2.out.1, HZ2.out.2] at he
                    rw [HZ2.out.1] at hi
                    exact ⟨_, he, ⟨A5, c5, rfl, hi⟩, hb⟩))
                    | 5, ho =>
                      have hoo := Option.some.inj ho
                      subst hoo
                      have f4 : GLq k2 zs2 (ρ (.tmp 94)) w := hd ⟨4, .data⟩ (by simp) (by rfl)
                      obtain ⟨A5, c5, f4', hi⟩ := f4
                      exact fx_val hK hρ (.slice A5 k2 c5) (by simp [execOp, f4', go_sem]) ⟨A5, c5, rfl, hi⟩
                    | kq + 6, ho => simp at ho
                  case hend =>
                    intro vals6 w6 hI hF
                    obtain ⟨A5, c5, fz, hi6⟩ : GLq k2 zs2 (vals6 14) w6 := hF 5 (by decide)
                    simp only [fillA, fillL, List.contains_cons, List.contains_nil, Nat.reduceBEq, Bool.or_false, Bool.false_or, Bool.or_true, Bool.true_or, cond_true, cond_false, Nat.zero_add, Nat.reduceAdd]
                    rw [fz]
                    have B6 := Lib.hid (And.intro hI hi6)
                    have hk2b : k2 ≤ 400 := by
                      have h5 := readyK_len (lowE T) D' D'.length
                      have h6 : k2 = (readyM T D' V').length := by rw [← HZ2.out.2, ← HZ2.out.1, nums_length]
                      have h7 := hI.xm.hn
                      have h9 := hI.xm.ln
                      unfold readyM at h6
                      rw [if_pos HMK.out.1] at h6
                      have h8 : (readyD (lowE T) D').length = (readyK (lowE T) D' D'.length).length := rfl
                      omega
                    clear hF hI fz hi6 B4 hk1 hk2'
                    go_wp2
                    go_loopw [15] (fun i wr => ∃ j : Nat, j ≤ k ∧ i = .int .i64 j ∧ Hid (BxX8 w0 (⟨P, np, pc, E, ne, ec, Fu, nf, fc, R, nr, rc⟩ : Sh) T A n c F m d D V A2 zs g A3 n3 c3 F3 m3 d3 D' V' wr ∧ Ints wr wr.heap.size A5 zs2)) (fun i _ => k - (intOf i).toNat)
                    case atStart => exact ⟨0, Nat.zero_le _, rfl, B6⟩
                    case round =>
                      obtain ⟨j, hj3, rfl, B7⟩ := hrel
                      clear B6
                      by_cases hlt3 : j < k
                      · obtain ⟨bk, off, y, rfl, hbg, hy, d1⟩ := B7.out.1.zs.at_ (k := j) (by rw [HZ.out.2]; exact hlt3)
                        have HY : Hid (y ∈ zs2 ↔ y ≠ node) := Lib.hid (HMK.out.2 y (List.mem_of_getElem? hy))
                        have HYJ := Lib.hid hy
                        clear hy hbg d1
                        go_wp2
                        go_loopw [16, 17] (fun sv i wr => ∃ (q : Nat) (sb : Bool), q ≤ k2 ∧ i = .int .i64 q ∧ sv = .bool sb ∧ Hid (sb = hasK zs2 y q) ∧ Hid (BxX8 w0 (⟨P, np, pc, E, ne, ec, Fu, nf, fc, R, nr, rc⟩ : Sh) T A n c F m d D V (some ⟨bk, off, none⟩) zs g A3 n3 c3 F3 m3 d3 D' V' wr ∧ Ints wr wr.heap.size A5 zs2)) (fun _ i _ => k2 - (intOf i).toNat)
                        case atStart => exact ⟨0, false, Nat.zero_le _, rfl, rfl, Lib.hid rfl, B7⟩
                        case round =>
                          obtain ⟨q, sb, hq, rfl, rfl, HQ, B8⟩ := hrel
                          clear B7
                          obtain ⟨bk3, off3, y3, e3, hbg3, hy3, d3'⟩ := B8.out.1.zs.at_ (k := j) (by rw [HZ.out.2]; exact hlt3)
                          injection e3 with e3
                          injection e3 with e31 e32
                          subst e31 e32
                          rw [HYJ.out] at hy3
                          obtain rfl : y = y3 := Option.some.inj hy3
                          by_cases hlt4 : q < k2
                          · obtain ⟨bk2, off2, y2, rfl, hbg2, hy2, d2⟩ := B8.out.2.at_ (k := q) (by rw [HZ2.out.2]; exact hlt4)
                            have HS := hasK_step (z := y) hy2
                            rw [← HQ.out] at HS
                            clear hy2 hbg2 HQ hy3 hbg3
                            cases sb with
                            | true =>
                              have HS1 : Hid (true = hasK zs2 y (q + 1)) := Lib.hid (by rw [HS]; rfl)
                              clear HS
                              go_wp2
                              go_quiet (fail)
                              go_wp2
                              go_roundw
                              case rel => exact ⟨q + 1, true, by omega, by go_num, rfl, HS1, Lib.hid ⟨B8.out.1.next (below_drewN (Below.refl _ _) _), B8.out.2.step (below_drewN (Below.refl _ _) _)⟩⟩
                              case measure => simp [intOf]; omega
                            | false =>
                              by_cases hyn : y2 = y
                              · have hyb : (y2 == y) = true := by simpa using hyn
                                have HS1 : Hid (true = hasK zs2 y (q + 1)) := Lib.hid (by rw [HS, hyb]; rfl)
                                clear HS hyn
                                go_wp2
                                go_quiet (fail)
                                go_wp2
                                go_roundw
                                case rel => exact ⟨q + 1, true, by omega, by go_num, rfl, HS1, Lib.hid ⟨B8.out.1.next (below_drewN (Below.refl _ _) _), B8.out.2.step (below_drewN (Below.refl _ _) _)⟩⟩
                                case measure => simp [intOf]; omega
                              · have hyb : (y2 == y) = false := by simpa using hyn
                                have HS1 : Hid (false = hasK zs2 y (q + 1)) := Lib.hid (by rw [HS, hyb]; rfl)
                                clear HS hyn
                                go_wp2
                                go_quiet (fail)
                                go_wp2
                                go_roundw
                                case rel => exact ⟨q + 1, false, by omega, by go_num, rfl, HS1, Lib.hid ⟨B8.out.1.next (below_drewN (Below.refl _ _) _), B8.out.2.step (below_drewN (Below.refl _ _) _)⟩⟩
                                case measure => simp [intOf]; omega
                          · obtain rfl : k2 = q := by omega
                            have HSB : Hid (sb = true ↔ y ≠ node) := Lib.hid (by rw [HQ.out, hasK_iff HZ2.out.2.symm]; exact HY.out)
                            clear HQ hy3 hbg3
                            cases sb with
                            | true =>
                              have hyb : (y != node) = true := bne_iff_ne.mpr (HSB.out.mp rfl)
                              go_wp2
                              go_roundw
                              case rel => exact ⟨j + 1, by omega, by go_num, B8⟩
                              case measure => simp [intOf]; omega
                            | false =>
                              have hyb : (y != node) = false := by
                                cases h : (y != node) with
                                | false => rfl
                                | true => exact absurd (HSB.out.mpr (bne_iff_ne.mp h)) (by decide)
                              go_wp2
                              go_roundw
                              case rel => exact ⟨j + 1, by omega, by go_num, B8⟩
                              case measure => simp [intOf]; omega
                      · obtain rfl : k = j := by omega
                        have B9 : Hid (BxX8 w0 (⟨P, np, pc, E, ne, ec, Fu, nf, fc, R, nr, rc⟩ : Sh) T A n c F m d D V A2 zs g A3 n3 c3 F3 m3 d3 D' V' _) := Lib.hid B7.out.1
                        clear B7
                        go_wp2_with fail
                        refine wp_region_facts' [130, 131, 132, 133, 134, 135, 136, 137, 138, 139, 6] [] [(2, false)] (by kernel_rfl) (by kernel_rfl) (by kernel_rfl) (by intro d hd; simp at hd ⊢; omega) (BxX8 w0 (⟨P, np, pc, E, ne, ec, Fu, nf, fc, R, nr, rc⟩ : Sh) T A n c F m d D V A2 zs g A3 n3 c3 F3 m3 d3 D' V') (PhiYf P np pc E ne ec Fu nf fc R nr rc T A n c F m d D V A2 k c2 zs g A3 n3 c3 F3 m3 d3 D' V')
                          (fun x y h hb => h.next hb) (phiYf_below P np pc E ne ec Fu nf fc R nr rc T A n c F m d D V A2 k c2 zs g A3 n3 c3 F3 m3 d3 D' V') (B9.out.next (Below.refl _ _).drew) (fun p hp v w hv => by
                            simp only [List.mem_cons, List.not_mem_nil, or_false] at hp
                            subst hp
                            exact hv) (fun kq hkq => by simp at hkq) ?hstep ?hend
                        case hstep =>
                          intro kq o ho hw a w hI hA hd K hK
                          obtain ⟨ρ, hρ⟩ : ∃ ρ, a.eval = ρ := ⟨_, rfl⟩
                          rw [hρ] at hA hd
                          match kq, ho with
                          | 0, ho =>
                            have hoo := Option.some.inj ho
                            subst hoo
                            exact fx_val hK hρ (.bool true) (by have h := hA.tmp 10 (by decide); simp [execOp, h, go_sem]) rfl
                          | 1, ho =>
                            have hoo := Option.some.inj ho
                            subst hoo
                            have f0 : (ρ (.tmp 130)) = .bool true := hd ⟨0, .data⟩ (by simp) (by rfl)
                            exact fx_val hK hρ (.bool false) (by simp [execOp, f0, hA.const, go_sem]) rfl
                          | 2, ho =>
                            have hoo := Option.some.inj ho
                            subst hoo
                            have f1 : (ρ (.tmp 131)) = .bool false := hd ⟨1, .data⟩ (by simp) (by rfl)
                            exact fx_val hK hρ (.bool false) (by simp [execOp, f1, hA.const, go_sem]) rfl
                          | 3, ho =>
                            have hoo := Option.some.inj ho
                            subst hoo
                            exact fx_val hK hρ ((⟨P, np, pc, E, ne, ec, Fu, nf, fc, R, nr, rc⟩ : Sh).arg T.period T.deadline) (ld_desc rfl (hA.tmp 3 (by decide)) hI.b.k.cd) rfl
                          | 4, ho =>
                            have hoo := Option.some.inj ho
                            subst hoo
                            have f3 : (ρ (.tmp 133)) = (⟨P, np, pc, E, ne, ec, Fu, nf, fc, R, nr, rc⟩ : Sh).arg T.period T.deadline := hd ⟨3, .data⟩ (by simp) (by rfl)
                            exact fx_call hK hρ 12 _ _ #[(⟨P, np, pc, E, ne, ec, Fu, nf, fc, R, nr, rc⟩ : Sh).arg T.period T.deadline] rfl (by simp only [List.map_toArray, List.map_cons, List.map_nil, hA.const, f3]) (eg_of Tryz.func12 (by kernel_rfl) rfl) ((own_d ⟨hI.b.k.t, HF.out.1.few, HTW.out _ hI.b.k.bel, HLE.out.1, HLE.out.2⟩).mono fun e w' ⟨s', he, hd, hb⟩ => ⟨_, he, ⟨s', rfl, hd⟩, hb⟩)
                          | 5, ho =>
                            have hoo := Option.some.inj ho
                            subst hoo
                            exact fx_val hK hρ _ (by have h := hA.tmp 8 (by decide); have h0 := hI.x0; have h1 := hI.x1; simp [execOp, h, h0, h1, go_sem]) rfl
                          | 6, ho =>
                            have hoo := Option.some.inj ho
                            subst hoo
                            have f5 : (ρ (.tmp 135)) = .agg #[.slice A3 n3 c3, .slice F3 m3 d3] := hd ⟨5, .data⟩ (by simp) (by rfl)
                            exact fx_call hK hρ 18 _ _ #[.agg #[.slice A3 n3 c3, .slice F3 m3 d3]] rfl (by simp only [List.map_toArray, List.map_cons, List.map_nil, hA.const, f5]) (eg_of Tryz.func18 (by kernel_rfl) rfl) ((ownM_any _ hI.xm.inM hI.xm.ln hI.xm.lm).mono fun e w' ⟨⟨A1, c1, F1, d1, he, hM⟩, hb⟩ => ⟨_, he, ⟨A1, _, c1, F1, _, d1, rfl, hM⟩, hb⟩)
                          | 7, ho =>
                            have hoo := Option.some.inj ho
                            subst hoo
                            have f4 : GDq T (ρ (.tmp 134)) w := hd ⟨4, .data⟩ (by simp) (by rfl)
                            have f6 : GXq D' V' (ρ (.tmp 136)) w := hd ⟨6, .data⟩ (by simp) (by rfl)
                            obtain ⟨s1, f4', hD⟩ := f4
                            obtain ⟨A1, n1, c1, F1, m1, d1, f6', hM⟩ := f6
                            exact fx_call hK hρ 25 _ _ #[s1.arg T.period T.deadline, .agg #[.slice A1 n1 c1, .slice F1 m1 d1]] rfl (by simp only [List.map_toArray, List.map_cons, List.map_nil, hA.const, f4', f6']) (eg_of Tryz.func25 (by kernel_rfl) rfl) ((echeck_any _ hD hM).mono fun e w' ⟨he, hb⟩ => ⟨_, he, by show Value.int .i64 _ = .int .i64 0; rw [HR2.out], hb⟩)
                          | 8, ho =>
                            have hoo := Option.some.inj ho
                            subst hoo
                            have f7 : (ρ (.tmp 137)) = .int .i64 0 := hd ⟨7, .data⟩ (by simp) (by rfl)
                            exact fx_val hK hρ (.bool true) (by simp [execOp, f7, hA.const, go_sem]) rfl
                          | 9, ho =>
                            have hoo := Option.some.inj ho
                            subst hoo
                            have f2 : (ρ (.tmp 132)) = .bool false := hd ⟨2, .data⟩ (by simp) (by rfl)
                            have f8 : (ρ (.tmp 138)) = .bool true := hd ⟨8, .data⟩ (by simp) (by rfl)
                            exact fx_val hK hρ (.bool true) (by simp [execOp, f2, f8, hA.const, hA.const, go_sem]) rfl
                          | 10, ho =>
                            have hoo := Option.some.inj ho
                            subst hoo
                            have f9 : (ρ (.tmp 139)) = .bool true := hd ⟨9, .data⟩ (by simp) (by rfl)
                            exact fx_val hK hρ (.bool true) (by simp [execOp, f9, hA.const, go_sem]) rfl
                          | kq + 11, ho => simp at ho
                        case hend =>
                          intro vals9 w9 hI hF
                          have fz : vals9 6 = .bool true := hF 10 (by decide)
                          simp only [fillA, fillL, List.contains_cons, List.contains_nil, Nat.reduceBEq, Bool.or_false, Bool.false_or, Bool.or_true, Bool.true_or, cond_true, cond_false, Nat.zero_add, Nat.reduceAdd]
                          rw [fz]
                          have B10 := Lib.hid hI
                          clear hF hI fz B9
                          go_wp2
                          go_ret
                          exact ⟨rfl, B10.out.b.k.bel⟩
                | false =>
                  have hfe0 : ¬ fe = 0 := fun e => by
                    have := HE0.out.mp e
                    cases this
                  have hfb : (fe == 0) = false := by simpa using hfe0
                  have HEND : Hid (∀ ab : Bool, (ab = true ↔ k = 0) → True) := Lib.hid fun _ _ => trivial
                  have hkb : ((k : Int) == 0) = ab := by
                    cases ab with
                    | true => rw [HAL.out.mp rfl]; rfl
                    | false =>
                      have : ¬ k = 0 := fun e => by
                        have := HAL.out.mpr e
                        cases this
                      simpa using this
                  have hkb2 : (k == 0) = ab := by
                    cases ab with
                    | true => rw [HAL.out.mp rfl]; rfl
                    | false =>
                      have : ¬ k = 0 := fun e => by
                        have := HAL.out.mpr e
                        cases this
                      simpa using this
                  clear HAS HAL HE0 hfe0 HEND
                  obtain ⟨kb, hkbe⟩ : ∃ kb : Bool, kb = ab := ⟨_, rfl⟩
                  cases ab with
                  | true =>
                    have hk00 : k = 0 := by simpa using hkb2
                    have hz1 : decide ((0 : Int) < (k : Int)) = false := by simp [hk00]
                    have hz2 : decide (0 < k) = false := by simp [hk00]
                    clear hk00
                    go_wp2_with fail
                    refine wp_region_facts' [90, 91, 92, 93, 94, 14] [] [] (by kernel_rfl) (by kernel_rfl) (by kernel_rfl) (by intro d hd; simp at hd ⊢; omega) (BxX8 w0 (⟨P, np, pc, E, ne, ec, Fu, nf, fc, R, nr, rc⟩ : Sh) T A n c F m d D V A2 zs g A3 n3 c3 F3 m3 d3 D' V') (PhiYe P np pc E ne ec Fu nf fc R nr rc T A n c F m d D V A2 k c2 zs g A3 n3 c3 F3 m3 d3 D' V' k2 zs2)
                      (fun x y h hb => h.next hb) (phiYe_below P np pc E ne ec Fu nf fc R nr rc T A n c F m d D V A2 k c2 zs g A3 n3 c3 F3 m3 d3 D' V' k2 zs2) (B4.out.next (Below.refl _ _).drew) (fun p hp v w hv => by cases hp) (fun kq hkq => by simp at hkq) ?hstep ?hend
                    case hstep =>
                      intro kq o ho hw a w hI hA hd K hK
                      obtain ⟨ρ, hρ⟩ : ∃ ρ, a.eval = ρ := ⟨_, rfl⟩
                      rw [hρ] at hA hd
                      match kq, ho with
                      | 0, ho =>
                        have hoo := Option.some.inj ho
                        subst hoo
                        exact fx_val hK hρ ((⟨P, np, pc, E, ne, ec, Fu, nf, fc, R, nr, rc⟩ : Sh).arg T.period T.deadline) (ld_desc rfl (hA.tmp 3 (by decide)) hI.b.k.cd) rfl
                      | 1, ho =>
                        have hoo := Option.some.inj ho
                        subst hoo
                        have f0 : (ρ (.tmp 90)) = (⟨P, np, pc, E, ne, ec, Fu, nf, fc, R, nr, rc⟩ : Sh).arg T.period T.deadline := hd ⟨0, .data⟩ (by simp) (by rfl)
                        exact fx_call hK hρ 12 _ _ #[(⟨P, np, pc, E, ne, ec, Fu, nf, fc, R, nr, rc⟩ : Sh).arg T.period T.deadline] rfl (by simp only [List.map_toArray, List.map_cons, List.map_nil, hA.const, f0]) (eg_of Tryz.func12 (by kernel_rfl) rfl) ((own_d ⟨hI.b.k.t, HF.out.1.few, HTW.out _ hI.b.k.bel, HLE.out.1, HLE.out.2⟩).mono fun e w' ⟨s', he, hd, hb⟩ => ⟨_, he, ⟨s', rfl, hd⟩, hb⟩)
                      | 2, ho =>
                        have hoo := Option.some.inj ho
                        subst hoo
                        exact fx_val hK hρ _ (by have h := hA.tmp 8 (by decide); have h0 := hI.x0; have h1 := hI.x1; simp [execOp, h, h0, h1, go_sem]) rfl
                      | 3, ho =>
                        have hoo := Option.some.inj ho
                        subst hoo
                        have f2 : (ρ (.tmp 92)) = .agg #[.slice A3 n3 c3, .slice F3 m3 d3] := hd ⟨2, .data⟩ (by simp) (by rfl)
                        exact fx_call hK hρ 18 _ _ #[.agg #[.slice A3 n3 c3, .slice F3 m3 d3]] rfl (by simp only [List.map_toArray, List.map_cons, List.map_nil, hA.const, f2]) (eg_of Tryz.func18 (by kernel_rfl) rfl) ((ownM_any _ hI.xm.inM hI.xm.ln hI.xm.lm).mono fun e w' ⟨⟨A1, c1, F1, d1, he, hM⟩, hb⟩ => ⟨_, he, ⟨A1, _, c1, F1, _, d1, rfl, hM⟩, hb⟩)
                      | 4, ho =>
                        have hoo := Option.some.inj ho
                        subst hoo
                        have f1 : GDq T (ρ (.tmp 91)) w := hd ⟨1, .data⟩ (by simp) (by rfl)
                        have f3 : GXq D' V' (ρ (.tmp 93)) w := hd ⟨3, .data⟩ (by simp) (by rfl)
                        obtain ⟨s1, f1', hD⟩ := f1
                        obtain ⟨A1, n1, c1, F1, m1, d1, f3', hM⟩ := f3
                        exact fx_call hK hρ 21 _ _ #[s1.arg T.period T.deadline, .agg #[.slice A1 n1 c1, .slice F1 m1 d1]] rfl (by simp only [List.map_toArray, List.map_cons, List.map_nil, hA.const, f1', f3']) (eg_of Tryz.func21 (by kernel_rfl) rfl) ((eready_any _ hD hM).mono fun e w' hg => (by
                      obtain ⟨A5, c5, he, hi, hb⟩ := hg.ints
                      rw [HZ2.out.1, HZ2.out.2] at he
                      rw [HZ2.out.1] at hi
                      exact ⟨_, he, ⟨A5, c5, rfl, hi⟩, hb⟩))
                      | 5, ho =>
                        have hoo := Option.some.inj ho
                        subst hoo
                        have f4 : GLq k2 zs2 (ρ (.tmp 94)) w := hd ⟨4, .data⟩ (by simp) (by rfl)
                        obtain ⟨A5, c5, f4', hi⟩ := f4
                        exact fx_val hK hρ (.slice A5 k2 c5) (by simp [execOp, f4', go_sem]) ⟨A5, c5, rfl, hi⟩
                      | kq + 6, ho => simp at ho
                    case hend =>
                      intro vals6 w6 hI hF
                      obtain ⟨A5, c5, fz, hi6⟩ : GLq k2 zs2 (vals6 14) w6 := hF 5 (by decide)
                      simp only [fillA, fillL, List.contains_cons, List.contains_nil, Nat.reduceBEq, Bool.or_false, Bool.false_or, Bool.or_true, Bool.true_or, cond_true, cond_false, Nat.zero_add, Nat.reduceAdd]
                      rw [fz]
                      have B6 := Lib.hid hI
                      clear hF hI fz hi6 B4
                      go_wp2
                      go_loopw [15] (fun i wr => i = .int .i64 0 ∧ w6 = wr) (fun i _ => 0)
                      case atStart => exact ⟨rfl, rfl⟩
                      case round =>
                        obtain ⟨rfl, rfl⟩ := hrel
                        go_wp2_with fail
                        refine wp_region_facts' [130, 131, 132, 133, 134, 135, 136, 137, 138, 139, 6] [true, true, true, false, false, false, false, false, false, true, true] [(2, true)] (by kernel_rfl) (by kernel_rfl) (by kernel_rfl) (by intro d hd; simp at hd ⊢; omega) (BxX8 w0 (⟨P, np, pc, E, ne, ec, Fu, nf, fc, R, nr, rc⟩ : Sh) T A n c F m d D V A2 zs g A3 n3 c3 F3 m3 d3 D' V') (PhiYg P np pc E ne ec Fu nf fc R nr rc T A n c F m d D V A2 k c2 zs g A3 n3 c3 F3 m3 d3 D' V')
                          (fun x y h hb => h.next hb) (phiYg_below P np pc E ne ec Fu nf fc R nr rc T A n c F m d D V A2 k c2 zs g A3 n3 c3 F3 m3 d3 D' V') (B6.out.next (Below.refl _ _).drew) (fun p hp v w hv => by
                            simp only [List.mem_cons, List.not_mem_nil, or_false] at hp
                            subst hp
                            exact hv) (fun kq hkq w => by
                            have hlt : kq < 11 := by
                              apply Classical.byContradiction
                              intro h
                              rw [List.getD_eq_getElem?_getD, List.getElem?_eq_none (by simp; omega)] at hkq
                              simp at hkq
                            match kq, hlt, hkq with
                            | 0, _, h => exact absurd h (by decide)
                            | 1, _, h => exact absurd h (by decide)
                            | 2, _, h => exact absurd h (by decide)
                            | 3, _, _ => exact trivial
                            | 4, _, _ => exact trivial
                            | 5, _, _ => exact trivial
                            | 6, _, _ => exact trivial
                            | 7, _, _ => exact trivial
                            | 8, _, _ => exact trivial
                            | 9, _, h => exact absurd h (by decide)
                            | 10, _, h => exact absurd h (by decide)
                            | kq + 11, h, _ => omega) ?hstep ?hend
                        case hstep =>
                          intro kq o ho hw a w hI hA hd K hK
                          obtain ⟨ρ, hρ⟩ : ∃ ρ, a.eval = ρ := ⟨_, rfl⟩
                          rw [hρ] at hA hd
                          match kq, ho with
                          | 0, ho =>
                            have hoo := Option.some.inj ho
                            subst hoo
                            exact fx_val hK hρ (.bool false) (by have h := hA.tmp 10 (by decide); simp [execOp, h, go_sem]) rfl
                          | 1, ho =>
                            have hoo := Option.some.inj ho
                            subst hoo
                            have f0 : (ρ (.tmp 130)) = .bool false := hd ⟨0, .data⟩ (by simp) (by rfl)
                            exact fx_val hK hρ (.bool true) (by simp [execOp, f0, hA.const, go_sem]) rfl
                          | 2, ho =>
                            have hoo := Option.some.inj ho
                            subst hoo
                            have f1 : (ρ (.tmp 131)) = .bool true := hd ⟨1, .data⟩ (by simp) (by rfl)
                            exact fx_val hK hρ (.bool true) (by simp [execOp, f1, hA.const, go_sem]) rfl
                          | 3, ho =>
                            exact absurd hw (by decide)
                          | 4, ho =>
                            exact absurd hw (by decide)
                          | 5, ho =>
                            exact absurd hw (by decide)
                          | 6, ho =>
                            exact absurd hw (by decide)
                          | 7, ho =>
                            exact absurd hw (by decide)
                          | 8, ho =>
                            exact absurd hw (by decide)
                          | 9, ho =>
                            have hoo := Option.some.inj ho
                            subst hoo
                            have f2 : (ρ (.tmp 132)) = .bool true := hd ⟨2, .data⟩ (by simp) (by rfl)
                            exact fx_val hK hρ (.bool true) (by simp [execOp, f2, hA.const, hA.const, go_sem]) rfl
                          | 10, ho =>
                            have hoo := Option.some.inj ho
                            subst hoo
                            have f9 : (ρ (.tmp 139)) = .bool true := hd ⟨9, .data⟩ (by simp) (by rfl)
                            exact fx_val hK hρ (.bool true) (by simp [execOp, f9, hA.const, go_sem]) rfl
                          | kq + 11, ho => simp at ho
                        case hend =>
                          intro vals9 w9 hI hF
                          have fz : vals9 6 = .bool true := hF 10 (by decide)
                          simp only [fillA, fillL, List.contains_cons, List.contains_nil, Nat.reduceBEq, Bool.or_false, Bool.false_or, Bool.or_true, Bool.true_or, cond_true, cond_false, Nat.zero_add, Nat.reduceAdd]
                          rw [fz]
                          have B10 := Lib.hid hI
                          clear hF hI fz B6
                          go_wp2
                          go_ret
                          exact ⟨rfl, B10.out.b.k.bel⟩
                  | false =>
                    have hkp : 0 < k := by
                      rcases Nat.eq_zero_or_pos k with e | e
                      · subst e
                        cases hkb2
                      · exact e
                    go_wp2_with fail
                    refine wp_region_facts' [90, 91, 92, 93, 94, 14] [] [] (by kernel_rfl) (by kernel_rfl) (by kernel_rfl) (by intro d hd; simp at hd ⊢; omega) (BxX8 w0 (⟨P, np, pc, E, ne, ec, Fu, nf, fc, R, nr, rc⟩ : Sh) T A n c F m d D V A2 zs g A3 n3 c3 F3 m3 d3 D' V') (PhiYe P np pc E ne ec Fu nf fc R nr rc T A n c F m d D V A2 k c2 zs g A3 n3 c3 F3 m3 d3 D' V' k2 zs2)
                      (fun x y h hb => h.next hb) (phiYe_below P np pc E ne ec Fu nf fc R nr rc T A n c F m d D V A2 k c2 zs g A3 n3 c3 F3 m3 d3 D' V' k2 zs2) (B4.out.next (Below.refl _ _).drew) (fun p hp v w hv => by cases hp) (fun kq hkq => by simp at hkq) ?hstep ?hend
                    case hstep =>
                      intro kq o ho hw a w hI hA hd K hK
                      obtain ⟨ρ, hρ⟩ : ∃ ρ, a.eval = ρ := ⟨_, rfl⟩
                      rw [hρ] at hA hd
                      match kq, ho with
                      | 0, ho =>
                        have hoo := Option.some.inj ho
                        subst hoo
                        exact fx_val hK hρ ((⟨P, np, pc, E, ne, ec, Fu, nf, fc, R, nr, rc⟩ : Sh).arg T.period T.deadline) (ld_desc rfl (hA.tmp 3 (by decide)) hI.b.k.cd) rfl
                      | 1, ho =>
                        have hoo := Option.some.inj ho
                        subst hoo
                        have f0 : (ρ (.tmp 90)) = (⟨P, np, pc, E, ne, ec, Fu, nf, fc, R, nr, rc⟩ : Sh).arg T.period T.deadline := hd ⟨0, .data⟩ (by simp) (by rfl)
                        exact fx_call hK hρ 12 _ _ #[(⟨P, np, pc, E, ne, ec, Fu, nf, fc, R, nr, rc⟩ : Sh).arg T.period T.deadline] rfl (by simp only [List.map_toArray, List.map_cons, List.map_nil, hA.const, f0]) (eg_of Tryz.func12 (by kernel_rfl) rfl) ((own_d ⟨hI.b.k.t, HF.out.1.few, HTW.out _ hI.b.k.bel, HLE.out.1, HLE.out.2⟩).mono fun e w' ⟨s', he, hd, hb⟩ => ⟨_, he, ⟨s', rfl, hd⟩, hb⟩)
                      | 2, ho =>
                        have hoo := Option.some.inj ho
                        subst hoo
                        exact fx_val hK hρ _ (by have h := hA.tmp 8 (by decide); have h0 := hI.x0; have h1 := hI.x1; simp [execOp, h, h0, h1, go_sem]) rfl
                      | 3, ho =>
                        have hoo := Option.some.inj ho
                        subst hoo
                        have f2 : (ρ (.tmp 92)) = .agg #[.slice A3 n3 c3, .slice F3 m3 d3] := hd ⟨2, .data⟩ (by simp) (by rfl)
                        exact fx_call hK hρ 18 _ _ #[.agg #[.slice A3 n3 c3, .slice F3 m3 d3]] rfl (by simp only [List.map_toArray, List.map_cons, List.map_nil, hA.const, f2]) (eg_of Tryz.func18 (by kernel_rfl) rfl) ((ownM_any _ hI.xm.inM hI.xm.ln hI.xm.lm).mono fun e w' ⟨⟨A1, c1, F1, d1, he, hM⟩, hb⟩ => ⟨_, he, ⟨A1, _, c1, F1, _, d1, rfl, hM⟩, hb⟩)
                      | 4, ho =>
                        have hoo := Option.some.inj ho
                        subst hoo
                        have f1 : GDq T (ρ (.tmp 91)) w := hd ⟨1, .data⟩ (by simp) (by rfl)
                        have f3 : GXq D' V' (ρ (.tmp 93)) w := hd ⟨3, .data⟩ (by simp) (by rfl)
                        obtain ⟨s1, f1', hD⟩ := f1
                        obtain ⟨A1, n1, c1, F1, m1, d1, f3', hM⟩ := f3
                        exact fx_call hK hρ 21 _ _ #[s1.arg T.period T.deadline, .agg #[.slice A1 n1 c1, .slice F1 m1 d1]] rfl (by simp only [List.map_toArray, List.map_cons, List.map_nil, hA.const, f1', f3']) (eg_of Tryz.func21 (by kernel_rfl) rfl) ((eready_any _ hD hM).mono fun e w' hg => (by
                      obtain ⟨A5, c5, he, hi, hb⟩ := hg.ints
                      rw [HZ2.out.1, HZ2.out.2] at he
                      rw [HZ2.out.1] at hi
                      exact ⟨_, he, ⟨A5, c5, rfl, hi⟩, hb⟩))
                      | 5, ho =>
                        have hoo := Option.some.inj ho
                        subst hoo
                        have f4 : GLq k2 zs2 (ρ (.tmp 94)) w := hd ⟨4, .data⟩ (by simp) (by rfl)
                        obtain ⟨A5, c5, f4', hi⟩ := f4
                        exact fx_val hK hρ (.slice A5 k2 c5) (by simp [execOp, f4', go_sem]) ⟨A5, c5, rfl, hi⟩
                      | kq + 6, ho => simp at ho
                    case hend =>
                      intro vals6 w6 hI hF
                      obtain ⟨A5, c5, fz, hi6⟩ : GLq k2 zs2 (vals6 14) w6 := hF 5 (by decide)
                      simp only [fillA, fillL, List.contains_cons, List.contains_nil, Nat.reduceBEq, Bool.or_false, Bool.false_or, Bool.or_true, Bool.true_or, cond_true, cond_false, Nat.zero_add, Nat.reduceAdd]
                      rw [fz]
                      have B6 := Lib.hid hI
                      clear hF hI fz hi6 B4
                      go_wp2
                      go_loopw [15] (fun i wr => i = .int .i64 0 ∧ w6 = wr) (fun i _ => 0)
                      case atStart => exact ⟨rfl, rfl⟩
                      case round =>
                        obtain ⟨rfl, rfl⟩ := hrel
                        go_wp2_with fail
                        refine wp_region_facts' [130, 131, 132, 133, 134, 135, 136, 137, 138, 139, 6] [true, true, true, false, false, false, false, false, false, true, true] [(2, true)] (by kernel_rfl) (by kernel_rfl) (by kernel_rfl) (by intro d hd; simp at hd ⊢; omega) (BxX8 w0 (⟨P, np, pc, E, ne, ec, Fu, nf, fc, R, nr, rc⟩ : Sh) T A n c F m d D V A2 zs g A3 n3 c3 F3 m3 d3 D' V') (PhiYg P np pc E ne ec Fu nf fc R nr rc T A n c F m d D V A2 k c2 zs g A3 n3 c3 F3 m3 d3 D' V')
                          (fun x y h hb => h.next hb) (phiYg_below P np pc E ne ec Fu nf fc R nr rc T A n c F m d D V A2 k c2 zs g A3 n3 c3 F3 m3 d3 D' V') (B6.out.next (Below.refl _ _).drew) (fun p hp v w hv => by
                            simp only [List.mem_cons, List.not_mem_nil, or_false] at hp
                            subst hp
                            exact hv) (fun kq hkq w => by
                            have hlt : kq < 11 := by
                              apply Classical.byContradiction
                              intro h
                              rw [List.getD_eq_getElem?_getD, List.getElem?_eq_none (by simp; omega)] at hkq
                              simp at hkq
                            match kq, hlt, hkq with
                            | 0, _, h => exact absurd h (by decide)
                            | 1, _, h => exact absurd h (by decide)
                            | 2, _, h => exact absurd h (by decide)
                            | 3, _, _ => exact trivial
                            | 4, _, _ => exact trivial
                            | 5, _, _ => exact trivial
                            | 6, _, _ => exact trivial
                            | 7, _, _ => exact trivial
                            | 8, _, _ => exact trivial
                            | 9, _, h => exact absurd h (by decide)
                            | 10, _, h => exact absurd h (by decide)
                            | kq + 11, h, _ => omega) ?hstep ?hend
                        case hstep =>
                          intro kq o ho hw a w hI hA hd K hK
                          obtain ⟨ρ, hρ⟩ : ∃ ρ, a.eval = ρ := ⟨_, rfl⟩
                          rw [hρ] at hA hd
                          match kq, ho with
                          | 0, ho =>
                            have hoo := Option.some.inj ho
                            subst hoo
                            exact fx_val hK hρ (.bool false) (by have h := hA.tmp 10 (by decide); simp [execOp, h, go_sem]) rfl
                          | 1, ho =>
                            have hoo := Option.some.inj ho
                            subst hoo
                            have f0 : (ρ (.tmp 130)) = .bool false := hd ⟨0, .data⟩ (by simp) (by rfl)
                            exact fx_val hK hρ (.bool true) (by simp [execOp, f0, hA.const, go_sem]) rfl
                          | 2, ho =>
                            have hoo := Option.some.inj ho
                            subst hoo
                            have f1 : (ρ (.tmp 131)) = .bool true := hd ⟨1, .data⟩ (by simp) (by rfl)
                            exact fx_val hK hρ (.bool true) (by simp [execOp, f1, hA.const, go_sem]) rfl
                          | 3, ho =>
                            exact absurd hw (by decide)
                          | 4, ho =>
                            exact absurd hw (by decide)
                          | 5, ho =>
                            exact absurd hw (by decide)
                          | 6, ho =>
                            exact absurd hw (by decide)
                          | 7, ho =>
                            exact absurd hw (by decide)
                          | 8, ho =>
                            exact absurd hw (by decide)
                          | 9, ho =>
                            have hoo := Option.some.inj ho
                            subst hoo
                            have f2 : (ρ (.tmp 132)) = .bool true := hd ⟨2, .data⟩ (by simp) (by rfl)
                            exact fx_val hK hρ (.bool true) (by simp [execOp, f2, hA.const, hA.const, go_sem]) rfl
                          | 10, ho =>
                            have hoo := Option.some.inj ho
                            subst hoo
                            have f9 : (ρ (.tmp 139)) = .bool true := hd ⟨9, .data⟩ (by simp) (by rfl)
                            exact fx_val hK hρ (.bool true) (by simp [execOp, f9, hA.const, go_sem]) rfl
                          | kq + 11, ho => simp at ho
                        case hend =>
                          intro vals9 w9 hI hF
                          have fz : vals9 6 = .bool true := hF 10 (by decide)
                          simp only [fillA, fillL, List.contains_cons, List.contains_nil, Nat.reduceBEq, Bool.or_false, Bool.false_or, Bool.or_true, Bool.true_or, cond_true, cond_false, Nat.zero_add, Nat.reduceAdd]
                          rw [fz]
                          have B10 := Lib.hid hI
                          clear hF hI fz B6
                          go_wp2
                          go_ret
                          exact ⟨rfl, B10.out.b.k.bel⟩
theorem walk_EvalReady (w0 : World) (hd : InD w0 s T) (hm : InM w0 A n c F m d D V) (node : Int) (hnb : -9223372036854775808 ≤ node ∧ node ≤ 9223372036854775807) (hT : DTab w0) : Calls Tryz.prog 7 #[s.arg T.period T.deadline, .agg #[.slice A n c, .slice F m d], .int .i64 node] w0 fun z w' => z = .returned (.bool true) ∧ Below w0.heap.size w0 w' := by
  by_cases h1 : FewD T ∧ n ≤ 70 ∧ m ≤ 70
  · by_cases h2 : MemOk T D V
    · exact ready_good w0 node hd hm hT h1.1 h1.2.1 h1.2.2 h2
    · exact ready_bad w0 node hd hm hT h1.1 h1.2.1 h1.2.2 (fun e => h2 (chkM_zero.mp e))
  · exact ready_many w0 node hd hm hT h1
end
end Go.Proofs.YtmelgolnmnebpaaGreatDoor
