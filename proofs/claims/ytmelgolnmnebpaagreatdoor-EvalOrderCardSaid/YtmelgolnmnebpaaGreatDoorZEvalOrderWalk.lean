/- The walk of EvalOrder in the seat YtmelgolnmnebpaaGreatDoor (printed by eval/mk_order.py). No statement is proved here. -/
import Derived.Test.YtmelgolnmnebpaaGreatDoorZM33
import Derived.Test.YtmelgolnmnebpaaGreatDoorZM34
import Derived.Test.YtmelgolnmnebpaaGreatDoorZM13
set_option linter.unusedSimpArgs false
set_option linter.unusedVariables false
set_option linter.unusedSimpArgs false
namespace Go.Proofs.YtmelgolnmnebpaaGreatDoor
open Go.RowKit


def PhiOa (P : Option Addr) (np pc : Nat) (E : Option Addr) (ne ec : Nat) (Fu : Option Addr) (nf fc : Nat) (R : Option Addr) (nr rc : Nat) (T : Task) (g : Nat) (A : Option Addr) (n c : Nat) (F : Option Addr) (m d : Nat) (D : List Bool) (V : List Int) (k : Nat) (zs : List Int) : Nat → Value → World → Prop
  | 0, v, w => v = (⟨P, np, pc, E, ne, ec, Fu, nf, fc, R, nr, rc⟩ : Sh).arg T.period T.deadline
  | 1, v, w => GDq T v w
  | 2, v, w => v = .agg #[.slice A n c, .slice F m d]
  | 3, v, w => GMq n m D V v w
  | 4, v, w => GLq k zs v w
  | 5, v, w => GLq k zs v w
  | _, _, _ => True
theorem phiOa_below (P : Option Addr) (np pc : Nat) (E : Option Addr) (ne ec : Nat) (Fu : Option Addr) (nf fc : Nat) (R : Option Addr) (nr rc : Nat) (T : Task) (g : Nat) (A : Option Addr) (n c : Nat) (F : Option Addr) (m d : Nat) (D : List Bool) (V : List Int) (k : Nat) (zs : List Int) : ∀ kq v w w', PhiOa P np pc E ne ec Fu nf fc R nr rc T g A n c F m d D V k zs kq v w → Below w.heap.size w w' → PhiOa P np pc E ne ec Fu nf fc R nr rc T g A n c F m d D V k zs kq v w' := by
  intro kq v w w' h hb
  match kq, h with
  | 0, h => exact h
  | 1, h => exact GDq.below h hb
  | 2, h => exact h
  | 3, h => exact GMq.below h hb
  | 4, h => exact GLq.below h hb
  | 5, h => exact GLq.below h hb
  | kq + 6, h => exact trivial
def PhiOb (P : Option Addr) (np pc : Nat) (E : Option Addr) (ne ec : Nat) (Fu : Option Addr) (nf fc : Nat) (R : Option Addr) (nr rc : Nat) (T : Task) (g : Nat) (A : Option Addr) (n c : Nat) (F : Option Addr) (m d : Nat) (D : List Bool) (V : List Int) (hbs : Nat) (Ai : Option Addr) (ni ci : Nat) (inp : List Int) (bk off k c2 q : Nat) (qz y fe : Int) (D' : List Bool) (V' : List Int) : Nat → Value → World → Prop
  | 0, v, w => v = (⟨P, np, pc, E, ne, ec, Fu, nf, fc, R, nr, rc⟩ : Sh).arg T.period T.deadline
  | 1, v, w => GDq T v w
  | 2, v, w => NewRow 3 w hbs v
  | 3, v, w => v = .slice Ai ni ci
  | 4, v, w => GLq ni inp v w
  | 5, v, w => v = .agg #[.slice A n c, .slice F m d]
  | 6, v, w => GMq n m D V v w
  | 7, v, w => v = .slice (some ⟨bk, off, none⟩) k c2
  | 8, v, w => v = .int .i64 qz
  | 9, v, w => v = .pointer (some ⟨bk, off + q, none⟩)
  | 10, v, w => v = .int .i64 y
  | 11, v, w => GFq D' V' fe v w
  | 12, v, w => GFq D' V' fe v w
  | 13, v, w => GXq D' V' v w
  | 14, v, w => v = .int .i64 fe
  | 15, v, w => GNq hbs v w
  | 16, v, w => True
  | 17, v, w => v = .int .i64 fe
  | _, _, _ => True
theorem phiOb_below (P : Option Addr) (np pc : Nat) (E : Option Addr) (ne ec : Nat) (Fu : Option Addr) (nf fc : Nat) (R : Option Addr) (nr rc : Nat) (T : Task) (g : Nat) (A : Option Addr) (n c : Nat) (F : Option Addr) (m d : Nat) (D : List Bool) (V : List Int) (hbs : Nat) (Ai : Option Addr) (ni ci : Nat) (inp : List Int) (bk off k c2 q : Nat) (qz y fe : Int) (D' : List Bool) (V' : List Int) : ∀ kq v w w', PhiOb P np pc E ne ec Fu nf fc R nr rc T g A n c F m d D V hbs Ai ni ci inp bk off k c2 q qz y fe D' V' kq v w → Below w.heap.size w w' → PhiOb P np pc E ne ec Fu nf fc R nr rc T g A n c F m d D V hbs Ai ni ci inp bk off k c2 q qz y fe D' V' kq v w' := by
  intro kq v w w' h hb
  match kq, h with
  | 0, h => exact h
  | 1, h => exact GDq.below h hb
  | 2, h => exact NewRow.below h hb
  | 3, h => exact h
  | 4, h => exact GLq.below h hb
  | 5, h => exact h
  | 6, h => exact GMq.below h hb
  | 7, h => exact h
  | 8, h => exact h
  | 9, h => exact h
  | 10, h => exact h
  | 11, h => exact GFq.below h hb
  | 12, h => exact GFq.below h hb
  | 13, h => exact GXq.below h hb
  | 14, h => exact h
  | 15, h => exact GNq.below h hb
  | 16, h => exact h
  | 17, h => exact h
  | kq + 18, h => exact trivial
section
variable {s : Sh} {T : Task} {inp picks : List Int} {Ai Ap : Option Addr} {ni ci npk cp : Nat}
set_option maxRecDepth 100000 in
set_option maxHeartbeats 16000000 in
theorem order_many (w0 : World) (hd : InD w0 s T) (hT : DTab w0) (h : ¬ (FewD T ∧ ni ≤ 60)) : Calls Tryz.prog 6 #[s.arg T.period T.deadline, .slice Ai ni ci, .slice Ap npk cp] w0 fun z w' => z = .returned (.bool true) ∧ Below w0.heap.size w0 w' := by
  have HTW := Lib.hid (fun W (h : Below w0.heap.size w0 W) => DTab.via hT h)
  have B0 := Lib.hid (Bx1T.start hd.t)
  have CF := Lib.hid (fun W (k : IsT W W.heap.size s T) => few8_any (s := s) (T := T) (A := none) (n := 0) (c := 0) (F := none) (m := 0) (d := 0) (Ai := Ai) (ni := ni) (ci := ci) W k false ⟨fun e => (by cases e), fun e => absurd ⟨e.1, e.2.1⟩ h⟩)
  obtain ⟨P, np, pc, E, ne, ec, Fu, nf, fc, R, nr, rc⟩ := s
  clear hd hT h
  go_enter Tryz.func6, Tryz.ntmps6
  go_wp2_with fail
  refine (awakeE_any _ (HTW.out _ B0.out.bel)).mono ?_
  rintro e w1 ⟨rfl, b1⟩
  have B1 := Lib.hid (B0.out.next b1)
  clear b1
  obtain ⟨t0, t1, t2, t3, t4, t5⟩ := B1.out.c
  simp only at t2 t3 t4 t5
  go_wp2_with fail
  refine (CF.out _ B1.out.t).mono ?_
  rintro e w2 ⟨rfl, b2⟩
  have B2 := Lib.hid (B1.out.next b2)
  clear b2 t0 t1 t2 t3 t4 t5
  go_wp2_with fail
  refine (awakeE_any _ (HTW.out _ B2.out.bel)).mono ?_
  rintro e w3 ⟨rfl, b3⟩
  have B3 := Lib.hid (B2.out.next b3)
  clear b3
  go_wp2_with fail
  go_ret
  exact ⟨rfl, B3.out.bel⟩
set_option maxRecDepth 100000 in
set_option maxHeartbeats 16000000 in
theorem order_long (w0 : World) (hd : InD w0 s T) (hT : DTab w0) (h1 : FewD T) (h2 : ni ≤ 60) (h3 : 70 < npk) : Calls Tryz.prog 6 #[s.arg T.period T.deadline, .slice Ai ni ci, .slice Ap npk cp] w0 fun z w' => z = .returned (.bool true) ∧ Below w0.heap.size w0 w' := by
  have HTW := Lib.hid (fun W (h : Below w0.heap.size w0 W) => DTab.via hT h)
  have B0 := Lib.hid (Bx1T.start hd.t)
  have CF := Lib.hid (fun W (k : IsT W W.heap.size s T) => few8_any (s := s) (T := T) (A := none) (n := 0) (c := 0) (F := none) (m := 0) (d := 0) (Ai := Ai) (ni := ni) (ci := ci) W k true ⟨fun _ => ⟨h1, h2, by decide, by decide⟩, fun _ => rfl⟩)
  obtain ⟨P, np, pc, E, ne, ec, Fu, nf, fc, R, nr, rc⟩ := s
  have g1 : decide ((70 : Int) < (npk : Int)) = true := decide_eq_true (by omega)
  have g2 : decide (70 < npk) = true := decide_eq_true h3
  clear hd hT h1
  go_enter Tryz.func6, Tryz.ntmps6
  go_wp2_with fail
  refine (awakeE_any _ (HTW.out _ B0.out.bel)).mono ?_
  rintro e w1 ⟨rfl, b1⟩
  have B1 := Lib.hid (B0.out.next b1)
  clear b1
  obtain ⟨t0, t1, t2, t3, t4, t5⟩ := B1.out.c
  simp only at t2 t3 t4 t5
  go_wp2_with fail
  refine (CF.out _ B1.out.t).mono ?_
  rintro e w2 ⟨rfl, b2⟩
  have B2 := Lib.hid (B1.out.next b2)
  clear b2 t0 t1 t2 t3 t4 t5
  go_wp2_with fail
  refine (awakeE_any _ (HTW.out _ B2.out.bel)).mono ?_
  rintro e w3 ⟨rfl, b3⟩
  have B3 := Lib.hid (B2.out.next b3)
  clear b3
  go_wp2_with fail
  go_ret
  exact ⟨rfl, B3.out.bel⟩
set_option maxRecDepth 100000 in
set_option maxHeartbeats 64000000 in
theorem order_few (w0 : World) (hd : InD w0 s T) (hi : InI w0 Ai ni ci inp) (ho : InI w0 Ap npk cp picks) (hT : DTab w0) (h1 : FewD T) (h2 : ni ≤ 60) (h3 : npk ≤ 70) : Calls Tryz.prog 6 #[s.arg T.period T.deadline, .slice Ai ni ci, .slice Ap npk cp] w0 fun z w' => z = .returned (.bool true) ∧ Below w0.heap.size w0 w' := by
  have HTW := Lib.hid (fun W (h : Below w0.heap.size w0 W) => DTab.via hT h)
  have HISD := Lib.hid (fun W (h : Below w0.heap.size w0 W) => (hd.isD hT h1).below h)
  have HINP := Lib.hid (fun W (h : Below w0.heap.size w0 W) => hi.below h)
  have HPK := Lib.hid (fun W (h : Below w0.heap.size w0 W) => ho.below h)
  have HNI := Lib.hid (⟨hi.hn, by omega⟩ : inp.length = ni ∧ ni ≤ 1000)
  have B0 := Lib.hid (Bx1T.start hd.t)
  have CF := Lib.hid (fun W (k : IsT W W.heap.size s T) => few8_any (s := s) (T := T) (A := none) (n := 0) (c := 0) (F := none) (m := 0) (d := 0) (Ai := Ai) (ni := ni) (ci := ci) W k true ⟨fun _ => ⟨h1, h2, by decide, by decide⟩, fun _ => rfl⟩)
  have HLI := Lib.hid (fun W (h1 : InI W Ai ni ci inp) => (by
    obtain rfl := h1.hn
    exact new_list9 W Ai ci inp (by omega) h1.ints h1.hA : ∃ A' c' w', (Builtin.append_ #[30, 30] 30 #[.slice (some ⟨W.heap.size, 0, none⟩) 0 0, .slice Ai ni ci]).run Tryz.prog (W.alloc (.cells #[] 3)) = .ok (.slice A' ni c') w' ∧ OwnI w' W.heap.size (.slice A' ni c') inp ∧ Below W.heap.size W w'))
  have g1 : decide ((70 : Int) < (npk : Int)) = false := decide_eq_false (by omega)
  have g2 : decide (70 < npk) = false := decide_eq_false (by omega)
  have HPN := Lib.hid ho.hn
  have HPW := Lib.hid ho.wf
  obtain ⟨P, np, pc, E, ne, ec, Fu, nf, fc, R, nr, rc⟩ := s
  clear hd hi ho hT h1
  go_enter Tryz.func6, Tryz.ntmps6
  go_wp2_with fail
  refine (awakeE_any _ (HTW.out _ B0.out.bel)).mono ?_
  rintro e w1 ⟨rfl, b1⟩
  have B1 := Lib.hid (B0.out.next b1)
  clear b1
  obtain ⟨t0, t1, t2, t3, t4, t5⟩ := B1.out.c
  simp only at t2 t3 t4 t5
  go_wp2_with fail
  refine (CF.out _ B1.out.t).mono ?_
  rintro e w2 ⟨rfl, b2⟩
  have B2 := Lib.hid (B1.out.next b2)
  clear b2 t0 t1 t2 t3 t4 t5
  obtain ⟨t0, t1, t2, t3, t4, t5⟩ := B2.out.c
  simp only at t2 t3 t4 t5
  go_wp2_with fail
  refine (own_d (HISD.out _ B2.out.bel)).mono ?_
  rintro e w3 ⟨s3, rfl, hs3, b3⟩
  have B3 := Lib.hid (B2.out.next b3)
  have HS3 := Lib.hid hs3
  clear b3 hs3 t0 t1 t2 t3 t4 t5 g1 g2
  go_wp2_with fail
  refine (enew_any w3 HS3.out).mono ?_
  rintro e w4 ⟨b4, ⟨hL, A4, F4, rfl, hM4⟩ | ⟨hn4, rfl⟩⟩
  · have B4 := Lib.hid (B3.out.next b4)
    have HL := Lib.hid hL
    have HM4 := Lib.hid hM4
    clear b4 hL hM4
    go_wp2
    obtain ⟨wa, hwa⟩ : ∃ wa, wa = w4.alloc (.cells #[.slice (some ⟨A4, 0, none⟩) (lowP T).length (lowP T).length, .slice (some ⟨F4, 0, none⟩) T.parts.length T.parts.length] 43) := ⟨_, rfl⟩
    have hbo : BxOr w0 (⟨P, np, pc, E, ne, ec, Fu, nf, fc, R, nr, rc⟩ : Sh) T w4.heap.size (some ⟨A4, 0, none⟩) (lowP T).length (lowP T).length (some ⟨F4, 0, none⟩) T.parts.length T.parts.length (List.replicate (lowP T).length false) (List.replicate T.parts.length 0) wa := by
      have hba := below_alloc (w := w4) (.cells #[.slice (some ⟨A4, 0, none⟩) (lowP T).length (lowP T).length, .slice (some ⟨F4, 0, none⟩) T.parts.length T.parts.length] 43)
      have hn := heap_alloc_new w4 (.cells #[.slice (some ⟨A4, 0, none⟩) (lowP T).length (lowP T).length, .slice (some ⟨F4, 0, none⟩) T.parts.length T.parts.length] 43)
      rw [← hwa] at hba hn
      exact ⟨B4.out.bel.trans (hba.mono B4.out.bel.size), B4.out.c.next hba, World.block_lt_of_cell? _ _ B4.out.c.1, hn, HM4.out.below hba⟩
    have HS0 := Lib.hid (⟨_, _, _, _, _, _, _, _, hbo, MemOk.new HL.out, ToldM.new T inp _, Nat.zero_le _⟩ : ∃ (A : Option Addr) (n c : Nat) (F : Option Addr) (m d : Nat) (D : List Bool) (V : List Int), BxOr w0 (⟨P, np, pc, E, ne, ec, Fu, nf, fc, R, nr, rc⟩ : Sh) T w4.heap.size A n c F m d D V wa ∧ MemOk T D V ∧ ToldM T inp D V ∧ 0 ≤ cntD D)
    rw [← hwa]
    obtain ⟨g, hg⟩ : ∃ g, g = w4.heap.size := ⟨_, rfl⟩
    rw [← hg] at HS0 ⊢
    clear hbo hwa hg B0 B1 B2 B3 B4 HS3 HM4
    go_loopw [9] (fun i wr => ∃ kk : Nat, kk ≤ 70 ∧ i = .int .i64 kk ∧ Hid (∃ (A : Option Addr) (n c : Nat) (F : Option Addr) (m d : Nat) (D : List Bool) (V : List Int), BxOr w0 (⟨P, np, pc, E, ne, ec, Fu, nf, fc, R, nr, rc⟩ : Sh) T g A n c F m d D V wr ∧ MemOk T D V ∧ ToldM T inp D V ∧ kk ≤ cntD D)) (fun i _ => 70 - (intOf i).toNat)
    case atStart => exact ⟨0, by omega, rfl, HS0⟩
    case round =>
      obtain ⟨kk, hkk, rfl, HS⟩ := hrel
      obtain ⟨A, n, c, F, m, d, D, V, hB, hM, hTo, hc⟩ := HS.out
      clear HS HS0
      have HMO := Lib.hid (And.intro hM (And.intro hTo hc))
      by_cases hlt : kk < 70
      · have B5a := Lib.hid hB
        obtain ⟨zs, hzs⟩ : ∃ zs, nums (readyM T D V) = zs := ⟨_, rfl⟩
        obtain ⟨k, hk⟩ : ∃ k, zs.length = k := ⟨_, rfl⟩
        have HZ := Lib.hid (And.intro hzs hk)
        have HZR : Hid (zs = nums (readyD (lowE T) D)) := Lib.hid (by rw [← hzs]; unfold readyM; rw [if_pos hM])
        have hk400 : k ≤ 400 := by
          have h5 := readyK_len (lowE T) D D.length
          have h6 : k = (readyD (lowE T) D).length := by rw [← hk, HZR.out, nums_length]
          have h7 := hB.mem.hn
          have h9 := hB.mem.ln
          have h8 : (readyD (lowE T) D).length = (readyK (lowE T) D D.length).length := rfl
          omega
        have HDN := Lib.hid (⟨hB.mem.hn, hB.mem.hm, hB.mem.ln, hB.mem.lm⟩ : D.length = n ∧ V.length = m ∧ n ≤ 400 ∧ m ≤ 400)
        have hn400 := hB.mem.ln
        clear hB hM hTo hc hzs hk
        go_wp2_with fail
        refine wp_region_facts' [44, 45, 46, 47, 48, 10] [] [] (by kernel_rfl) (by kernel_rfl) (by kernel_rfl) (by intro d hd; simp at hd ⊢; omega) (BxOr w0 (⟨P, np, pc, E, ne, ec, Fu, nf, fc, R, nr, rc⟩ : Sh) T g A n c F m d D V) (PhiOa P np pc E ne ec Fu nf fc R nr rc T g A n c F m d D V k zs)
          (fun x y h hb => h.next hb) (phiOa_below P np pc E ne ec Fu nf fc R nr rc T g A n c F m d D V k zs) (B5a.out.next (Below.refl _ _).drew) (fun p hp v w hv => by cases hp) (fun kq hkq => by simp at hkq) ?hstep ?hend
        case hstep =>
          intro kq o ho hw a w hI hA hd K hK
          obtain ⟨ρ, hρ⟩ : ∃ ρ, a.eval = ρ := ⟨_, rfl⟩
          rw [hρ] at hA hd
          match kq, ho with
          | 0, ho =>
            have hoo := Option.some.inj ho
            subst hoo
            exact fx_val hK hρ ((⟨P, np, pc, E, ne, ec, Fu, nf, fc, R, nr, rc⟩ : Sh).arg T.period T.deadline) (ld_desc rfl (hA.tmp 3 (by decide)) hI.cd) rfl
          | 1, ho =>
            have hoo := Option.some.inj ho
            subst hoo
            have f0 : (ρ (.tmp 44)) = (⟨P, np, pc, E, ne, ec, Fu, nf, fc, R, nr, rc⟩ : Sh).arg T.period T.deadline := hd ⟨0, .data⟩ (by simp) (by rfl)
            exact fx_call hK hρ 12 _ _ #[(⟨P, np, pc, E, ne, ec, Fu, nf, fc, R, nr, rc⟩ : Sh).arg T.period T.deadline] rfl (by simp only [List.map_toArray, List.map_cons, List.map_nil, hA.const, f0]) (eg_of Tryz.func12 (by kernel_rfl) rfl) ((own_d (HISD.out _ hI.bel)).mono fun e w' ⟨s', he, hd, hb⟩ => ⟨_, he, ⟨s', rfl, hd⟩, hb⟩)
          | 2, ho =>
            have hoo := Option.some.inj ho
            subst hoo
            exact fx_val hK hρ _ (by have h := hA.tmp 7 (by decide); have h0 := hI.m0; have h1 := hI.m1; simp [execOp, h, h0, h1, go_sem]) rfl
          | 3, ho =>
            have hoo := Option.some.inj ho
            subst hoo
            have f2 : (ρ (.tmp 46)) = .agg #[.slice A n c, .slice F m d] := hd ⟨2, .data⟩ (by simp) (by rfl)
            exact fx_call hK hρ 18 _ _ #[.agg #[.slice A n c, .slice F m d]] rfl (by simp only [List.map_toArray, List.map_cons, List.map_nil, hA.const, f2]) (eg_of Tryz.func18 (by kernel_rfl) rfl) ((ownM_any _ hI.mem.inM hI.mem.ln hI.mem.lm).mono fun e w' ⟨⟨A1, c1, F1, d1, he, hM⟩, hb⟩ => ⟨_, he, ⟨A1, c1, F1, d1, rfl, hM⟩, hb⟩)
          | 4, ho =>
            have hoo := Option.some.inj ho
            subst hoo
            have f1 : GDq T (ρ (.tmp 45)) w := hd ⟨1, .data⟩ (by simp) (by rfl)
            have f3 : GMq n m D V (ρ (.tmp 47)) w := hd ⟨3, .data⟩ (by simp) (by rfl)
            obtain ⟨s1, f1', hD⟩ := f1
            obtain ⟨A1, c1, F1, d1, f3', hM⟩ := f3
            exact fx_call hK hρ 21 _ _ #[s1.arg T.period T.deadline, .agg #[.slice A1 n c1, .slice F1 m d1]] rfl (by simp only [List.map_toArray, List.map_cons, List.map_nil, hA.const, f1', f3']) (eg_of Tryz.func21 (by kernel_rfl) rfl) ((eready_any _ hD hM).mono fun e w' hg => (by
          obtain ⟨A2, c2, he, hi, hb⟩ := hg.ints
          rw [HZ.out.1, HZ.out.2] at he
          rw [HZ.out.1] at hi
          exact ⟨_, he, ⟨A2, c2, rfl, hi⟩, hb⟩))
          | 5, ho =>
            have hoo := Option.some.inj ho
            subst hoo
            have f4 : GLq k zs (ρ (.tmp 48)) w := hd ⟨4, .data⟩ (by simp) (by rfl)
            obtain ⟨A2, c2, f4', hi⟩ := f4
            exact fx_val hK hρ (.slice A2 k c2) (by simp [execOp, f4', go_sem]) ⟨A2, c2, rfl, hi⟩
          | kq + 6, ho => simp at ho
        case hend =>
          intro vals5 w5 hI hF
          obtain ⟨A2, c2, fz, hi5⟩ : GLq k zs (vals5 10) w5 := hF 5 (by decide)
          simp only [fillA, fillL, List.contains_cons, List.contains_nil, Nat.reduceBEq, Bool.or_false, Bool.false_or, Bool.or_true, Bool.true_or, cond_true, cond_false, Nat.zero_add, Nat.reduceAdd]
          rw [fz]
          have B5 := Lib.hid (And.intro hI hi5)
          clear hF hI fz hi5
          by_cases hk0 : k = 0
          · have hALL : ∀ j, j < D.length → D.getD j false = true := (ready_all HMO.out.1).mp (by
              have h1 := HZ.out.2
              rw [HZR.out, nums_length, hk0] at h1
              exact List.eq_nil_of_length_eq_zero h1)
            have HALL := Lib.hid hALL
            have HVR : Hid (V = runV T inp) := Lib.hid (fixed_same HL.out (HMO.out.2.1.fixed HMO.out.1 hALL) (run_fixed HL.out inp) fun _ _ _ => rfl)
            subst hk0
            clear hALL B5a
            go_wp2
            go_loopw [14] (fun i wr => ∃ j : Nat, j ≤ n ∧ i = .int .i64 j ∧ w5 = wr) (fun i _ => n - (intOf i).toNat)
            case atStart => exact ⟨0, Nat.zero_le _, rfl, rfl⟩
            case round =>
              obtain ⟨j, hj, rfl, rfl⟩ := hrel
              have m0 := B5.out.1.m0
              by_cases hlt2 : j < n
              · obtain ⟨bd, od, z, rfl, hbd, hzd, hcd⟩ := B5.out.1.mem.bools.at2 (k := j) (by rw [HDN.out.1]; exact hlt2)
                obtain rfl : z = true := by
                  have := HALL.out j (by rw [HDN.out.1]; exact hlt2)
                  rw [List.getD_eq_getElem?_getD, hzd] at this
                  exact this
                clear hzd hbd
                go_wp2
                go_roundw
                case rel => exact ⟨j + 1, by omega, by go_num, trivial⟩
                case measure => simp [intOf]; omega
              · obtain rfl : n = j := by omega
                have B6 := Lib.hid B5.out.1
                clear B5
                obtain ⟨t0, t1, t2, t3, t4, t5⟩ := B6.out.cd
                simp only at t2 t3 t4 t5
                go_wp2_with fail
                refine (own_d (HISD.out _ B6.out.bel)).mono ?_
                rintro e w7 ⟨s7, rfl, hs7, b7⟩
                have B7 := Lib.hid (B6.out.next b7)
                obtain ⟨A8, c8, w8, hr8, ho8, hb8⟩ := HLI.out w7 (HINP.out _ B7.out.bel)
                have HS8 := Lib.hid (hs7.below hb8)
                have B8 := Lib.hid (B7.out.next hb8)
                have HR8 := Lib.hid hr8
                have HO8 := Lib.hid ho8
                clear hs7 b7 hr8 ho8 hb8 t0 t1 t2 t3 t4 t5 m0
                go_wp2_with (at_builtin; refine wpList_append_run rfl _ _ 30 _ _ rfl rfl rfl HR8.out ?_)
                refine (run_any w8 HS8.out (OwnI.ints HO8.out) HNI.out.1 HNI.out.2).mono ?_
                rintro e w9 ⟨⟨A9, k9, c9, rfl, hk9, hi9⟩, b9⟩
                rw [lowX_zero.mpr HL.out]
                have hkm : k9 = m := by rw [← hk9, ← HVR.out]; exact HDN.out.2.1
                subst hkm
                have B9 := Lib.hid (B8.out.next b9)
                have hi9' : Ints w9 w9.heap.size A9 V := by rw [HVR.out]; exact hi9
                have L9 := Lib.hid hi9'
                have m1 := B9.out.m1
                have hm400 := HDN.out.2.2.2
                clear hk9 hi9 hi9' b9 B6 B7 B8
                go_wp2_with fail
                refine (same_list (zs := V) HDN.out.2.1 (by omega) B9.out.mem.ints L9.out).mono ?_
                rintro e wA ⟨rfl, bA⟩
                have BA := Lib.hid (B9.out.next bA)
                clear bA
                go_wp2_with fail
                go_ret
                exact ⟨rfl, BA.out.bel⟩
          · have hkp : 0 < k := by omega
            have hk1 : ((k : Int) == 0) = false := by simpa using hk0
            have hk2 : (k == 0) = false := by simpa using hk0
            obtain ⟨bk, off, y0, e2, _, _, _⟩ := B5.out.2.at_ (k := 0) (by rw [HZ.out.2]; exact hkp)
            subst e2
            by_cases hkn : kk < npk
            · obtain ⟨bp, op, z, e3, _, hz, dz⟩ := (HPK.out _ B5.out.1.bel).ints.at_ (k := kk) (by rw [HPN.out]; exact hkn)
              subst e3
              by_cases hz0 : 0 ≤ z
              · have hz1 : decide (0 ≤ z) = true := decide_eq_true hz0
                obtain ⟨q, hrem, hqk⟩ := rem_place hz0 hkp
                obtain ⟨qz, hqz⟩ : ∃ z : Int, z = (q : Int) := ⟨_, rfl⟩
                rw [← hqz] at hrem
                clear hz
                clear B5a

                obtain ⟨y, hyq⟩ : ∃ y, zs[q]? = some y := ⟨_, List.getElem?_eq_getElem (by rw [HZ.out.2]; exact hqk)⟩
                have HQ := Lib.hid (⟨hqk, hyq, hqz⟩ : q < k ∧ zs[q]? = some y ∧ _ = (q : Int))
                obtain ⟨fe, hfe⟩ : ∃ z, finE T D V y = z := ⟨_, rfl⟩
                obtain ⟨D', hD'⟩ : ∃ z, finD T D V y = z := ⟨_, rfl⟩
                obtain ⟨V', hV'⟩ : ∃ z, finV T inp D V y = z := ⟨_, rfl⟩
                have HFE := Lib.hid (And.intro hfe (And.intro hD' hV'))
                obtain ⟨HFE0, HNX⟩ : Hid (fe = 0) ∧ Hid (MemOk T D' V' ∧ ToldM T inp D' V' ∧ kk + 1 ≤ cntD D') := by
                  have h1 := List.mem_of_getElem? hyq
                  rw [HZR.out] at h1
                  obtain ⟨mN, hmN, rfl⟩ := List.mem_map.mp h1
                  have h0 : finE T D V (Int.ofNat mN) = 0 := finE_zero.mpr ⟨HMO.out.1, mN, rfl, hmN⟩
                  have e1 : D' = D.set mN true := by rw [← hD']; unfold finD; rw [if_pos h0]; rfl
                  have e2 : V' = settleV T inp V mN := by rw [← hV']; unfold finV; rw [if_pos h0]; rfl
                  obtain ⟨k1, k2, k3⟩ := mem_readyD.mp hmN
                  refine ⟨Lib.hid (by rw [← hfe]; exact h0), Lib.hid ⟨?_, ?_, ?_⟩⟩
                  · rw [e1, e2]; exact HMO.out.1.step hmN (settleV_len T inp V mN)
                  · rw [e1, e2]; exact HMO.out.2.1.step HMO.out.1 hmN
                  · rw [e1, cntD_set D mN k1 k2]; exact Nat.succ_le_succ HMO.out.2.2
                clear hyq hfe hD' hV' hqk hqz
                go_wp2_with fail
                refine wp_region_stored 16 [71, 72, 73, 74, 75, 76, 77, 78, 79, 80, 81, 82, 70, 83, 84, 12, 1000, 13] [14, 17] (by kernel_rfl) (by kernel_rfl) (by intro d hd; simp at hd ⊢; omega) (fun x => (BxOr w0 (⟨P, np, pc, E, ne, ec, Fu, nf, fc, R, nr, rc⟩ : Sh) T g A n c F m d D V x ∧ Ints x x.heap.size (some ⟨bk, off, none⟩) zs) ∧ Below w5.heap.size w5 x) (PhiOb P np pc E ne ec Fu nf fc R nr rc T g A n c F m d D V w5.heap.size Ai ni ci inp bk off k c2 q qz y fe D' V') (ThM w5 12 D' V')
                  (fun x y h hb => ⟨⟨h.1.1.next hb, h.1.2.step hb⟩, h.2.trans (hb.mono h.2.size)⟩) (phiOb_below P np pc E ne ec Fu nf fc R nr rc T g A n c F m d D V w5.heap.size Ai ni ci inp bk off k c2 q qz y fe D' V') (⟨⟨B5.out.1.next (Below.refl _ _).drew, B5.out.2.step (Below.refl _ _).drew⟩, (Below.refl _ _).drew⟩) ?hstep ?hpure ?hstore ?htheta ?hend
                case hstep =>
                  intro kq o hkp hkS ho a w hI hA hd K hK
                  obtain ⟨ρ, hρ⟩ : ∃ ρ, a.eval = ρ := ⟨_, rfl⟩
                  rw [hρ] at hA hd
                  match kq, hkp, hkS, ho with
                  | 0, _, _, ho =>
                    have hoo := Option.some.inj ho
                    subst hoo
                    exact fx_val hK hρ ((⟨P, np, pc, E, ne, ec, Fu, nf, fc, R, nr, rc⟩ : Sh).arg T.period T.deadline) (ld_desc rfl (hA.tmp 3 (by decide)) hI.1.1.cd) rfl
                  | 1, _, _, ho =>
                    have hoo := Option.some.inj ho
                    subst hoo
                    have f0 : (ρ (.tmp 71)) = (⟨P, np, pc, E, ne, ec, Fu, nf, fc, R, nr, rc⟩ : Sh).arg T.period T.deadline := hd ⟨0, .data⟩ (by simp) (by rfl)
                    exact fx_call hK hρ 12 _ _ #[(⟨P, np, pc, E, ne, ec, Fu, nf, fc, R, nr, rc⟩ : Sh).arg T.period T.deadline] rfl (by simp only [List.map_toArray, List.map_cons, List.map_nil, hA.const, f0]) (eg_of Tryz.func12 (by kernel_rfl) rfl) ((own_d (HISD.out _ hI.1.1.bel)).mono fun e w' ⟨s', he, hd, hb⟩ => ⟨_, he, ⟨s', rfl, hd⟩, hb⟩)
                  | 2, _, _, ho =>
                    have hoo := Option.some.inj ho
                    subst hoo
                    exact fx_make hK hρ (.slice (some ⟨w.heap.size, 0, none⟩) 0 0) (w.alloc (.cells #[] 3)) (by simp [execOp, go_sem]) (newRow_here _ w _ hI.2.size) (below_alloc _)
                  | 3, _, _, ho =>
                    have hoo := Option.some.inj ho
                    subst hoo
                    exact fx_val hK hρ (.slice Ai ni ci) (by have h := hA.tmp 1 (by decide); simp [execOp, h, go_sem]) rfl
                  | 4, _, _, ho =>
                    have hoo := Option.some.inj ho
                    subst hoo
                    have f2 : NewRow 3 w w5.heap.size (ρ (.tmp 73)) := hd ⟨2, .data⟩ (by simp) (by rfl)
                    have f3 : (ρ (.tmp 74)) = .slice Ai ni ci := hd ⟨3, .data⟩ (by simp) (by rfl)
                    obtain ⟨A8, c8, w2', hr, hg8, hbb⟩ := app_list9 f2 (HINP.out _ hI.1.1.bel) HNI.out.2 hI.2.size
                    exact fx_make hK hρ _ w2' (by simp [execOp, resolve, invoke, builtin, f3, hr, Result.andThen]) hg8 hbb
                  | 5, _, _, ho =>
                    have hoo := Option.some.inj ho
                    subst hoo
                    exact fx_val hK hρ _ (by have h := hA.tmp 7 (by decide); have h0 := hI.1.1.m0; have h1 := hI.1.1.m1; simp [execOp, h, h0, h1, go_sem]) rfl
                  | 6, _, _, ho =>
                    have hoo := Option.some.inj ho
                    subst hoo
                    have f5 : (ρ (.tmp 76)) = .agg #[.slice A n c, .slice F m d] := hd ⟨5, .data⟩ (by simp) (by rfl)
                    exact fx_call hK hρ 18 _ _ #[.agg #[.slice A n c, .slice F m d]] rfl (by simp only [List.map_toArray, List.map_cons, List.map_nil, hA.const, f5]) (eg_of Tryz.func18 (by kernel_rfl) rfl) ((ownM_any _ hI.1.1.mem.inM hI.1.1.mem.ln hI.1.1.mem.lm).mono fun e w' ⟨⟨A1, c1, F1, d1, he, hM⟩, hb⟩ => ⟨_, he, ⟨A1, c1, F1, d1, rfl, hM⟩, hb⟩)
                  | 7, _, _, ho =>
                    have hoo := Option.some.inj ho
                    subst hoo
                    exact fx_val hK hρ (.slice (some ⟨bk, off, none⟩) k c2) (by have h := hA.tmp 10 (by decide); simp [execOp, h, go_sem]) rfl
                  | 8, _, _, ho =>
                    have hoo := Option.some.inj ho
                    subst hoo
                    exact fx_val hK hρ (.int .i64 qz) (by have h := hA.tmp 11 (by decide); simp [execOp, h, go_sem]) rfl
                  | 9, _, _, ho =>
                    have hoo := Option.some.inj ho
                    subst hoo
                    have f7 : (ρ (.tmp 78)) = .slice (some ⟨bk, off, none⟩) k c2 := hd ⟨7, .data⟩ (by simp) (by rfl)
                    have f8 : (ρ (.tmp 79)) = .int .i64 qz := hd ⟨8, .data⟩ (by simp) (by rfl)
                    exact fx_val hK hρ _ (idx_eq rfl f7 (by rw [f8, HQ.out.2.2]) HQ.out.1) rfl
                  | 10, _, _, ho =>
                    have hoo := Option.some.inj ho
                    subst hoo
                    have f9 : (ρ (.tmp 80)) = .pointer (some ⟨bk, off + q, none⟩) := hd ⟨9, .data⟩ (by simp) (by rfl)
                    exact fx_val hK hρ _ (by have h1 := ints_at9 hI.1.2 HQ.out.2.1; simp [execOp, f9, h1, go_sem]) rfl
                  | 11, _, _, ho =>
                    have hoo := Option.some.inj ho
                    subst hoo
                    have f1 : GDq T (ρ (.tmp 72)) w := hd ⟨1, .data⟩ (by simp) (by rfl)
                    have f4 : GLq ni inp (ρ (.tmp 75)) w := hd ⟨4, .data⟩ (by simp) (by rfl)
                    have f6 : GMq n m D V (ρ (.tmp 77)) w := hd ⟨6, .data⟩ (by simp) (by rfl)
                    have f10 : (ρ (.tmp 81)) = .int .i64 y := hd ⟨10, .data⟩ (by simp) (by rfl)
                    obtain ⟨s1, f1', hD⟩ := f1
                    obtain ⟨A1, c1, F1, d1, f6', hM⟩ := f6
                    obtain ⟨A8, c8, f4', hi8⟩ := f4
                    exact fx_call hK hρ 17 _ _ #[s1.arg T.period T.deadline, .slice A8 ni c8, .agg #[.slice A1 n c1, .slice F1 m d1], .int .i64 y] rfl (by simp only [List.map_toArray, List.map_cons, List.map_nil, hA.const, f1', f4', f6', f10]) (eg_of Tryz.func17 (by kernel_rfl) rfl) ((finish_any (inp := inp) _ y hD hM hi8 HNI.out.1 HNI.out.2).mono fun e w' hg => (by
                      obtain ⟨⟨A4, n4, c4, F4, m4, d4, he, hM4⟩, hb⟩ := hg
                      rw [HFE.out.1] at he
                      rw [HFE.out.2.1, HFE.out.2.2] at hM4
                      exact ⟨_, he, ⟨A4, n4, c4, F4, m4, d4, rfl, hM4⟩, hb⟩))
                  | 12, _, _, ho =>
                    have hoo := Option.some.inj ho
                    subst hoo
                    have f11 : GFq D' V' fe (ρ (.tmp 82)) w := hd ⟨11, .data⟩ (by simp) (by rfl)
                    obtain ⟨A4, n4, c4, F4, m4, d4, f11', hM4⟩ := f11
                    exact fx_val hK hρ _ (by simp [execOp, f11', go_sem]) ⟨A4, n4, c4, F4, m4, d4, rfl, hM4⟩
                  | 13, _, _, ho =>
                    have hoo := Option.some.inj ho
                    subst hoo
                    have f12 : GFq D' V' fe (ρ (.tmp 70)) w := hd ⟨12, .data⟩ (by simp) (by rfl)
                    obtain ⟨A4, n4, c4, F4, m4, d4, f12', hM4⟩ := f12
                    exact fx_val hK hρ (.agg #[.slice A4 n4 c4, .slice F4 m4 d4]) (by simp [execOp, f12', go_sem]) ⟨A4, n4, c4, F4, m4, d4, rfl, hM4⟩
                  | 14, _, hkS, _ => exact absurd (by decide) hkS
                  | 15, _, _, ho =>
                    have hoo := Option.some.inj ho
                    subst hoo
                    exact fx_make hK hρ (.pointer (some ⟨w.heap.size, 0, none⟩)) (w.alloc (.cells #[.slice none 0 0, .slice none 0 0] 43)) (by simp [execOp, go_sem]) ⟨_, rfl, hI.2.size, heap_alloc_new w _⟩ (below_alloc _)
                  | 16, hkp, _, _ => exact absurd rfl hkp
                  | 17, _, hkS, _ => exact absurd (by decide) hkS
                  | kq + 18, _, _, ho => simp at ho
                case hpure =>
                  intro kq o hkS ho ρ w hA hd
                  simp only [List.mem_cons, List.not_mem_nil, or_false] at hkS
                  rcases hkS with rfl | rfl
                  · have hoo := Option.some.inj ho
                    subst hoo
                    obtain ⟨w', A4, n4, c4, F4, m4, d4, f6, _⟩ := hd ⟨12, .data⟩ (by simp) (by rfl) (by decide)
                    have f6' : ρ (.tmp 70) = .tuple #[.agg #[.slice A4 n4 c4, .slice F4 m4 d4], .int .i64 fe] := f6
                    exact ⟨.int .i64 fe, by simp [execOp, f6', go_sem], fun _ => rfl⟩
                  · have hoo := Option.some.inj ho
                    subst hoo
                    obtain ⟨w', f8⟩ := hd ⟨14, .data⟩ (by simp) (by rfl) (by decide)
                    have f8' : ρ (.tmp 84) = .int .i64 fe := f8
                    exact ⟨.int .i64 fe, by simp [execOp, f8', go_sem], fun _ => rfl⟩
                case hstore =>
                  intro o ho a w hI hA hF K hK
                  have hoo := Option.some.inj ho
                  subst hoo
                  exact stM (slot := 12) rfl rfl rfl (hF 15 (by decide) (by decide) (by decide)) (hF 13 (by decide) (by decide) (by decide)) hI.2 hK
                case htheta =>
                  intro f g w h hT
                  exact ThM.slot hT (h 15 (by decide) (by decide) (by decide))
                case hend =>
                  intro vals6 w6 hT hF
                  obtain ⟨gx, A3, n3, c3, F3, m3, d3, f12, hb6, hg6, hx6, hm6⟩ := hT
                  have f13 : vals6 13 = .int .i64 fe := (hF 17 (by decide) (by decide)).choose_spec
                  simp only [fillA, fillL, List.contains_cons, List.contains_nil, Nat.reduceBEq, Bool.or_false, Bool.false_or, Bool.or_true, Bool.true_or, cond_true, cond_false, Nat.zero_add, Nat.reduceAdd]
                  rw [f12, f13]
                  have B6 : Hid (BxOr w0 (⟨P, np, pc, E, ne, ec, Fu, nf, fc, R, nr, rc⟩ : Sh) T g A n c F m d D V w6) := Lib.hid (B5.out.1.next hb6)
                  have HX := Lib.hid hm6
                  have x0 : w6.cell? ⟨gx, 0, none⟩ = some (.slice A3 n3 c3) := by rw [cell_of_row _ _ _ _ _ _ hx6]; rfl
                  have x1 : w6.cell? ⟨gx, 1, none⟩ = some (.slice F3 m3 d3) := by rw [cell_of_row _ _ _ _ _ _ hx6]; rfl
                  have m0 := B6.out.m0
                  have m1 := B6.out.m1
                  have z0 := frozen_of_row w6 g 0 _ _ B6.out.row
                  have z1 := frozen_of_row w6 g 1 _ _ B6.out.row
                  have hfe0 := HFE0.out
                  subst hfe0
                  clear hF hb6 hg6 hx6 hm6 f12 f13 B5
                  go_wp2
                  go_roundw
                  case rel => exact ⟨kk + 1, by omega, by go_num, Lib.hid ⟨A3, n3, c3, F3, m3, d3, D', V', B6.out.store HX.out, HNX.out.1, HNX.out.2.1, HNX.out.2.2⟩⟩
                  case measure => simp [intOf]; omega
              · have hz1 : decide (0 ≤ z) = false := decide_eq_false hz0
                obtain ⟨q, hq⟩ : ∃ q : Nat, q = 0 := ⟨_, rfl⟩
                have hqk : q < k := by omega
                have hqz : (0 : Int) = (q : Int) := by omega
                clear hz hq
                clear B5a

                obtain ⟨y, hyq⟩ : ∃ y, zs[q]? = some y := ⟨_, List.getElem?_eq_getElem (by rw [HZ.out.2]; exact hqk)⟩
                have HQ := Lib.hid (⟨hqk, hyq, hqz⟩ : q < k ∧ zs[q]? = some y ∧ _ = (q : Int))
                obtain ⟨fe, hfe⟩ : ∃ z, finE T D V y = z := ⟨_, rfl⟩
                obtain ⟨D', hD'⟩ : ∃ z, finD T D V y = z := ⟨_, rfl⟩
                obtain ⟨V', hV'⟩ : ∃ z, finV T inp D V y = z := ⟨_, rfl⟩
                have HFE := Lib.hid (And.intro hfe (And.intro hD' hV'))
                obtain ⟨HFE0, HNX⟩ : Hid (fe = 0) ∧ Hid (MemOk T D' V' ∧ ToldM T inp D' V' ∧ kk + 1 ≤ cntD D') := by
                  have h1 := List.mem_of_getElem? hyq
                  rw [HZR.out] at h1
                  obtain ⟨mN, hmN, rfl⟩ := List.mem_map.mp h1
                  have h0 : finE T D V (Int.ofNat mN) = 0 := finE_zero.mpr ⟨HMO.out.1, mN, rfl, hmN⟩
                  have e1 : D' = D.set mN true := by rw [← hD']; unfold finD; rw [if_pos h0]; rfl
                  have e2 : V' = settleV T inp V mN := by rw [← hV']; unfold finV; rw [if_pos h0]; rfl
                  obtain ⟨k1, k2, k3⟩ := mem_readyD.mp hmN
                  refine ⟨Lib.hid (by rw [← hfe]; exact h0), Lib.hid ⟨?_, ?_, ?_⟩⟩
                  · rw [e1, e2]; exact HMO.out.1.step hmN (settleV_len T inp V mN)
                  · rw [e1, e2]; exact HMO.out.2.1.step HMO.out.1 hmN
                  · rw [e1, cntD_set D mN k1 k2]; exact Nat.succ_le_succ HMO.out.2.2
                clear hyq hfe hD' hV' hqk hqz
                go_wp2_with fail
                refine wp_region_stored 16 [71, 72, 73, 74, 75, 76, 77, 78, 79, 80, 81, 82, 70, 83, 84, 12, 1000, 13] [14, 17] (by kernel_rfl) (by kernel_rfl) (by intro d hd; simp at hd ⊢; omega) (fun x => (BxOr w0 (⟨P, np, pc, E, ne, ec, Fu, nf, fc, R, nr, rc⟩ : Sh) T g A n c F m d D V x ∧ Ints x x.heap.size (some ⟨bk, off, none⟩) zs) ∧ Below w5.heap.size w5 x) (PhiOb P np pc E ne ec Fu nf fc R nr rc T g A n c F m d D V w5.heap.size Ai ni ci inp bk off k c2 q 0 y fe D' V') (ThM w5 12 D' V')
                  (fun x y h hb => ⟨⟨h.1.1.next hb, h.1.2.step hb⟩, h.2.trans (hb.mono h.2.size)⟩) (phiOb_below P np pc E ne ec Fu nf fc R nr rc T g A n c F m d D V w5.heap.size Ai ni ci inp bk off k c2 q 0 y fe D' V') (⟨⟨B5.out.1.next (Below.refl _ _).drew, B5.out.2.step (Below.refl _ _).drew⟩, (Below.refl _ _).drew⟩) ?hstep ?hpure ?hstore ?htheta ?hend
                case hstep =>
                  intro kq o hkp hkS ho a w hI hA hd K hK
                  obtain ⟨ρ, hρ⟩ : ∃ ρ, a.eval = ρ := ⟨_, rfl⟩
                  rw [hρ] at hA hd
                  match kq, hkp, hkS, ho with
                  | 0, _, _, ho =>
                    have hoo := Option.some.inj ho
                    subst hoo
                    exact fx_val hK hρ ((⟨P, np, pc, E, ne, ec, Fu, nf, fc, R, nr, rc⟩ : Sh).arg T.period T.deadline) (ld_desc rfl (hA.tmp 3 (by decide)) hI.1.1.cd) rfl
                  | 1, _, _, ho =>
                    have hoo := Option.some.inj ho
                    subst hoo
                    have f0 : (ρ (.tmp 71)) = (⟨P, np, pc, E, ne, ec, Fu, nf, fc, R, nr, rc⟩ : Sh).arg T.period T.deadline := hd ⟨0, .data⟩ (by simp) (by rfl)
                    exact fx_call hK hρ 12 _ _ #[(⟨P, np, pc, E, ne, ec, Fu, nf, fc, R, nr, rc⟩ : Sh).arg T.period T.deadline] rfl (by simp only [List.map_toArray, List.map_cons, List.map_nil, hA.const, f0]) (eg_of Tryz.func12 (by kernel_rfl) rfl) ((own_d (HISD.out _ hI.1.1.bel)).mono fun e w' ⟨s', he, hd, hb⟩ => ⟨_, he, ⟨s', rfl, hd⟩, hb⟩)
                  | 2, _, _, ho =>
                    have hoo := Option.some.inj ho
                    subst hoo
                    exact fx_make hK hρ (.slice (some ⟨w.heap.size, 0, none⟩) 0 0) (w.alloc (.cells #[] 3)) (by simp [execOp, go_sem]) (newRow_here _ w _ hI.2.size) (below_alloc _)
                  | 3, _, _, ho =>
                    have hoo := Option.some.inj ho
                    subst hoo
                    exact fx_val hK hρ (.slice Ai ni ci) (by have h := hA.tmp 1 (by decide); simp [execOp, h, go_sem]) rfl
                  | 4, _, _, ho =>
                    have hoo := Option.some.inj ho
                    subst hoo
                    have f2 : NewRow 3 w w5.heap.size (ρ (.tmp 73)) := hd ⟨2, .data⟩ (by simp) (by rfl)
                    have f3 : (ρ (.tmp 74)) = .slice Ai ni ci := hd ⟨3, .data⟩ (by simp) (by rfl)
                    obtain ⟨A8, c8, w2', hr, hg8, hbb⟩ := app_list9 f2 (HINP.out _ hI.1.1.bel) HNI.out.2 hI.2.size
                    exact fx_make hK hρ _ w2' (by simp [execOp, resolve, invoke, builtin, f3, hr, Result.andThen]) hg8 hbb
                  | 5, _, _, ho =>
                    have hoo := Option.some.inj ho
                    subst hoo
                    exact fx_val hK hρ _ (by have h := hA.tmp 7 (by decide); have h0 := hI.1.1.m0; have h1 := hI.1.1.m1; simp [execOp, h, h0, h1, go_sem]) rfl
                  | 6, _, _, ho =>
                    have hoo := Option.some.inj ho
                    subst hoo
                    have f5 : (ρ (.tmp 76)) = .agg #[.slice A n c, .slice F m d] := hd ⟨5, .data⟩ (by simp) (by rfl)
                    exact fx_call hK hρ 18 _ _ #[.agg #[.slice A n c, .slice F m d]] rfl (by simp only [List.map_toArray, List.map_cons, List.map_nil, hA.const, f5]) (eg_of Tryz.func18 (by kernel_rfl) rfl) ((ownM_any _ hI.1.1.mem.inM hI.1.1.mem.ln hI.1.1.mem.lm).mono fun e w' ⟨⟨A1, c1, F1, d1, he, hM⟩, hb⟩ => ⟨_, he, ⟨A1, c1, F1, d1, rfl, hM⟩, hb⟩)
                  | 7, _, _, ho =>
                    have hoo := Option.some.inj ho
                    subst hoo
                    exact fx_val hK hρ (.slice (some ⟨bk, off, none⟩) k c2) (by have h := hA.tmp 10 (by decide); simp [execOp, h, go_sem]) rfl
                  | 8, _, _, ho =>
                    have hoo := Option.some.inj ho
                    subst hoo
                    exact fx_val hK hρ (.int .i64 0) (by have h := hA.tmp 11 (by decide); simp [execOp, h, go_sem]) rfl
                  | 9, _, _, ho =>
                    have hoo := Option.some.inj ho
                    subst hoo
                    have f7 : (ρ (.tmp 78)) = .slice (some ⟨bk, off, none⟩) k c2 := hd ⟨7, .data⟩ (by simp) (by rfl)
                    have f8 : (ρ (.tmp 79)) = .int .i64 0 := hd ⟨8, .data⟩ (by simp) (by rfl)
                    exact fx_val hK hρ _ (idx_eq rfl f7 (by rw [f8, HQ.out.2.2]) HQ.out.1) rfl
                  | 10, _, _, ho =>
                    have hoo := Option.some.inj ho
                    subst hoo
                    have f9 : (ρ (.tmp 80)) = .pointer (some ⟨bk, off + q, none⟩) := hd ⟨9, .data⟩ (by simp) (by rfl)
                    exact fx_val hK hρ _ (by have h1 := ints_at9 hI.1.2 HQ.out.2.1; simp [execOp, f9, h1, go_sem]) rfl
                  | 11, _, _, ho =>
                    have hoo := Option.some.inj ho
                    subst hoo
                    have f1 : GDq T (ρ (.tmp 72)) w := hd ⟨1, .data⟩ (by simp) (by rfl)
                    have f4 : GLq ni inp (ρ (.tmp 75)) w := hd ⟨4, .data⟩ (by simp) (by rfl)
                    have f6 : GMq n m D V (ρ (.tmp 77)) w := hd ⟨6, .data⟩ (by simp) (by rfl)
                    have f10 : (ρ (.tmp 81)) = .int .i64 y := hd ⟨10, .data⟩ (by simp) (by rfl)
                    obtain ⟨s1, f1', hD⟩ := f1
                    obtain ⟨A1, c1, F1, d1, f6', hM⟩ := f6
                    obtain ⟨A8, c8, f4', hi8⟩ := f4
                    exact fx_call hK hρ 17 _ _ #[s1.arg T.period T.deadline, .slice A8 ni c8, .agg #[.slice A1 n c1, .slice F1 m d1], .int .i64 y] rfl (by simp only [List.map_toArray, List.map_cons, List.map_nil, hA.const, f1', f4', f6', f10]) (eg_of Tryz.func17 (by kernel_rfl) rfl) ((finish_any (inp := inp) _ y hD hM hi8 HNI.out.1 HNI.out.2).mono fun e w' hg => (by
                      obtain ⟨⟨A4, n4, c4, F4, m4, d4, he, hM4⟩, hb⟩ := hg
                      rw [HFE.out.1] at he
                      rw [HFE.out.2.1, HFE.out.2.2] at hM4
                      exact ⟨_, he, ⟨A4, n4, c4, F4, m4, d4, rfl, hM4⟩, hb⟩))
                  | 12, _, _, ho =>
                    have hoo := Option.some.inj ho
                    subst hoo
                    have f11 : GFq D' V' fe (ρ (.tmp 82)) w := hd ⟨11, .data⟩ (by simp) (by rfl)
                    obtain ⟨A4, n4, c4, F4, m4, d4, f11', hM4⟩ := f11
                    exact fx_val hK hρ _ (by simp [execOp, f11', go_sem]) ⟨A4, n4, c4, F4, m4, d4, rfl, hM4⟩
                  | 13, _, _, ho =>
                    have hoo := Option.some.inj ho
                    subst hoo
                    have f12 : GFq D' V' fe (ρ (.tmp 70)) w := hd ⟨12, .data⟩ (by simp) (by rfl)
                    obtain ⟨A4, n4, c4, F4, m4, d4, f12', hM4⟩ := f12
                    exact fx_val hK hρ (.agg #[.slice A4 n4 c4, .slice F4 m4 d4]) (by simp [execOp, f12', go_sem]) ⟨A4, n4, c4, F4, m4, d4, rfl, hM4⟩
                  | 14, _, hkS, _ => exact absurd (by decide) hkS
                  | 15, _, _, ho =>
                    have hoo := Option.some.inj ho
                    subst hoo
                    exact fx_make hK hρ (.pointer (some ⟨w.heap.size, 0, none⟩)) (w.alloc (.cells #[.slice none 0 0, .slice none 0 0] 43)) (by simp [execOp, go_sem]) ⟨_, rfl, hI.2.size, heap_alloc_new w _⟩ (below_alloc _)
                  | 16, hkp, _, _ => exact absurd rfl hkp
                  | 17, _, hkS, _ => exact absurd (by decide) hkS
                  | kq + 18, _, _, ho => simp at ho
                case hpure =>
                  intro kq o hkS ho ρ w hA hd
                  simp only [List.mem_cons, List.not_mem_nil, or_false] at hkS
                  rcases hkS with rfl | rfl
                  · have hoo := Option.some.inj ho
                    subst hoo
                    obtain ⟨w', A4, n4, c4, F4, m4, d4, f6, _⟩ := hd ⟨12, .data⟩ (by simp) (by rfl) (by decide)
                    have f6' : ρ (.tmp 70) = .tuple #[.agg #[.slice A4 n4 c4, .slice F4 m4 d4], .int .i64 fe] := f6
                    exact ⟨.int .i64 fe, by simp [execOp, f6', go_sem], fun _ => rfl⟩
                  · have hoo := Option.some.inj ho
                    subst hoo
                    obtain ⟨w', f8⟩ := hd ⟨14, .data⟩ (by simp) (by rfl) (by decide)
                    have f8' : ρ (.tmp 84) = .int .i64 fe := f8
                    exact ⟨.int .i64 fe, by simp [execOp, f8', go_sem], fun _ => rfl⟩
                case hstore =>
                  intro o ho a w hI hA hF K hK
                  have hoo := Option.some.inj ho
                  subst hoo
                  exact stM (slot := 12) rfl rfl rfl (hF 15 (by decide) (by decide) (by decide)) (hF 13 (by decide) (by decide) (by decide)) hI.2 hK
                case htheta =>
                  intro f g w h hT
                  exact ThM.slot hT (h 15 (by decide) (by decide) (by decide))
                case hend =>
                  intro vals6 w6 hT hF
                  obtain ⟨gx, A3, n3, c3, F3, m3, d3, f12, hb6, hg6, hx6, hm6⟩ := hT
                  have f13 : vals6 13 = .int .i64 fe := (hF 17 (by decide) (by decide)).choose_spec
                  simp only [fillA, fillL, List.contains_cons, List.contains_nil, Nat.reduceBEq, Bool.or_false, Bool.false_or, Bool.or_true, Bool.true_or, cond_true, cond_false, Nat.zero_add, Nat.reduceAdd]
                  rw [f12, f13]
                  have B6 : Hid (BxOr w0 (⟨P, np, pc, E, ne, ec, Fu, nf, fc, R, nr, rc⟩ : Sh) T g A n c F m d D V w6) := Lib.hid (B5.out.1.next hb6)
                  have HX := Lib.hid hm6
                  have x0 : w6.cell? ⟨gx, 0, none⟩ = some (.slice A3 n3 c3) := by rw [cell_of_row _ _ _ _ _ _ hx6]; rfl
                  have x1 : w6.cell? ⟨gx, 1, none⟩ = some (.slice F3 m3 d3) := by rw [cell_of_row _ _ _ _ _ _ hx6]; rfl
                  have m0 := B6.out.m0
                  have m1 := B6.out.m1
                  have z0 := frozen_of_row w6 g 0 _ _ B6.out.row
                  have z1 := frozen_of_row w6 g 1 _ _ B6.out.row
                  have hfe0 := HFE0.out
                  subst hfe0
                  clear hF hb6 hg6 hx6 hm6 f12 f13 B5
                  go_wp2
                  go_roundw
                  case rel => exact ⟨kk + 1, by omega, by go_num, Lib.hid ⟨A3, n3, c3, F3, m3, d3, D', V', B6.out.store HX.out, HNX.out.1, HNX.out.2.1, HNX.out.2.2⟩⟩
                  case measure => simp [intOf]; omega
            · have hd1 : decide ((kk : Int) < (npk : Int)) = false := decide_eq_false (by omega)
              have hd2 : decide (kk < npk) = false := decide_eq_false hkn
              obtain ⟨q, hq⟩ : ∃ q : Nat, q = 0 := ⟨_, rfl⟩
              have hqk : q < k := by omega
              have hqz : (0 : Int) = (q : Int) := by omega
              clear hq
              clear B5a

              obtain ⟨y, hyq⟩ : ∃ y, zs[q]? = some y := ⟨_, List.getElem?_eq_getElem (by rw [HZ.out.2]; exact hqk)⟩
              have HQ := Lib.hid (⟨hqk, hyq, hqz⟩ : q < k ∧ zs[q]? = some y ∧ _ = (q : Int))
              obtain ⟨fe, hfe⟩ : ∃ z, finE T D V y = z := ⟨_, rfl⟩
              obtain ⟨D', hD'⟩ : ∃ z, finD T D V y = z := ⟨_, rfl⟩
              obtain ⟨V', hV'⟩ : ∃ z, finV T inp D V y = z := ⟨_, rfl⟩
              have HFE := Lib.hid (And.intro hfe (And.intro hD' hV'))
              obtain ⟨HFE0, HNX⟩ : Hid (fe = 0) ∧ Hid (MemOk T D' V' ∧ ToldM T inp D' V' ∧ kk + 1 ≤ cntD D') := by
                have h1 := List.mem_of_getElem? hyq
                rw [HZR.out] at h1
                obtain ⟨mN, hmN, rfl⟩ := List.mem_map.mp h1
                have h0 : finE T D V (Int.ofNat mN) = 0 := finE_zero.mpr ⟨HMO.out.1, mN, rfl, hmN⟩
                have e1 : D' = D.set mN true := by rw [← hD']; unfold finD; rw [if_pos h0]; rfl
                have e2 : V' = settleV T inp V mN := by rw [← hV']; unfold finV; rw [if_pos h0]; rfl
                obtain ⟨k1, k2, k3⟩ := mem_readyD.mp hmN
                refine ⟨Lib.hid (by rw [← hfe]; exact h0), Lib.hid ⟨?_, ?_, ?_⟩⟩
                · rw [e1, e2]; exact HMO.out.1.step hmN (settleV_len T inp V mN)
                · rw [e1, e2]; exact HMO.out.2.1.step HMO.out.1 hmN
                · rw [e1, cntD_set D mN k1 k2]; exact Nat.succ_le_succ HMO.out.2.2
              clear hyq hfe hD' hV' hqk hqz
              go_wp2_with fail
              refine wp_region_stored 16 [71, 72, 73, 74, 75, 76, 77, 78, 79, 80, 81, 82, 70, 83, 84, 12, 1000, 13] [14, 17] (by kernel_rfl) (by kernel_rfl) (by intro d hd; simp at hd ⊢; omega) (fun x => (BxOr w0 (⟨P, np, pc, E, ne, ec, Fu, nf, fc, R, nr, rc⟩ : Sh) T g A n c F m d D V x ∧ Ints x x.heap.size (some ⟨bk, off, none⟩) zs) ∧ Below w5.heap.size w5 x) (PhiOb P np pc E ne ec Fu nf fc R nr rc T g A n c F m d D V w5.heap.size Ai ni ci inp bk off k c2 q 0 y fe D' V') (ThM w5 12 D' V')
                (fun x y h hb => ⟨⟨h.1.1.next hb, h.1.2.step hb⟩, h.2.trans (hb.mono h.2.size)⟩) (phiOb_below P np pc E ne ec Fu nf fc R nr rc T g A n c F m d D V w5.heap.size Ai ni ci inp bk off k c2 q 0 y fe D' V') (⟨⟨B5.out.1.next (Below.refl _ _).drew, B5.out.2.step (Below.refl _ _).drew⟩, (Below.refl _ _).drew⟩) ?hstep ?hpure ?hstore ?htheta ?hend
              case hstep =>
                intro kq o hkp hkS ho a w hI hA hd K hK
                obtain ⟨ρ, hρ⟩ : ∃ ρ, a.eval = ρ := ⟨_, rfl⟩
                rw [hρ] at hA hd
                match kq, hkp, hkS, ho with
                | 0, _, _, ho =>
                  have hoo := Option.some.inj ho
                  subst hoo
                  exact fx_val hK hρ ((⟨P, np, pc, E, ne, ec, Fu, nf, fc, R, nr, rc⟩ : Sh).arg T.period T.deadline) (ld_desc rfl (hA.tmp 3 (by decide)) hI.1.1.cd) rfl
                | 1, _, _, ho =>
                  have hoo := Option.some.inj ho
                  subst hoo
                  have f0 : (ρ (.tmp 71)) = (⟨P, np, pc, E, ne, ec, Fu, nf, fc, R, nr, rc⟩ : Sh).arg T.period T.deadline := hd ⟨0, .data⟩ (by simp) (by rfl)
                  exact fx_call hK hρ 12 _ _ #[(⟨P, np, pc, E, ne, ec, Fu, nf, fc, R, nr, rc⟩ : Sh).arg T.period T.deadline] rfl (by simp only [List.map_toArray, List.map_cons, List.map_nil, hA.const, f0]) (eg_of Tryz.func12 (by kernel_rfl) rfl) ((own_d (HISD.out _ hI.1.1.bel)).mono fun e w' ⟨s', he, hd, hb⟩ => ⟨_, he, ⟨s', rfl, hd⟩, hb⟩)
                | 2, _, _, ho =>
                  have hoo := Option.some.inj ho
                  subst hoo
                  exact fx_make hK hρ (.slice (some ⟨w.heap.size, 0, none⟩) 0 0) (w.alloc (.cells #[] 3)) (by simp [execOp, go_sem]) (newRow_here _ w _ hI.2.size) (below_alloc _)
                | 3, _, _, ho =>
                  have hoo := Option.some.inj ho
                  subst hoo
                  exact fx_val hK hρ (.slice Ai ni ci) (by have h := hA.tmp 1 (by decide); simp [execOp, h, go_sem]) rfl
                | 4, _, _, ho =>
                  have hoo := Option.some.inj ho
                  subst hoo
                  have f2 : NewRow 3 w w5.heap.size (ρ (.tmp 73)) := hd ⟨2, .data⟩ (by simp) (by rfl)
                  have f3 : (ρ (.tmp 74)) = .slice Ai ni ci := hd ⟨3, .data⟩ (by simp) (by rfl)
                  obtain ⟨A8, c8, w2', hr, hg8, hbb⟩ := app_list9 f2 (HINP.out _ hI.1.1.bel) HNI.out.2 hI.2.size
                  exact fx_make hK hρ _ w2' (by simp [execOp, resolve, invoke, builtin, f3, hr, Result.andThen]) hg8 hbb
                | 5, _, _, ho =>
                  have hoo := Option.some.inj ho
                  subst hoo
                  exact fx_val hK hρ _ (by have h := hA.tmp 7 (by decide); have h0 := hI.1.1.m0; have h1 := hI.1.1.m1; simp [execOp, h, h0, h1, go_sem]) rfl
                | 6, _, _, ho =>
                  have hoo := Option.some.inj ho
                  subst hoo
                  have f5 : (ρ (.tmp 76)) = .agg #[.slice A n c, .slice F m d] := hd ⟨5, .data⟩ (by simp) (by rfl)
                  exact fx_call hK hρ 18 _ _ #[.agg #[.slice A n c, .slice F m d]] rfl (by simp only [List.map_toArray, List.map_cons, List.map_nil, hA.const, f5]) (eg_of Tryz.func18 (by kernel_rfl) rfl) ((ownM_any _ hI.1.1.mem.inM hI.1.1.mem.ln hI.1.1.mem.lm).mono fun e w' ⟨⟨A1, c1, F1, d1, he, hM⟩, hb⟩ => ⟨_, he, ⟨A1, c1, F1, d1, rfl, hM⟩, hb⟩)
                | 7, _, _, ho =>
                  have hoo := Option.some.inj ho
                  subst hoo
                  exact fx_val hK hρ (.slice (some ⟨bk, off, none⟩) k c2) (by have h := hA.tmp 10 (by decide); simp [execOp, h, go_sem]) rfl
                | 8, _, _, ho =>
                  have hoo := Option.some.inj ho
                  subst hoo
                  exact fx_val hK hρ (.int .i64 0) (by have h := hA.tmp 11 (by decide); simp [execOp, h, go_sem]) rfl
                | 9, _, _, ho =>
                  have hoo := Option.some.inj ho
                  subst hoo
                  have f7 : (ρ (.tmp 78)) = .slice (some ⟨bk, off, none⟩) k c2 := hd ⟨7, .data⟩ (by simp) (by rfl)
                  have f8 : (ρ (.tmp 79)) = .int .i64 0 := hd ⟨8, .data⟩ (by simp) (by rfl)
                  exact fx_val hK hρ _ (idx_eq rfl f7 (by rw [f8, HQ.out.2.2]) HQ.out.1) rfl
                | 10, _, _, ho =>
                  have hoo := Option.some.inj ho
                  subst hoo
                  have f9 : (ρ (.tmp 80)) = .pointer (some ⟨bk, off + q, none⟩) := hd ⟨9, .data⟩ (by simp) (by rfl)
                  exact fx_val hK hρ _ (by have h1 := ints_at9 hI.1.2 HQ.out.2.1; simp [execOp, f9, h1, go_sem]) rfl
                | 11, _, _, ho =>
                  have hoo := Option.some.inj ho
                  subst hoo
                  have f1 : GDq T (ρ (.tmp 72)) w := hd ⟨1, .data⟩ (by simp) (by rfl)
                  have f4 : GLq ni inp (ρ (.tmp 75)) w := hd ⟨4, .data⟩ (by simp) (by rfl)
                  have f6 : GMq n m D V (ρ (.tmp 77)) w := hd ⟨6, .data⟩ (by simp) (by rfl)
                  have f10 : (ρ (.tmp 81)) = .int .i64 y := hd ⟨10, .data⟩ (by simp) (by rfl)
                  obtain ⟨s1, f1', hD⟩ := f1
                  obtain ⟨A1, c1, F1, d1, f6', hM⟩ := f6
                  obtain ⟨A8, c8, f4', hi8⟩ := f4
                  exact fx_call hK hρ 17 _ _ #[s1.arg T.period T.deadline, .slice A8 ni c8, .agg #[.slice A1 n c1, .slice F1 m d1], .int .i64 y] rfl (by simp only [List.map_toArray, List.map_cons, List.map_nil, hA.const, f1', f4', f6', f10]) (eg_of Tryz.func17 (by kernel_rfl) rfl) ((finish_any (inp := inp) _ y hD hM hi8 HNI.out.1 HNI.out.2).mono fun e w' hg => (by
                    obtain ⟨⟨A4, n4, c4, F4, m4, d4, he, hM4⟩, hb⟩ := hg
                    rw [HFE.out.1] at he
                    rw [HFE.out.2.1, HFE.out.2.2] at hM4
                    exact ⟨_, he, ⟨A4, n4, c4, F4, m4, d4, rfl, hM4⟩, hb⟩))
                | 12, _, _, ho =>
                  have hoo := Option.some.inj ho
                  subst hoo
                  have f11 : GFq D' V' fe (ρ (.tmp 82)) w := hd ⟨11, .data⟩ (by simp) (by rfl)
                  obtain ⟨A4, n4, c4, F4, m4, d4, f11', hM4⟩ := f11
                  exact fx_val hK hρ _ (by simp [execOp, f11', go_sem]) ⟨A4, n4, c4, F4, m4, d4, rfl, hM4⟩
                | 13, _, _, ho =>
                  have hoo := Option.some.inj ho
                  subst hoo
                  have f12 : GFq D' V' fe (ρ (.tmp 70)) w := hd ⟨12, .data⟩ (by simp) (by rfl)
                  obtain ⟨A4, n4, c4, F4, m4, d4, f12', hM4⟩ := f12
                  exact fx_val hK hρ (.agg #[.slice A4 n4 c4, .slice F4 m4 d4]) (by simp [execOp, f12', go_sem]) ⟨A4, n4, c4, F4, m4, d4, rfl, hM4⟩
                | 14, _, hkS, _ => exact absurd (by decide) hkS
                | 15, _, _, ho =>
                  have hoo := Option.some.inj ho
                  subst hoo
                  exact fx_make hK hρ (.pointer (some ⟨w.heap.size, 0, none⟩)) (w.alloc (.cells #[.slice none 0 0, .slice none 0 0] 43)) (by simp [execOp, go_sem]) ⟨_, rfl, hI.2.size, heap_alloc_new w _⟩ (below_alloc _)
                | 16, hkp, _, _ => exact absurd rfl hkp
                | 17, _, hkS, _ => exact absurd (by decide) hkS
                | kq + 18, _, _, ho => simp at ho
              case hpure =>
                intro kq o hkS ho ρ w hA hd
                simp only [List.mem_cons, List.not_mem_nil, or_false] at hkS
                rcases hkS with rfl | rfl
                · have hoo := Option.some.inj ho
                  subst hoo
                  obtain ⟨w', A4, n4, c4, F4, m4, d4, f6, _⟩ := hd ⟨12, .data⟩ (by simp) (by rfl) (by decide)
                  have f6' : ρ (.tmp 70) = .tuple #[.agg #[.slice A4 n4 c4, .slice F4 m4 d4], .int .i64 fe] := f6
                  exact ⟨.int .i64 fe, by simp [execOp, f6', go_sem], fun _ => rfl⟩
                · have hoo := Option.some.inj ho
                  subst hoo
                  obtain ⟨w', f8⟩ := hd ⟨14, .data⟩ (by simp) (by rfl) (by decide)
                  have f8' : ρ (.tmp 84) = .int .i64 fe := f8
                  exact ⟨.int .i64 fe, by simp [execOp, f8', go_sem], fun _ => rfl⟩
              case hstore =>
                intro o ho a w hI hA hF K hK
                have hoo := Option.some.inj ho
                subst hoo
                exact stM (slot := 12) rfl rfl rfl (hF 15 (by decide) (by decide) (by decide)) (hF 13 (by decide) (by decide) (by decide)) hI.2 hK
              case htheta =>
                intro f g w h hT
                exact ThM.slot hT (h 15 (by decide) (by decide) (by decide))
              case hend =>
                intro vals6 w6 hT hF
                obtain ⟨gx, A3, n3, c3, F3, m3, d3, f12, hb6, hg6, hx6, hm6⟩ := hT
                have f13 : vals6 13 = .int .i64 fe := (hF 17 (by decide) (by decide)).choose_spec
                simp only [fillA, fillL, List.contains_cons, List.contains_nil, Nat.reduceBEq, Bool.or_false, Bool.false_or, Bool.or_true, Bool.true_or, cond_true, cond_false, Nat.zero_add, Nat.reduceAdd]
                rw [f12, f13]
                have B6 : Hid (BxOr w0 (⟨P, np, pc, E, ne, ec, Fu, nf, fc, R, nr, rc⟩ : Sh) T g A n c F m d D V w6) := Lib.hid (B5.out.1.next hb6)
                have HX := Lib.hid hm6
                have x0 : w6.cell? ⟨gx, 0, none⟩ = some (.slice A3 n3 c3) := by rw [cell_of_row _ _ _ _ _ _ hx6]; rfl
                have x1 : w6.cell? ⟨gx, 1, none⟩ = some (.slice F3 m3 d3) := by rw [cell_of_row _ _ _ _ _ _ hx6]; rfl
                have m0 := B6.out.m0
                have m1 := B6.out.m1
                have z0 := frozen_of_row w6 g 0 _ _ B6.out.row
                have z1 := frozen_of_row w6 g 1 _ _ B6.out.row
                have hfe0 := HFE0.out
                subst hfe0
                clear hF hb6 hg6 hx6 hm6 f12 f13 B5
                go_wp2
                go_roundw
                case rel => exact ⟨kk + 1, by omega, by go_num, Lib.hid ⟨A3, n3, c3, F3, m3, d3, D', V', B6.out.store HX.out, HNX.out.1, HNX.out.2.1, HNX.out.2.2⟩⟩
                case measure => simp [intOf]; omega
      · have h1 := cntD_le D
        have h2 := hM.hD
        have h3 := (low_few hM.low.1).2.2
        omega
  · have B4 := Lib.hid (B3.out.next b4)
    have hx : (lowX T != 0) = true := bne_iff_ne.mpr (fun e => hn4 (lowX_zero.mp e))
    obtain ⟨lx, hlx⟩ : ∃ lx, lx = lowX T := ⟨_, rfl⟩
    rw [← hlx] at hx ⊢
    clear b4 hn4 hlx
    go_wp2
    go_ret
    exact ⟨rfl, B4.out.bel.alloc B4.out.bel.size _⟩
theorem walk_EvalOrder (w0 : World) (hd : InD w0 s T) (hi : InI w0 Ai ni ci inp) (ho : InI w0 Ap npk cp picks) (hT : DTab w0) : Calls Tryz.prog 6 #[s.arg T.period T.deadline, .slice Ai ni ci, .slice Ap npk cp] w0 fun z w' => z = .returned (.bool true) ∧ Below w0.heap.size w0 w' := by
  by_cases h1 : FewD T ∧ ni ≤ 60
  · by_cases h3 : npk ≤ 70
    · exact order_few w0 hd hi ho hT h1.1 h1.2 h3
    · exact order_long w0 hd hT h1.1 h1.2 (by omega)
  · exact order_many w0 hd hT h1
end
end Go.Proofs.YtmelgolnmnebpaaGreatDoor
