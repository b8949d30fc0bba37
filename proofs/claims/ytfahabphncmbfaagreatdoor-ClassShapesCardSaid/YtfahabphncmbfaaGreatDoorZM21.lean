/- How many steps and edges a lowered task has, in plain words, in the seat YtfahabphncmbfaaGreatDoor.
   lower.Lower in the seat YtfahabphncmbfaaGreatDoor: its contract.
   slices.Equal over integers in the seat YtfahabphncmbfaaGreatDoor: its contract.
   slices.Equal over integers and over edges, and dag.Same, in the seat YtfahabphncmbfaaGreatDoor: their contracts.
   lower.Node, Last and Same over lowered tasks, in the seat YtfahabphncmbfaaGreatDoor: their contracts.
   Layer 7's example, in plain words, in the seat YtfahabphncmbfaaGreatDoor.
   The contract of awake of trefoillaw07 in the seat YtfahabphncmbfaaGreatDoor.
   The contract of trefoilref07.Same in the seat YtfahabphncmbfaaGreatDoor.
   No statement is proved here. -/
import Derived.Test.YtfahabphncmbfaaGreatDoorZM15
import Derived.Test.YtfahabphncmbfaaGreatDoorZM20
import Derived.Laws.ResultCell
import Derived.Test.YtfahabphncmbfaaGreatDoorZM6
import Derived.Test.YtfahabphncmbfaaGreatDoorZM19
set_option linter.unusedSimpArgs false
set_option linter.unusedVariables false
namespace Go.Proofs.YtfahabphncmbfaaGreatDoor

theorem touL_cnt {ps fs : List (Int × Int × Int)} (hps : partsOk ps) (hf : FutsOk ps fs) (x : Nat) : (touL fs (x : Int)).length = ((List.range fs.length).filter fun k => decide ((futAt fs k).2.1 = (x : Int))).length := by
  have hn : (touL fs (x : Int)).Nodup := touK_nodup fs (x : Int) 99
  refine ((List.perm_ext_iff_of_nodup hn (List.Nodup.sublist List.filter_sublist List.nodup_range)).mpr fun k => ?_).length_eq
  rw [List.mem_filter, List.mem_range, decide_eq_true_iff]
  constructor
  · intro h
    have := mem_touK.mp h
    exact ⟨this.1, this.2.1⟩
  · rintro ⟨h1, h2⟩
    have h := fut_mem hps hf h1
    rwa [h2] at h
theorem split_cnt (u : Nat → Int) (n : Nat) : ∀ l : List Nat, (l.filter fun k => decide (u k < ((n + 1 : Nat) : Int))).length = (l.filter fun k => decide (u k < (n : Int))).length + (l.filter fun k => decide (u k = (n : Int))).length
  | [] => rfl
  | k :: l => by
    have ih := split_cnt u n l
    have h0 : (u k < ((n + 1 : Nat) : Int)) ↔ (u k < (n : Int) ∨ u k = (n : Int)) := by omega
    by_cases h1 : u k < (n : Int)
    · have e1 : decide (u k < ((n + 1 : Nat) : Int)) = true := decide_eq_true (h0.mpr (.inl h1))
      have e2 : decide (u k < (n : Int)) = true := decide_eq_true h1
      have e3 : decide (u k = (n : Int)) = false := decide_eq_false (by omega)
      rw [List.filter_cons, List.filter_cons, List.filter_cons, if_pos e1, if_pos e2, if_neg (by rw [e3]; exact Bool.false_ne_true), List.length_cons, List.length_cons]
      omega
    · by_cases h3 : u k = (n : Int)
      · have e1 : decide (u k < ((n + 1 : Nat) : Int)) = true := decide_eq_true (h0.mpr (.inr h3))
        have e2 : decide (u k < (n : Int)) = false := decide_eq_false h1
        have e3 : decide (u k = (n : Int)) = true := decide_eq_true h3
        rw [List.filter_cons, List.filter_cons, List.filter_cons, if_pos e1, if_neg (by rw [e2]; exact Bool.false_ne_true), if_pos e3, List.length_cons, List.length_cons]
        omega
      · have e1 : decide (u k < ((n + 1 : Nat) : Int)) = false := decide_eq_false (fun h => by rcases h0.mp h with h | h; exact h1 h; exact h3 h)
        have e2 : decide (u k < (n : Int)) = false := decide_eq_false h1
        have e3 : decide (u k = (n : Int)) = false := decide_eq_false h3
        rw [List.filter_cons, List.filter_cons, List.filter_cons, if_neg (by rw [e1]; exact Bool.false_ne_true), if_neg (by rw [e2]; exact Bool.false_ne_true), if_neg (by rw [e3]; exact Bool.false_ne_true)]
        exact ih
theorem firN_sum {ps fs : List (Int × Int × Int)} (hps : partsOk ps) (hf : FutsOk ps fs) : ∀ n, firN fs n = n + ((List.range fs.length).filter fun k => decide ((futAt fs k).2.1 < (n : Int))).length
  | 0 => by
    rw [firN, List.filter_eq_nil_iff.mpr]
    · rfl
    · intro k hk
      have hk' : k < fs.length := List.mem_range.mp hk
      have e : futAt fs k = fs[k] := by unfold futAt; rw [List.getD_eq_getElem?_getD, List.getElem?_eq_getElem hk']; rfl
      have := (hf.each fs[k] (List.getElem_mem hk')).user.1
      rw [e]
      simp
      omega
  | n + 1 => by
    rw [firN, firN_sum hps hf n, split_cnt (fun k => (futAt fs k).2.1) n]
    unfold nst
    rw [touL_cnt hps hf n]
    omega
theorem firN_all {ps fs : List (Int × Int × Int)} (hps : partsOk ps) (hf : FutsOk ps fs) : firN fs ps.length = ps.length + fs.length := by
  rw [firN_sum hps hf, List.filter_eq_self.mpr, List.length_range]
  intro k hk
  have hk' : k < fs.length := List.mem_range.mp hk
  have e : futAt fs k = fs[k] := by unfold futAt; rw [List.getD_eq_getElem?_getD, List.getElem?_eq_getElem hk']; rfl
  have := (hf.each fs[k] (List.getElem_mem hk')).user.2
  rw [e, decide_eq_true_iff]
  exact this
theorem lowW_len {T : Task} (hM : MayT T) : (lowW T).length = T.parts.length + T.futures.length + T.bars.length := by
  unfold lowW
  rw [List.length_append, wPs_len, firN_all hM.parts hM.futures, List.length_replicate]
theorem lowP_len {T : Task} (hM : MayT T) : (lowP T).length = T.parts.length + T.futures.length + T.bars.length := by
  unfold lowP
  rw [List.length_append, pPs_len, firN_all hM.parts hM.futures, List.length_map, List.length_range]
theorem low_few {T : Task} (hM : MayT T) : (lowW T).length ≤ 36 ∧ (lowE T).length ≤ 400 ∧ (lowP T).length ≤ 36 := by
  have hfew := hM.few
  unfold ManyT at hfew
  have h1 := ePs_len T.futures T.parts.length
  have h2 := firN_all hM.parts hM.futures
  have h3 := bEs_len T.futures T.bars (firN T.futures T.parts.length) 16 (fun b hb => by
    have h := hM.bars b hb
    have k1 := row_len' h.ins
    have k2 := row_len' h.outs
    omega) T.bars.length
  have h4 : T.bars.length * (2 * 16) ≤ 4 * 32 := Nat.mul_le_mul (by omega) (by omega)
  refine ⟨by rw [lowW_len hM]; omega, ?_, by rw [lowP_len hM]; omega⟩
  unfold lowE
  rw [List.length_append, List.length_append, List.length_append, List.length_map, List.length_map, List.length_range]
  omega
/-- It may be, and no way leads round. -/
def LowOk (T : Task) : Prop := MayT T ∧ May (lowW T) (lowE T)
open Classical in
/-- What Lower says. -/
noncomputable def lowX (T : Task) : Int := if MayT T then (if May (lowW T) (lowE T) then 0 else 70) else chkT T
open Classical in
noncomputable def lowWv (T : Task) : List Int := if LowOk T then lowW T else []
open Classical in
noncomputable def lowEv (T : Task) : List (Int × Int) := if LowOk T then lowE T else []
open Classical in
noncomputable def lowPv (T : Task) : List (Int × Int) := if LowOk T then lowP T else []
theorem lowX_zero {T : Task} : lowX T = 0 ↔ LowOk T := by
  unfold lowX LowOk
  by_cases h1 : MayT T
  · rw [if_pos h1]
    by_cases h2 : May (lowW T) (lowE T)
    · rw [if_pos h2]; exact ⟨fun _ => ⟨h1, h2⟩, fun _ => rfl⟩
    · rw [if_neg h2]; exact ⟨fun h => by omega, fun h => absurd h.2 h2⟩
  · rw [if_neg h1]
    exact ⟨fun h => absurd (chkT_zero.mp h) h1, fun h => absurd h.1 h1⟩
end Go.Proofs.YtfahabphncmbfaaGreatDoor
set_option linter.unusedVariables false
namespace Go.Proofs.YtfahabphncmbfaaGreatDoor
open Go.RowKit

/-- What Lower hands back: three lists of the call's own, and what it says. -/
def GotLow (T : Task) (w : World) (e : Ending) (w' : World) : Prop := ∃ vW vE vP, e = .returned (.tuple #[.agg #[vW, vE, vP], .int .i64 (lowX T)]) ∧ OwnI w' w.heap.size vW (lowWv T) ∧ OwnE w' w.heap.size vE (lowEv T) ∧ OwnP w' w.heap.size vP (lowPv T) ∧ Below w.heap.size w w'
theorem gotLow_no {T : Task} {w w' : World} {n : Int} (hn : n = lowX T) (h0 : lowX T ≠ 0) (hb : Below w.heap.size w w') : GotLow T w (.returned (.tuple #[.agg #[.slice none 0 0, .slice none 0 0, .slice none 0 0], .int .i64 n])) w' := by
  have hN : ¬ LowOk T := fun h => h0 (lowX_zero.mpr h)
  refine ⟨_, _, _, by rw [hn], ?_, ?_, ?_, hb⟩
  · rw [show lowWv T = [] by unfold lowWv; rw [if_neg hN]]; exact ⟨rfl, .inl ⟨rfl, rfl⟩⟩
  · rw [show lowEv T = [] by unfold lowEv; rw [if_neg hN]]; exact ⟨rfl, .inl ⟨rfl, rfl⟩⟩
  · rw [show lowPv T = [] by unfold lowPv; rw [if_neg hN]]; exact ⟨rfl, .inl ⟨rfl, rfl⟩⟩
set_option maxRecDepth 100000 in
set_option maxHeartbeats 8000000 in
theorem lower_bad (s : Sh) (T : Task) (w : World) (hD : IsD w s T) (hM : ¬ MayT T) : Calls Tryz.prog 35 #[s.arg T.period T.deadline] w (GotLow T w) := by
  obtain ⟨P, np, pc, E, ne, ec, F, nf, fc, R, nr, rc⟩ := s
  have hx : lowX T = chkT T := by unfold lowX; rw [if_neg hM]
  have h0 : chkT T ≠ 0 := fun h => hM (chkT_zero.mp h)
  have hr : (chkT T != 0) = true := bne_iff_ne.mpr h0
  have C := fun W (h : IsD W ⟨P, np, pc, E, ne, ec, F, nf, fc, R, nr, rc⟩ T) => check_any5 ⟨P, np, pc, E, ne, ec, F, nf, fc, R, nr, rc⟩ T W h
  obtain ⟨r, hrr⟩ : ∃ r, r = chkT T := ⟨_, rfl⟩
  rw [← hrr] at C hx h0 hr
  have HC := Lib.hid C
  have HX := Lib.hid hx
  have H0 := Lib.hid h0
  have B0 := Lib.hid (BxI.start hD T.period T.deadline)
  simp only [Sh.arg] at HC ⊢
  obtain ⟨wA, hwA⟩ : ∃ wA, wA = w.alloc (.cells #[.int .i64 T.period, .int .i64 T.deadline, .slice P np pc, .slice E ne ec, .slice F nf fc, .slice R nr rc] 64) := ⟨_, rfl⟩
  obtain ⟨wB, hwB⟩ : ∃ wB, wB = wA.alloc (.cells #[.slice none 0 0, .slice none 0 0, .slice none 0 0] 76) := ⟨_, rfl⟩
  rw [← hwA] at B0
  have hbB : Below wA.heap.size wA wB := by rw [hwB]; exact below_alloc _
  have sA : wA.heap.size = w.heap.size + 1 := by rw [hwA]; simp
  have rB : wB.heap[w.heap.size + 1]? = some (.cells #[.slice none 0 0, .slice none 0 0, .slice none 0 0] 76 (0, 0)) := by rw [hwB, ← sA]; exact heap_alloc_new wA _
  have sB : wB.heap.size = w.heap.size + 2 := by rw [hwB]; simp [sA]
  have B1 := Lib.hid (B0.out.next hbB)
  have HRB := Lib.hid rB
  have HSB := Lib.hid sB
  have HW := Lib.hid (And.intro hwA hwB)
  clear hD hM hx h0 C hrr hwA hwB B0 hbB rB sA sB
  go_enter Tryz.func35, Tryz.ntmps35
  go_wp2_with fail
  rw [← HW.out.1, ← HW.out.2]
  clear HW
  refine (HC.out _ B1.out.d).mono ?_
  rintro e w1 ⟨rfl, b1⟩
  have HBW := Lib.hid (B1.out.b.bel.trans (b1.mono B1.out.b.bel.size))
  have hrb := (b1.block (w.heap.size + 1) (by rw [HSB.out]; omega)).trans HRB.out
  have y0 := cell_of_row w1 (w.heap.size + 1) 0 _ _ _ hrb
  have y1 := cell_of_row w1 (w.heap.size + 1) 1 _ _ _ hrb
  have y2 := cell_of_row w1 (w.heap.size + 1) 2 _ _ _ hrb
  simp at y0 y1 y2
  have z0 := frozen_of_row w1 (w.heap.size + 1) 0 _ _ hrb
  have z1 := frozen_of_row w1 (w.heap.size + 1) 1 _ _ hrb
  have z2 := frozen_of_row w1 (w.heap.size + 1) 2 _ _ hrb
  have HRW := Lib.hid hrb
  clear hrb b1
  go_wp2
  have h1 := heap_setCell_same w1 (w.heap.size + 1) 0 _ _ (.slice none 0 0) HRW.out
  have h2 := heap_setCell_same _ (w.heap.size + 1) 1 _ _ (.slice none 0 0) h1
  have h3 := heap_setCell_same _ (w.heap.size + 1) 2 _ _ (.slice none 0 0) h2
  obtain ⟨x2, hx2⟩ : ∃ x2, x2 = ((w1.setCell ⟨w.heap.size + 1, 0, none⟩ (.slice none 0 0)).setCell ⟨w.heap.size + 1, 1, none⟩ (.slice none 0 0)).setCell ⟨w.heap.size + 1, 2, none⟩ (.slice none 0 0) := ⟨_, rfl⟩
  rw [← hx2] at h3 ⊢
  have hle : w.heap.size ≤ w.heap.size + 1 := Nat.le_succ _
  have hbx : Below w.heap.size w1 x2 := by
    rw [hx2]
    exact (((Below.refl _ w1).setCell hle _).setCell hle _).setCell hle _
  have k0 := cell_of_row x2 (w.heap.size + 1) 0 _ _ _ h3
  have k1 := cell_of_row x2 (w.heap.size + 1) 1 _ _ _ h3
  have k2 := cell_of_row x2 (w.heap.size + 1) 2 _ _ _ h3
  simp at k0 k1 k2
  clear hx2
  refine bodyPost_ret (v := .tuple #[.agg #[.slice none 0 0, .slice none 0 0, .slice none 0 0], .int .i64 r]) ?_ rfl (gotLow_no HX.out.symm (by rw [HX.out]; exact H0.out) (HBW.out.trans hbx))
  rw [results_cell_tmp rfl]
  go_simp
set_option maxRecDepth 100000 in
set_option maxHeartbeats 8000000 in
theorem lower_may (s : Sh) (T : Task) (w : World) (hD : IsD w s T) (hM : MayT T) : Calls Tryz.prog 35 #[s.arg T.period T.deadline] w (GotLow T w) := by
  obtain ⟨P, np, pc, E, ne, ec, F, nf, fc, R, nr, rc⟩ := s
  have C := fun W (h : IsD W ⟨P, np, pc, E, ne, ec, F, nf, fc, R, nr, rc⟩ T) => check_any5 ⟨P, np, pc, E, ne, ec, F, nf, fc, R, nr, rc⟩ T W h
  rw [chkT_zero.mpr hM] at C
  have HC := Lib.hid C
  have HL := Lib.hid (fun W (h : IsD W ⟨P, np, pc, E, ne, ec, F, nf, fc, R, nr, rc⟩ T) => lay_any ⟨P, np, pc, E, ne, ec, F, nf, fc, R, nr, rc⟩ T W h hM)
  have HM := Lib.hid hM
  have HFEW := Lib.hid (low_few hM)
  have B0 := Lib.hid (BxI.start hD T.period T.deadline)
  simp only [Sh.arg] at HC HL ⊢
  obtain ⟨wA, hwA⟩ : ∃ wA, wA = w.alloc (.cells #[.int .i64 T.period, .int .i64 T.deadline, .slice P np pc, .slice E ne ec, .slice F nf fc, .slice R nr rc] 64) := ⟨_, rfl⟩
  obtain ⟨wB, hwB⟩ : ∃ wB, wB = wA.alloc (.cells #[.slice none 0 0, .slice none 0 0, .slice none 0 0] 76) := ⟨_, rfl⟩
  rw [← hwA] at B0
  have hbB : Below wA.heap.size wA wB := by rw [hwB]; exact below_alloc _
  have sA : wA.heap.size = w.heap.size + 1 := by rw [hwA]; simp
  have rB : wB.heap[w.heap.size + 1]? = some (.cells #[.slice none 0 0, .slice none 0 0, .slice none 0 0] 76 (0, 0)) := by rw [hwB, ← sA]; exact heap_alloc_new wA _
  have sB : wB.heap.size = w.heap.size + 2 := by rw [hwB]; simp [sA]
  have B1 := Lib.hid (B0.out.next hbB)
  have HRB := Lib.hid rB
  have HSB := Lib.hid sB
  have HW := Lib.hid (And.intro hwA hwB)
  clear hD hM C hwA hwB B0 hbB rB sA sB
  go_enter Tryz.func35, Tryz.ntmps35
  go_wp2_with fail
  rw [← HW.out.1, ← HW.out.2]
  clear HW
  refine (HC.out _ B1.out.d).mono ?_
  rintro e w1 ⟨rfl, b1⟩
  have B2 := Lib.hid (B1.out.next b1)
  obtain ⟨c0, c1, c2, c3, c4, c5⟩ := B2.out.b.cells
  go_wp2_with fail
  refine (HL.out _ B2.out.d).mono ?_
  rintro e w2 ⟨vW, vE, vP, rfl, hOW, hOE, hOP, b2⟩
  have B3 := Lib.hid (B2.out.next b2)
  have hb12 : Below wB.heap.size wB w2 := b1.trans (b2.mono b1.size)
  obtain ⟨w3, hw3⟩ : ∃ w3, w3 = w2.alloc (.cells #[vW, vE, vP] 76) := ⟨_, rfl⟩
  have hb3 : Below w2.heap.size w2 w3 := by rw [hw3]; exact below_alloc _
  have rB3 : w3.heap[w.heap.size + 1]? = some (.cells #[.slice none 0 0, .slice none 0 0, .slice none 0 0] 76 (0, 0)) := by
    rw [(hb12.trans (hb3.mono hb12.size)).block _ (by rw [HSB.out]; omega)]
    exact HRB.out
  have rL3 : w3.heap[w2.heap.size]? = some (.cells #[vW, vE, vP] 76 (0, 0)) := by rw [hw3]; exact heap_alloc_new w2 _
  have HOW := Lib.hid (own_below hOW hb3)
  have HOE := Lib.hid (own_below hOE hb3)
  have HOP := Lib.hid (own_below hOP hb3)
  have B4 := Lib.hid (B3.out.next hb3)
  have hw12 : w.heap.size + 2 ≤ w1.heap.size := by have := b1.size; rw [HSB.out] at this; exact this
  have hw23 : w1.heap.size ≤ w2.heap.size := b2.size
  obtain ⟨AW, cW, AE, cE, eW, eE, hIG⟩ := own_isG B4.out.d.tab HOW.out HOE.out (by have := HFEW.out.1; omega) HFEW.out.2.1
  subst eW eE
  obtain ⟨AP, cP, eP⟩ := OwnP.slice HOP.out
  subst eP
  have HIG := Lib.hid hIG
  have HRB3 := Lib.hid rB3
  have HRL3 := Lib.hid rL3
  clear b1 c0 c1 c2 c3 c4 c5 hOW hOE hOP b2 hb12 hb3 rB3 rL3 hIG HC HL B1 B2 B3
  go_wp2_with fail
  rw [← hw3]
  clear hw3
  refine (check_done w3 HIG.out).mono ?_
  rintro e w4 ⟨rfl, b4⟩
  have hs3 : w2.heap.size < w3.heap.size := (Array.getElem?_eq_some_iff.mp HRL3.out).1
  have hrb := (b4.block (w.heap.size + 1) (by omega)).trans HRB3.out
  have hrl := (b4.block w2.heap.size hs3).trans HRL3.out
  have HBW := Lib.hid (B4.out.b.bel.trans (b4.mono B4.out.b.bel.size))
  have HO := Lib.hid (And.intro (own_below HOW.out b4) (And.intro (own_below HOE.out b4) (own_below HOP.out b4)))
  have y0 := cell_of_row w4 (w.heap.size + 1) 0 _ _ _ hrb
  have y1 := cell_of_row w4 (w.heap.size + 1) 1 _ _ _ hrb
  have y2 := cell_of_row w4 (w.heap.size + 1) 2 _ _ _ hrb
  simp at y0 y1 y2
  have z0 := frozen_of_row w4 (w.heap.size + 1) 0 _ _ hrb
  have z1 := frozen_of_row w4 (w.heap.size + 1) 1 _ _ hrb
  have z2 := frozen_of_row w4 (w.heap.size + 1) 2 _ _ hrb
  have l0 := cell_of_row w4 w2.heap.size 0 _ _ _ hrl
  have l1 := cell_of_row w4 w2.heap.size 1 _ _ _ hrl
  have l2 := cell_of_row w4 w2.heap.size 2 _ _ _ hrl
  simp at l0 l1 l2
  have HRW := Lib.hid hrb
  have hchk : (chkE (lowW T) (lowE T) = 0) ↔ May (lowW T) (lowE T) := chkE_zero
  obtain ⟨r, hr⟩ : ∃ r, r = chkE (lowW T) (lowE T) := ⟨_, rfl⟩
  rw [← hr] at hchk ⊢
  obtain ⟨kW, hkW⟩ : ∃ k, k = (lowW T).length := ⟨_, rfl⟩
  obtain ⟨kE, hkE⟩ : ∃ k, k = (lowE T).length := ⟨_, rfl⟩
  obtain ⟨kP, hkP⟩ : ∃ k, k = (lowP T).length := ⟨_, rfl⟩
  rw [← hkW, ← hkE, ← hkP] at HO ⊢
  rw [← hkW] at l0
  rw [← hkE] at l1
  rw [← hkP] at l2
  have HCK := Lib.hid hchk
  have HK := Lib.hid (And.intro hkW (And.intro hkE hkP))
  clear hrb hrl b4 hr hchk hkW hkE hkP HIG HRB3 HRL3 HOW HOE HOP B4
  have hle : w.heap.size ≤ w.heap.size + 1 := Nat.le_succ _
  by_cases h0 : r = 0
  · have hOK : LowOk T := ⟨HM.out, HCK.out.mp h0⟩
    have HOK := Lib.hid hOK
    have hX := Lib.hid (lowX_zero.mpr hOK)
    subst h0
    clear hOK
    go_wp2
    have h1 := heap_setCell_same w4 (w.heap.size + 1) 0 _ _ (.slice AW kW cW) HRW.out
    have h2 := heap_setCell_same _ (w.heap.size + 1) 1 _ _ (.slice AE kE cE) h1
    have h3 := heap_setCell_same _ (w.heap.size + 1) 2 _ _ (.slice AP kP cP) h2
    obtain ⟨x2, hx2⟩ : ∃ x2, x2 = ((w4.setCell ⟨w.heap.size + 1, 0, none⟩ (.slice AW kW cW)).setCell ⟨w.heap.size + 1, 1, none⟩ (.slice AE kE cE)).setCell ⟨w.heap.size + 1, 2, none⟩ (.slice AP kP cP) := ⟨_, rfl⟩
    rw [← hx2] at h3 ⊢
    have ho : ∀ k, k ≠ w.heap.size + 1 → x2.heap[k]? = w4.heap[k]? := fun k hk => by rw [hx2, heap_setCell_other _ _ _ _ hk, heap_setCell_other _ _ _ _ hk, heap_setCell_other _ _ _ _ hk]
    have hbx : Below w.heap.size w4 x2 := by
      rw [hx2]
      exact (((Below.refl _ w4).setCell hle _).setCell hle _).setCell hle _
    have k0 := cell_of_row x2 (w.heap.size + 1) 0 _ _ _ h3
    have k1 := cell_of_row x2 (w.heap.size + 1) 1 _ _ _ h3
    have k2 := cell_of_row x2 (w.heap.size + 1) 2 _ _ _ h3
    simp at k0 k1 k2
    clear hx2
    refine bodyPost_ret (v := .tuple #[.agg #[.slice AW kW cW, .slice AE kE cE, .slice AP kP cP], .int .i64 0]) ?_ rfl ⟨_, _, _, by rw [hX.out], ?_, ?_, ?_, HBW.out.trans hbx⟩
    · rw [results_cell_tmp rfl]
      go_simp
    · rw [show lowWv T = lowW T by unfold lowWv; rw [if_pos HOK.out]]; unfold OwnI; rw [← HK.out.1]; exact own_less (other_own HO.out.1 HRW.out (by decide) ho) (by omega)
    · rw [show lowEv T = lowE T by unfold lowEv; rw [if_pos HOK.out]]; unfold OwnE; rw [← HK.out.2.1]; exact own_less (other_own HO.out.2.1 HRW.out (by decide) ho) (by omega)
    · rw [show lowPv T = lowP T by unfold lowPv; rw [if_pos HOK.out]]; unfold OwnP; rw [← HK.out.2.2]; exact own_less (other_own HO.out.2.2 HRW.out (by decide) ho) (by omega)
  · have hb : (r != 0) = true := bne_iff_ne.mpr h0
    have hX : Hid ((70 : Int) = lowX T) := Lib.hid (by unfold lowX; rw [if_pos HM.out, if_neg (fun k => h0 (HCK.out.mpr k))])
    clear h0
    go_wp2
    have h1 := heap_setCell_same w4 (w.heap.size + 1) 0 _ _ (.slice none 0 0) HRW.out
    have h2 := heap_setCell_same _ (w.heap.size + 1) 1 _ _ (.slice none 0 0) h1
    have h3 := heap_setCell_same _ (w.heap.size + 1) 2 _ _ (.slice none 0 0) h2
    obtain ⟨x2, hx2⟩ : ∃ x2, x2 = ((w4.setCell ⟨w.heap.size + 1, 0, none⟩ (.slice none 0 0)).setCell ⟨w.heap.size + 1, 1, none⟩ (.slice none 0 0)).setCell ⟨w.heap.size + 1, 2, none⟩ (.slice none 0 0) := ⟨_, rfl⟩
    rw [← hx2] at h3 ⊢
    have hbx : Below w.heap.size w4 x2 := by
      rw [hx2]
      exact (((Below.refl _ w4).setCell hle _).setCell hle _).setCell hle _
    have k0 := cell_of_row x2 (w.heap.size + 1) 0 _ _ _ h3
    have k1 := cell_of_row x2 (w.heap.size + 1) 1 _ _ _ h3
    have k2 := cell_of_row x2 (w.heap.size + 1) 2 _ _ _ h3
    simp at k0 k1 k2
    clear hx2
    refine bodyPost_ret (v := .tuple #[.agg #[.slice none 0 0, .slice none 0 0, .slice none 0 0], .int .i64 70]) ?_ rfl (gotLow_no hX.out (by rw [← hX.out]; decide) (HBW.out.trans hbx))
    rw [results_cell_tmp rfl]
    go_simp
theorem lower_any (s : Sh) (T : Task) (w : World) (hD : IsD w s T) : Calls Tryz.prog 35 #[s.arg T.period T.deadline] w (GotLow T w) := by
  by_cases hM : MayT T
  · exact lower_may s T w hD hM
  · exact lower_bad s T w hD hM
end Go.Proofs.YtfahabphncmbfaaGreatDoor
set_option linter.unusedVariables false
namespace Go.Proofs.YtfahabphncmbfaaGreatDoor
open Go.RowKit

set_option maxHeartbeats 800000 in
theorem eq_ints (B : Nat) (A1 A2 : Option Addr) (c1 c2 : Nat) (xs ys : List Int) (w : World) (hx : xs.length ≤ 1000) (hy : ys.length ≤ 1000) (h1 : Ints w B A1 xs) (h2 : Ints w B A2 ys) :
    Calls Tryz.prog 83 #[.slice A1 xs.length c1, .slice A2 ys.length c2] w fun e w' => e = .returned (.bool (decide (xs = ys))) ∧ ∃ N, w' = w.drewN N := by
  obtain ⟨n, hn⟩ : ∃ n, n = xs.length := ⟨_, rfl⟩
  obtain ⟨m, hm⟩ : ∃ m, m = ys.length := ⟨_, rfl⟩
  rw [← hn, ← hm]
  rw [← hn] at hx
  rw [← hm] at hy
  have HN := Lib.hid hn
  have HM := Lib.hid hm
  have H1 := Lib.hid h1
  have H2 := Lib.hid h2
  clear hn hm h1 h2
  by_cases hnm : n = m
  · subst hnm
    go_enter Tryz.func83, Tryz.ntmps83
    go_wp2
    go_loopw [13] (fun i wr => ∃ j N : Nat, j ≤ n ∧ i = .int .i64 j ∧ Hid (xs.take j = ys.take j) ∧ wr = w.drewN N) (fun i _ => n - (intOf i).toNat)
    case atStart => exact ⟨0, 0, Nat.zero_le _, rfl, Lib.hid rfl, rfl⟩
    case round =>
      obtain ⟨j, N, hj, rfl, HT, rfl⟩ := hrel
      by_cases hlt : j < n
      · obtain ⟨b1, o1, x, rfl, _, hx1, hc1⟩ := H1.out.at_ (k := j) (by rw [← HN.out]; exact hlt)
        obtain ⟨b2, o2, y, rfl, _, hy1, hc2⟩ := H2.out.at_ (k := j) (by rw [← HM.out]; exact hlt)
        have HX := Lib.hid hx1
        have HY := Lib.hid hy1
        clear hx1 hy1
        by_cases hxy : x = y
        · subst hxy
          go_wp2
          go_quiet (fail)
          go_wp2
          go_roundw
          case rel => exact ⟨j + 1, _, by omega, by go_num, Lib.hid (take_next HT.out HX.out HY.out), rfl⟩
          case measure => simp [intOf]; omega
        · have hb : (x != y) = true := by simpa using hxy
          have HXY := Lib.hid hxy
          clear hxy
          go_wp2
          go_quiet (fail)
          go_wp2
          go_ret
          exact ⟨by rw [decide_eq_false (take_part HX.out HY.out HXY.out)]; rfl, _, drews w N _⟩
      · obtain rfl : j = n := by omega
        go_wp2
        go_ret
        exact ⟨by rw [decide_eq_true (take_ext (by rw [← HN.out, ← HM.out]) (by rw [← HN.out]; exact HT.out))]; rfl, _, rfl⟩
  · have hb : ((n : Int) != (m : Int)) = true := by simp; omega
    go_enter Tryz.func83, Tryz.ntmps83
    go_wp2
    go_ret
    exact ⟨by rw [decide_eq_false (fun e : xs = ys => hnm (by rw [HN.out, HM.out, e]))]; rfl, 0, rfl⟩
end Go.Proofs.YtfahabphncmbfaaGreatDoor
set_option linter.unusedVariables false
namespace Go.Proofs.YtfahabphncmbfaaGreatDoor
open Go.RowKit

section
variable {A : Option Addr} {n c : Nat} {F : Option Addr} {m d : Nat} {W : List Int} {E : List (Int × Int)} {A' : Option Addr} {n' c' : Nat} {F' : Option Addr} {m' d' : Nat} {W' : List Int} {E' : List (Int × Int)}
end
end Go.Proofs.YtfahabphncmbfaaGreatDoor
set_option linter.unusedVariables false
namespace Go.Proofs.YtfahabphncmbfaaGreatDoor
open Go.RowKit

theorem piece_fields : (Tryz.prog.fieldsOf 217).toList.map (fun f => (f.name, f.type, f.offset)) = [("Part", 3, 0), ("Step", 3, 1)] := by kernel_rfl
theorem piece_eq (x y u v : Int) (W : World) : (Op.equalIn 10000 217 (.agg #[.int .i64 x, .int .i64 y]) (.agg #[.int .i64 u, .int .i64 v])).run Tryz.prog W = .ok (x == u && y == v) W := by
  have hf := piece_fields
  rw [run_equalIn_agg (d := 9999) W 217 _ _ (by kernel_rfl) (by kernel_rfl)]
  generalize (Tryz.prog.fieldsOf 217).toList = fs at hf
  match fs, hf with
  | [], hf => simp at hf
  | [_], hf => simp at hf
  | _ :: _ :: _ :: _, hf => simp at hf
  | [f, g], hf =>
    simp only [List.map_cons, List.map_nil, List.cons.injEq, Prod.mk.injEq, and_true] at hf
    obtain ⟨⟨n1, t1, o1⟩, n2, t2, o2⟩ := hf
    have e1 := fun a b W => run_equalIn_int (P := Tryz.prog) W 9998 3 .i64 .i64 a b Tryz.underlying3
    have p1 := fun a b W => (part_int a b W).1
    have p2 := fun a b W => (part_int a b W).2
    simp only [Op.eqFields, n1, n2, t1, t2, o1, o2]
    by_cases h1 : x = u
    · subst h1
      by_cases h2 : y = v
      · simp [p1, p2, e1, h2]
      · simp [p1, p2, e1, h2]
    · simp [p1, p2, e1, h1]
theorem piece_neq_run (x y u v : Int) (W : World) : (binOp .neq 217 (.agg #[.int .i64 x, .int .i64 y]) (.agg #[.int .i64 u, .int .i64 v])).run Tryz.prog W = .ok (.bool (!(x == u && y == v))) W := by
  rw [run_neq_struct, piece_eq]
  rfl
theorem piece_eql_run (x y u v : Int) (W : World) : (binOp .eql 217 (.agg #[.int .i64 x, .int .i64 y]) (.agg #[.int .i64 u, .int .i64 v])).run Tryz.prog W = .ok (.bool (x == u && y == v)) W := by
  rw [run_eql_struct, piece_eq]
  rfl
/-- A lowered task, as it is handed over. -/
structure IsL (w : World) (A : Option Addr) (n c : Nat) (F : Option Addr) (m d : Nat) (R : Option Addr) (k e : Nat) (W : List Int) (E P : List (Int × Int)) : Prop where
  g : IsG w A n c F m d W E
  hk : P.length = k
  lk : k ≤ 400
  pcs : Pairs w w.heap.size R P
theorem IsL.below {w w' : World} {A : Option Addr} {n c : Nat} {F : Option Addr} {m d : Nat} {R : Option Addr} {k e : Nat} {W : List Int} {E P : List (Int × Int)} (h : IsL w A n c F m d R k e W E P) (hb : Below w.heap.size w w') : IsL w' A n c F m d R k e W E P :=
  ⟨h.g.below hb, h.hk, h.lk, (h.pcs.below hb).more hb.size⟩
theorem OwnP.pairs {w : World} {base : Nat} {v : Value} {ps : List (Int × Int)} (h : OwnP w base v ps) : ∃ A c, v = .slice A ps.length c ∧ Pairs w w.heap.size A ps := by
  rcases h.2 with ⟨rfl, hn⟩ | ⟨g, cap, cur, rfl, hg, hgg, rest⟩
  · have : ps = [] := List.eq_nil_of_length_eq_zero hn
    subst this
    exact ⟨none, 0, rfl, fun h0 => absurd h0 (by simp)⟩
  · refine ⟨some ⟨g, 0, none⟩, cap, rfl, fun _ => ⟨g, 0, rfl, (Array.getElem?_eq_some_iff.1 hgg).1, fun k e he => ?_⟩⟩
    obtain ⟨h1, h2⟩ := flatE_at he
    have h' : w.ownsRow base 217 2 (.slice (some ⟨g, 0, none⟩) ps.length cap) ps.length (flatE ps) := h
    have c1 := h'.cells (g := g) rfl _ _ h1
    have c2 := h'.cells (g := g) rfl _ _ h2
    rw [addr_add] at c1 c2
    rw [show 0 + (k * 2 + 1) = 0 + k * 2 + 1 by omega] at c2
    exact ⟨c1, c2⟩
theorem own_isL {w : World} {b : Nat} {u v x : Value} {W : List Int} {E P : List (Int × Int)} (ht : Tab64 w) (hu : OwnI w b u W) (hv : OwnE w b v E) (hx : OwnP w b x P) (hW : W.length ≤ 400) (hE : E.length ≤ 400) (hP : P.length ≤ 400) :
    ∃ A c F d R e, u = .slice A W.length c ∧ v = .slice F E.length d ∧ x = .slice R P.length e ∧ IsL w A W.length c F E.length d R P.length e W E P := by
  obtain ⟨A, c, F, d, rfl, rfl, hg⟩ := own_isG ht hu hv hW hE
  obtain ⟨R, e, rfl, hp⟩ := hx.pairs
  exact ⟨A, c, F, d, R, e, rfl, rfl, rfl, hg, rfl, hP, hp⟩
/-- The first place of a piece; -1: there is none. -/
def idxV (P : List (Int × Int)) (p : Int × Int) : Int := if p ∈ P then (P.idxOf p : Int) else -1
theorem idxV_at {P : List (Int × Int)} {p : Int × Int} {j : Nat} (h : P[j]? = some p) (hn : p ∉ P.take j) : idxV P p = (j : Int) := by
  unfold idxV
  rw [if_pos (List.mem_of_getElem? h)]
  have hj := (List.getElem?_eq_some_iff.mp h).1
  have e : P = P.take j ++ p :: P.drop (j + 1) := by
    rw [← (List.getElem?_eq_some_iff.mp h).2, List.getElem_cons_drop, List.take_append_drop]
  have h2 : (P.take j ++ p :: P.drop (j + 1)).idxOf p = j := by
    rw [List.idxOf_append, if_neg hn, List.idxOf_cons_self, List.length_take]
    omega
  rw [← e] at h2
  rw [h2]
theorem idxV_no {P : List (Int × Int)} {p : Int × Int} (h : p ∉ P) : idxV P p = -1 := by unfold idxV; rw [if_neg h]
/-- The last place among the first j whose part that is; -1: there is none. -/
def lastK (P : List (Int × Int)) (x : Int) : Nat → Int
  | 0 => -1
  | j + 1 => if (P.getD j (0, 0)).1 = x then (j : Int) else lastK P x j
def lastV (P : List (Int × Int)) (x : Int) : Int := if x < 0 then -1 else lastK P x P.length
section
variable {A : Option Addr} {n c : Nat} {F : Option Addr} {m d : Nat} {R : Option Addr} {k e : Nat} {W : List Int} {E P : List (Int × Int)}
end
section
variable {A : Option Addr} {n c : Nat} {F : Option Addr} {m d : Nat} {R : Option Addr} {k e : Nat} {W : List Int} {E P : List (Int × Int)} {A' : Option Addr} {n' c' : Nat} {F' : Option Addr} {m' d' : Nat} {R' : Option Addr} {k' e' : Nat} {W' : List Int} {E' P' : List (Int × Int)}
end
end Go.Proofs.YtfahabphncmbfaaGreatDoor
set_option linter.unusedVariables false
namespace Go.Proofs.YtfahabphncmbfaaGreatDoor
open Go.RowKit

def exL : Task := ⟨8, 8, [(0, 0, 2), (0, 0, 5)], [], [(0, 1, 3)], []⟩
def roL : Task := ⟨8, 8, [(0, 0, 2), (0, 0, 5)], [(0, 1), (1, 0)], [], []⟩
theorem exLFew : FewT exL := ⟨by decide, by decide, by decide, by decide, by decide⟩
theorem roLFew : FewT roL := ⟨by decide, by decide, by decide, by decide, by decide⟩
theorem exLMay : MayT exL where
  few := by unfold ManyT; decide
  time := by decide
  parts := by decide
  edges := ⟨by unfold Fits; decide, by decide, by decide⟩
  futures := by
    refine ⟨fun f hf => ?_, by decide⟩
    obtain rfl : f = (0, 1, 3) := by simpa [exL] using hf
    refine ⟨by decide, by decide, by decide, by decide, fun e he => ?_⟩
    have : e = (0, 0, 5) := by
      have h2 : (exL.parts)[1]? = some (0, 0, 5) := rfl
      rw [show ((0, 1, 3) : Int × Int × Int).2.1.toNat = 1 from rfl, h2] at he
      exact (Option.some.inj he).symm
    rw [this]
    decide
  bars := fun b hb => by simp [exL] at hb
theorem roLMay : MayT roL where
  few := by unfold ManyT; decide
  time := by decide
  parts := by decide
  edges := ⟨by unfold Fits; decide, by decide, by decide⟩
  futures := ⟨fun f hf => by simp [roL] at hf, by decide⟩
  bars := fun b hb => by simp [roL] at hb
theorem exLW : lowW exL = [2, 3, 2] := by decide +kernel
theorem exLE : lowE exL = [(1, 2), (0, 2)] := by decide +kernel
theorem exLP : lowP exL = [(0, 0), (1, 0), (1, 1)] := by decide +kernel
theorem roLW : lowW roL = [2, 5] := by decide +kernel
theorem roLE : lowE roL = [(0, 1), (1, 0)] := by decide +kernel
theorem exLFits : Fits 3 [(1, 2), (0, 2)] := by unfold Fits; decide
theorem exLGood : May [2, 3, 2] [(1, 2), (0, 2)] := ⟨by decide, by decide, by unfold WorkOk; decide, exLFits, by decide, by decide, acyc_of exLFits (by decide)⟩
theorem exLOk : LowOk exL := ⟨exLMay, by rw [exLW, exLE]; exact exLGood⟩
theorem exLX : lowX exL = 0 := lowX_zero.mpr exLOk
theorem exLWv : lowWv exL = [2, 3, 2] := by unfold lowWv; rw [if_pos exLOk, exLW]
theorem exLEv : lowEv exL = [(1, 2), (0, 2)] := by unfold lowEv; rw [if_pos exLOk, exLE]
theorem exLPv : lowPv exL = [(0, 0), (1, 0), (1, 1)] := by unfold lowPv; rw [if_pos exLOk, exLP]
theorem roLX : lowX roL = 70 := by
  unfold lowX
  rw [if_pos roLMay, if_neg]
  rw [roLW, roLE]
  intro h
  exact h.acyc 0 ((reach_iff (n := 2) (by unfold Fits; decide) 0 0).mp (by decide))
theorem exLIdx : idxV [(0, 0), (1, 0), (1, 1)] (1, 1) = 2 := by decide
theorem exLLast0 : lastV [(0, 0), (1, 0), (1, 1)] 0 = 0 := by decide
theorem exLLast7 : lastV [(0, 0), (1, 0), (1, 1)] 7 = -1 := by decide
end Go.Proofs.YtfahabphncmbfaaGreatDoor
set_option linter.unusedVariables false
namespace Go.Proofs.YtfahabphncmbfaaGreatDoor
open Go.RowKit

theorem Trips.two7 (w : World) (t : TypeId) (a b c d e f : Int) : Trips (w.alloc (.cells #[.int .i64 a, .int .i64 b, .int .i64 c, .int .i64 d, .int .i64 e, .int .i64 f] t)) (w.heap.size + 1) (some ⟨w.heap.size, 0, none⟩) [(a, b, c), (d, e, f)] := fun _ => by
  refine ⟨_, _, rfl, by simp, fun k x he => ?_⟩
  rw [World.cell?_alloc_at _ _ _ _ rfl, World.cell?_alloc_at _ _ _ _ rfl, World.cell?_alloc_at _ _ _ _ rfl]
  match k, he with
  | 0, he =>
    obtain rfl : (a, b, c) = x := by simpa using he
    exact ⟨rfl, rfl, rfl⟩
  | 1, he =>
    obtain rfl : (d, e, f) = x := by simpa using he
    exact ⟨rfl, rfl, rfl⟩
theorem Trips.one7 (w : World) (t : TypeId) (a b c : Int) : Trips (w.alloc (.cells #[.int .i64 a, .int .i64 b, .int .i64 c] t)) (w.heap.size + 1) (some ⟨w.heap.size, 0, none⟩) [(a, b, c)] := fun _ => by
  refine ⟨_, _, rfl, by simp, fun k x he => ?_⟩
  rw [World.cell?_alloc_at _ _ _ _ rfl, World.cell?_alloc_at _ _ _ _ rfl, World.cell?_alloc_at _ _ _ _ rfl]
  match k, he with
  | 0, he =>
    obtain rfl : (a, b, c) = x := by simpa using he
    exact ⟨rfl, rfl, rfl⟩
theorem Pairs.two7 (w : World) (t : TypeId) (a b c d : Int) : Pairs (w.alloc (.cells #[.int .i64 a, .int .i64 b, .int .i64 c, .int .i64 d] t)) (w.heap.size + 1) (some ⟨w.heap.size, 0, none⟩) [(a, b), (c, d)] := fun _ => by
  refine ⟨_, _, rfl, by simp, fun k e he => ?_⟩
  rw [World.cell?_alloc_at _ _ _ _ rfl, World.cell?_alloc_at _ _ _ _ rfl]
  match k, he with
  | 0, he =>
    obtain rfl : (a, b) = e := by simpa using he
    exact ⟨rfl, rfl⟩
  | 1, he =>
    obtain rfl : (c, d) = e := by simpa using he
    exact ⟨rfl, rfl⟩
/-- The example lies there. -/
structure StQE (w w' : World) : Prop where
  bel : Below w.heap.size w w'
  c0 : w'.cell? ⟨w.heap.size + 1 + 1, 0, none⟩ = some (.int .i64 8)
  c1 : w'.cell? ⟨w.heap.size + 1 + 1, 1, none⟩ = some (.int .i64 8)
  c2 : w'.cell? ⟨w.heap.size + 1 + 1, 2, none⟩ = some (.slice (some ⟨w.heap.size, 0, none⟩) 2 2)
  c3 : w'.cell? ⟨w.heap.size + 1 + 1, 3, none⟩ = some (.slice none 0 0)
  c4 : w'.cell? ⟨w.heap.size + 1 + 1, 4, none⟩ = some (.slice (some ⟨w.heap.size + 1, 0, none⟩) 1 1)
  c5 : w'.cell? ⟨w.heap.size + 1 + 1, 5, none⟩ = some (.slice none 0 0)
  gd : IsD w' ⟨(some ⟨w.heap.size, 0, none⟩), 2, 2, none, 0, 0, (some ⟨w.heap.size + 1, 0, none⟩), 1, 1, none, 0, 0⟩ exL
theorem StQE.cells {w w' : World} (h : StQE w w') : w'.cell? ⟨w.heap.size + 1 + 1, 0, none⟩ = some (.int .i64 8) ∧ w'.cell? ⟨w.heap.size + 1 + 1, 1, none⟩ = some (.int .i64 8) ∧ w'.cell? ⟨w.heap.size + 1 + 1, 2, none⟩ = some (.slice (some ⟨w.heap.size, 0, none⟩) 2 2) ∧ w'.cell? ⟨w.heap.size + 1 + 1, 3, none⟩ = some (.slice none 0 0) ∧ w'.cell? ⟨w.heap.size + 1 + 1, 4, none⟩ = some (.slice (some ⟨w.heap.size + 1, 0, none⟩) 1 1) ∧ w'.cell? ⟨w.heap.size + 1 + 1, 5, none⟩ = some (.slice none 0 0) := ⟨h.c0, h.c1, h.c2, h.c3, h.c4, h.c5⟩
theorem StQE.start (w : World) (hT : DTab w) : StQE w (((w.alloc (.cells #[.int .i64 0, .int .i64 0, .int .i64 2, .int .i64 0, .int .i64 0, .int .i64 5] 118)).alloc (.cells #[.int .i64 0, .int .i64 1, .int .i64 3] 220)).alloc (.cells #[.int .i64 8, .int .i64 8, .slice (some ⟨w.heap.size, 0, none⟩) 2 2, .slice none 0 0, .slice (some ⟨w.heap.size + 1, 0, none⟩) 1 1, .slice none 0 0] 64)) := by
  obtain ⟨w1, h1⟩ : ∃ w1, w1 = w.alloc (.cells #[.int .i64 0, .int .i64 0, .int .i64 2, .int .i64 0, .int .i64 0, .int .i64 5] 118) := ⟨_, rfl⟩
  obtain ⟨w2, h2⟩ : ∃ w2, w2 = w1.alloc (.cells #[.int .i64 0, .int .i64 1, .int .i64 3] 220) := ⟨_, rfl⟩
  obtain ⟨w3, h3⟩ : ∃ w3, w3 = w2.alloc (.cells #[.int .i64 8, .int .i64 8, .slice (some ⟨w.heap.size, 0, none⟩) 2 2, .slice none 0 0, .slice (some ⟨w.heap.size + 1, 0, none⟩) 1 1, .slice none 0 0] 64) := ⟨_, rfl⟩
  rw [← h1, ← h2, ← h3]
  have s1 : w1.heap.size = w.heap.size + 1 := by rw [h1]; simp
  have s2 : w2.heap.size = w.heap.size + 1 + 1 := by rw [h2]; simp [s1]
  have b2 : Below w2.heap.size w2 w3 := by rw [h3]; exact below_alloc _
  have b1 : Below w1.heap.size w1 w3 := (by rw [h2]; exact below_alloc _ : Below w1.heap.size w1 w2).trans (b2.mono (by omega))
  have b0 : Below w.heap.size w w3 := (by rw [h1]; exact below_alloc _ : Below w.heap.size w w1).trans (b1.mono (by omega))
  have t1 : Trips w1 w1.heap.size (some ⟨w.heap.size, 0, none⟩) exL.parts := by
    have h := Trips.two7 w 118 0 0 2 0 0 5
    rw [← h1] at h
    exact h.more (by omega)
  have t2 : Trips w2 w2.heap.size (some ⟨w.heap.size + 1, 0, none⟩) exL.futures := by
    have h := Trips.one7 w1 220 0 1 3
    rw [← h2, s1] at h
    exact h.more (by omega)
  refine ⟨b0, ?_, ?_, ?_, ?_, ?_, ?_, ⟨⟨rfl, rfl, rfl, rfl, (t1.below b1).more b1.size, (fun h => absurd h (by decide)), (t2.below b2).more b2.size, (fun h => absurd h (by decide)), (fun e => by cases e), (fun _ => ⟨rfl, rfl⟩), (fun e => by cases e), (fun _ => ⟨rfl, rfl⟩)⟩, exLFew, hT.via b0, Nat.le_refl _, Nat.le_refl _⟩⟩ <;> (rw [h3, World.cell?_alloc_at _ _ _ _ s2.symm]; rfl)
/-- The example's graph lies in a box, and is as it was handed out. -/
structure StQL (w : World) (A : Option Addr) (c : Nat) (F : Option Addr) (d : Nat) (R : Option Addr) (e : Nat) (g : Nat) (w' : World) : Prop where
  bel : Below w.heap.size w w'
  c0 : w'.cell? ⟨g, 0, none⟩ = some (.slice A 3 c)
  c1 : w'.cell? ⟨g, 1, none⟩ = some (.slice F 2 d)
  c2 : w'.cell? ⟨g, 2, none⟩ = some (.slice R 3 e)
  l : IsL w' A 3 c F 2 d R 3 e [2, 3, 2] [(1, 2), (0, 2)] [(0, 0), (1, 0), (1, 1)]
section
variable {w w1 w2 : World} {A : Option Addr} {c : Nat} {F : Option Addr} {d : Nat} {R : Option Addr} {e : Nat} {g : Nat}
theorem StQL.next (h : StQL w A c F d R e g w1) (hb : Below w1.heap.size w1 w2) : StQL w A c F d R e g w2 :=
  ⟨h.bel.trans (hb.mono h.bel.size), (hb.cell (World.block_lt_of_cell? _ _ h.c0)).trans h.c0, (hb.cell (World.block_lt_of_cell? _ _ h.c1)).trans h.c1, (hb.cell (World.block_lt_of_cell? _ _ h.c2)).trans h.c2, h.l.below hb⟩
theorem StQL.cells (h : StQL w A c F d R e g w1) : w1.cell? ⟨g, 0, none⟩ = some (.slice A 3 c) ∧ w1.cell? ⟨g, 1, none⟩ = some (.slice F 2 d) ∧ w1.cell? ⟨g, 2, none⟩ = some (.slice R 3 e) := ⟨h.c0, h.c1, h.c2⟩
theorem StQL.start {w0 : World} (hb : Below w0.heap.size w0 w) (h : IsL w A 3 c F 2 d R 3 e [2, 3, 2] [(1, 2), (0, 2)] [(0, 0), (1, 0), (1, 1)]) : StQL w0 A c F d R e w.heap.size (w.alloc (.cells #[.slice A 3 c, .slice F 2 d, .slice R 3 e] 76)) := by
  refine ⟨hb.trans ((below_alloc _).mono hb.size), ?_, ?_, ?_, h.below (below_alloc _)⟩ <;> (rw [World.cell?_alloc_at _ _ _ _ rfl]; rfl)
end
/-- Behind it the task that leads round. -/
structure StQR (w : World) (N : Nat) (w' : World) : Prop where
  bel : Below N w w'
  c0 : w'.cell? ⟨N + 1 + 1, 0, none⟩ = some (.int .i64 8)
  c1 : w'.cell? ⟨N + 1 + 1, 1, none⟩ = some (.int .i64 8)
  c2 : w'.cell? ⟨N + 1 + 1, 2, none⟩ = some (.slice (some ⟨N, 0, none⟩) 2 2)
  c3 : w'.cell? ⟨N + 1 + 1, 3, none⟩ = some (.slice (some ⟨N + 1, 0, none⟩) 2 2)
  c4 : w'.cell? ⟨N + 1 + 1, 4, none⟩ = some (.slice none 0 0)
  c5 : w'.cell? ⟨N + 1 + 1, 5, none⟩ = some (.slice none 0 0)
  gd : IsD w' ⟨(some ⟨N, 0, none⟩), 2, 2, (some ⟨N + 1, 0, none⟩), 2, 2, none, 0, 0, none, 0, 0⟩ roL
theorem StQR.cells {w w' : World} {N : Nat} (h : StQR w N w') : w'.cell? ⟨N + 1 + 1, 0, none⟩ = some (.int .i64 8) ∧ w'.cell? ⟨N + 1 + 1, 1, none⟩ = some (.int .i64 8) ∧ w'.cell? ⟨N + 1 + 1, 2, none⟩ = some (.slice (some ⟨N, 0, none⟩) 2 2) ∧ w'.cell? ⟨N + 1 + 1, 3, none⟩ = some (.slice (some ⟨N + 1, 0, none⟩) 2 2) ∧ w'.cell? ⟨N + 1 + 1, 4, none⟩ = some (.slice none 0 0) ∧ w'.cell? ⟨N + 1 + 1, 5, none⟩ = some (.slice none 0 0) := ⟨h.c0, h.c1, h.c2, h.c3, h.c4, h.c5⟩
theorem StQR.start (w : World) (N : Nat) (hN : w.heap.size = N) (hT : DTab w) : StQR w N (((w.alloc (.cells #[.int .i64 0, .int .i64 0, .int .i64 2, .int .i64 0, .int .i64 0, .int .i64 5] 118)).alloc (.cells #[.int .i64 0, .int .i64 1, .int .i64 1, .int .i64 0] 179)).alloc (.cells #[.int .i64 8, .int .i64 8, .slice (some ⟨N, 0, none⟩) 2 2, .slice (some ⟨N + 1, 0, none⟩) 2 2, .slice none 0 0, .slice none 0 0] 64)) := by
  obtain ⟨w1, h1⟩ : ∃ w1, w1 = w.alloc (.cells #[.int .i64 0, .int .i64 0, .int .i64 2, .int .i64 0, .int .i64 0, .int .i64 5] 118) := ⟨_, rfl⟩
  obtain ⟨w2, h2⟩ : ∃ w2, w2 = w1.alloc (.cells #[.int .i64 0, .int .i64 1, .int .i64 1, .int .i64 0] 179) := ⟨_, rfl⟩
  obtain ⟨w3, h3⟩ : ∃ w3, w3 = w2.alloc (.cells #[.int .i64 8, .int .i64 8, .slice (some ⟨N, 0, none⟩) 2 2, .slice (some ⟨N + 1, 0, none⟩) 2 2, .slice none 0 0, .slice none 0 0] 64) := ⟨_, rfl⟩
  rw [← h1, ← h2, ← h3]
  have s1 : w1.heap.size = N + 1 := by rw [h1]; simp [hN]
  have s2 : w2.heap.size = N + 1 + 1 := by rw [h2]; simp [s1]
  have b2 : Below w2.heap.size w2 w3 := by rw [h3]; exact below_alloc _
  have b1 : Below w1.heap.size w1 w3 := (by rw [h2]; exact below_alloc _ : Below w1.heap.size w1 w2).trans (b2.mono (by omega))
  have b0 : Below N w w3 := (by rw [h1, ← hN]; exact below_alloc _ : Below N w w1).trans (b1.mono (by omega))
  have t1 : Trips w1 w1.heap.size (some ⟨N, 0, none⟩) roL.parts := by
    have h := Trips.two7 w 118 0 0 2 0 0 5
    rw [← h1, hN] at h
    exact h.more (by omega)
  have t2 : Pairs w2 w2.heap.size (some ⟨N + 1, 0, none⟩) roL.edges := by
    have h := Pairs.two7 w1 179 0 1 1 0
    rw [← h2, s1] at h
    exact h.more (by omega)
  refine ⟨b0, ?_, ?_, ?_, ?_, ?_, ?_, ⟨⟨rfl, rfl, rfl, rfl, (t1.below b1).more b1.size, (t2.below b2).more b2.size, (fun h => absurd h (by decide)), (fun h => absurd h (by decide)), (fun e => by cases e), (fun e => by cases e), (fun _ => ⟨rfl, rfl⟩), (fun _ => ⟨rfl, rfl⟩)⟩, roLFew, hT.via (by rw [hN]; exact b0), Nat.le_refl _, Nat.le_refl _⟩⟩ <;> (rw [h3, World.cell?_alloc_at _ _ _ _ s2.symm]; rfl)
/-- Nothing, lowered. -/
theorem noL {w : World} (hT : Tab64 w) : IsL w none 0 0 none 0 0 none 0 0 [] [] [] :=
  ⟨⟨rfl, rfl, by decide, by decide, (fun h => absurd h (by decide)), (fun h => absurd h (by decide)), (fun _ => ⟨rfl, rfl⟩), (fun _ => ⟨rfl, rfl⟩), hT⟩, rfl, by decide, fun h => absurd h (by decide)⟩
theorem GotLow.boxes {T : Task} {w w' : World} {e : Ending} (h : GotLow T w e w') (hT : Tab64 w) (hX : lowX T = 0 → (lowWv T).length ≤ 400 ∧ (lowEv T).length ≤ 400 ∧ (lowPv T).length ≤ 400) :
    ∃ A c F d R k, e = .returned (.tuple #[.agg #[.slice A (lowWv T).length c, .slice F (lowEv T).length d, .slice R (lowPv T).length k], .int .i64 (lowX T)]) ∧ IsL w' A (lowWv T).length c F (lowEv T).length d R (lowPv T).length k (lowWv T) (lowEv T) (lowPv T) ∧ Below w.heap.size w w' := by
  obtain ⟨vW, vE, vP, rfl, h1, h2, h3, b⟩ := h
  have hl : (lowWv T).length ≤ 400 ∧ (lowEv T).length ≤ 400 ∧ (lowPv T).length ≤ 400 := by
    by_cases h0 : lowX T = 0
    · exact hX h0
    · have hN : ¬ LowOk T := fun h => h0 (lowX_zero.mpr h)
      unfold lowWv lowEv lowPv
      rw [if_neg hN, if_neg hN, if_neg hN]
      decide
  obtain ⟨A, c, F, d, R, k, rfl, rfl, rfl, hL⟩ := own_isL (hT.via b) h1 h2 h3 hl.1 hl.2.1 hl.2.2
  exact ⟨A, c, F, d, R, k, rfl, hL, b⟩
theorem lows_few {T : Task} (h : lowX T = 0) : (lowWv T).length ≤ 400 ∧ (lowEv T).length ≤ 400 ∧ (lowPv T).length ≤ 400 := by
  have hOK := lowX_zero.mp h
  have := low_few hOK.1
  unfold lowWv lowEv lowPv
  rw [if_pos hOK, if_pos hOK, if_pos hOK]
  omega
theorem roLv : lowWv roL = [] ∧ lowEv roL = [] ∧ lowPv roL = [] := by
  have hN : ¬ LowOk roL := fun h => absurd (lowX_zero.mpr h) (by rw [roLX]; decide)
  unfold lowWv lowEv lowPv
  rw [if_neg hN, if_neg hN, if_neg hN]
  exact ⟨rfl, rfl, rfl⟩
/-- Lower, as its callers read it. -/
theorem lower_got (s : Sh) (T : Task) (w : World) (hD : IsD w s T) : Calls Tryz.prog 35 #[s.arg T.period T.deadline] w fun e w' =>
    ∃ A c F d R k, e = .returned (.tuple #[.agg #[.slice A (lowWv T).length c, .slice F (lowEv T).length d, .slice R (lowPv T).length k], .int .i64 (lowX T)]) ∧ IsL w' A (lowWv T).length c F (lowEv T).length d R (lowPv T).length k (lowWv T) (lowEv T) (lowPv T) ∧ Below w.heap.size w w' :=
  (lower_any s T w hD).mono fun _ _ h => h.boxes hD.tab lows_few
theorem ex_got {w w' : World} (h : StQE w w') : Calls Tryz.prog 35 #[.agg #[.int .i64 8, .int .i64 8, .slice (some ⟨w.heap.size, 0, none⟩) 2 2, .slice none 0 0, .slice (some ⟨w.heap.size + 1, 0, none⟩) 1 1, .slice none 0 0]] w' fun e w'' =>
    ∃ A c F d R k, e = .returned (.tuple #[.agg #[.slice A 3 c, .slice F 2 d, .slice R 3 k], .int .i64 0]) ∧ IsL w'' A 3 c F 2 d R 3 k [2, 3, 2] [(1, 2), (0, 2)] [(0, 0), (1, 0), (1, 1)] ∧ Below w'.heap.size w' w'' := by
  have K := lower_got _ _ w' h.gd
  rw [exLWv, exLEv, exLPv, exLX] at K
  exact K
theorem ro_got {w w' : World} {N : Nat} (h : StQR w N w') : Calls Tryz.prog 35 #[.agg #[.int .i64 8, .int .i64 8, .slice (some ⟨N, 0, none⟩) 2 2, .slice (some ⟨N + 1, 0, none⟩) 2 2, .slice none 0 0, .slice none 0 0]] w' fun e w'' =>
    ∃ A c F d R k, e = .returned (.tuple #[.agg #[.slice A 0 c, .slice F 0 d, .slice R 0 k], .int .i64 70]) ∧ Below w'.heap.size w' w'' := by
  have K := lower_got _ _ w' h.gd
  rw [roLv.1, roLv.2.1, roLv.2.2, roLX] at K
  refine K.mono ?_
  rintro e w'' ⟨A, c, F, d, R, k, he, _, b⟩
  exact ⟨A, c, F, d, R, k, he, b⟩
end Go.Proofs.YtfahabphncmbfaaGreatDoor
set_option linter.unusedVariables false
namespace Go.Proofs.YtfahabphncmbfaaGreatDoor
open Go.RowKit

section
variable {A : Option Addr} {n c : Nat} {F : Option Addr} {m d : Nat} {R : Option Addr} {k e : Nat} {W : List Int} {E P : List (Int × Int)} {A' : Option Addr} {n' c' : Nat} {F' : Option Addr} {m' d' : Nat} {R' : Option Addr} {k' e' : Nat} {W' : List Int} {E' P' : List (Int × Int)}
end
end Go.Proofs.YtfahabphncmbfaaGreatDoor
