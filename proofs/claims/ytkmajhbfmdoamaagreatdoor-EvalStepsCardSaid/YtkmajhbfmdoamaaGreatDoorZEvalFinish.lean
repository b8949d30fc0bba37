/- eval.Finish in the seat YtkmajhbfmdoamaaGreatDoor: its contract. No statement is proved here. -/
import Derived.Test.YtkmajhbfmdoamaaGreatDoorZM32
import Derived.Test.YtkmajhbfmdoamaaGreatDoorZEvalReadyC
set_option linter.unusedSimpArgs false
set_option linter.unusedVariables false
namespace Go.Proofs.YtkmajhbfmdoamaaGreatDoor
open Go.RowKit

/-- A call of a function, whatever it leaves. -/
theorem fx_any {P : Program} {o : Oper} {a : Act} {w : World} {K : Act → World → Prop} {Q : Exit → Act → World → Prop} (f : FuncId) (xs : Array Operand) (tys : Array TypeId) (vs : Array Value)
    (ho : o.op = .call { callee := .value (.func f), args := xs, argTypes := tys }) (hxs : xs.map a.eval = vs) (eg : ∀ args w, (callFunc f args).run P w = .ok (.enter f args) w)
    (h : Calls P f vs w fun e w' => ∃ v, e = .returned v ∧ K (a.put o.dst v) w') : o.wp P a w K Q := by
  have hr : (execOp a.eval o).run P w = .ok (.enter f vs) w := by
    have := eg vs w
    simp [execOp, ho, resolve, hxs, invoke, Deferred.ofValue, Act.eval, this, go_sem]
  unfold Oper.wp
  rw [hr, Oper.upon_enter]
  refine h.mono fun e w' ⟨v, he, hv⟩ => ?_
  subst he
  exact hv
/-- What Finish hands back. -/
def GotFin (T : Task) (inp : List Int) (D : List Bool) (V : List Int) (node : Int) (w : World) (e : Ending) (w' : World) : Prop :=
  (∃ A1 n1 c1 F1 m1 d1, e = .returned (.tuple #[.agg #[.slice A1 n1 c1, .slice F1 m1 d1], .int .i64 (finE T D V node)]) ∧ IsM w' A1 n1 c1 F1 m1 d1 (finD T D V node) (finV T inp D V node)) ∧ Below w.heap.size w w'
theorem fin_bad {T : Task} {inp : List Int} {D : List Bool} {V : List Int} {node z : Int} {w w' : World} (h : finE T D V node = z) (hz : z ≠ 0) (hb : Below w.heap.size w w') : GotFin T inp D V node w (.returned (.tuple #[.agg #[.slice none 0 0, .slice none 0 0], .int .i64 z])) w' := by
  refine ⟨⟨none, 0, 0, none, 0, 0, by rw [h], ?_⟩, hb⟩
  unfold finD finV
  rw [if_neg (by rw [h]; exact hz), if_neg (by rw [h]; exact hz)]
  exact noM _
theorem rows_isM {gD gV n m cD cV : Nat} {D : List Bool} {V : List Int} {w : World} (hd : RowC gD 4 (boolsV D) w) (hv : RowC gV 3 (intsV V) w) (hn : D.length = n) (hm : V.length = m) (l1 : n ≤ 400) (l2 : m ≤ 400) : IsM w (some ⟨gD, 0, none⟩) n cD (some ⟨gV, 0, none⟩) m cV D V :=
  ⟨hn, hm, l1, l2, fun _ => ⟨gD, 0, rfl, hd.lt, fun k hk => by rw [Nat.zero_add]; exact hd.cell (boolsV_at hk)⟩, fun _ => ⟨gV, 0, rfl, hv.lt, fun k hk => by rw [Nat.zero_add]; exact hv.cell (intsV_at hk)⟩, fun e => (by cases e), fun e => (by cases e)⟩
/-- What the operations of Finish's copying region have yielded. -/
def FinF (hb base : Nat) (A : Option Addr) (n c : Nat) (F : Option Addr) (m d : Nat) (D : List Bool) (V : List Int) : Nat → Value → World → Prop
  | 0, v, _ => v = .pointer (some ⟨hb + 1, 0, none⟩)
  | 1, v, _ => v = .slice A n c
  | 2, v, w => ∃ A' c', v = .slice A' n c' ∧ OwnZ w base (.slice A' n c') D
  | 3, v, _ => v = .pointer (some ⟨hb + 1, 1, none⟩)
  | 4, v, _ => v = .slice F m d
  | 5, v, w => ∃ A' c', v = .slice A' m c' ∧ OwnI w base (.slice A' m c') V
  | 6, v, w => ∃ A' c' F' d', v = .agg #[.slice A' n c', .slice F' m d'] ∧ OwnZ w base (.slice A' n c') D ∧ OwnI w base (.slice F' m d') V
  | 7, v, w => ∃ g, v = .pointer (some ⟨g, 0, none⟩) ∧ w.heap[g]? = some (.cells #[.slice none 0 0, .slice none 0 0] 31 (0, 0)) ∧ base ≤ g
  | _, _, _ => True
theorem finF_below {hb base : Nat} {A : Option Addr} {n c : Nat} {F : Option Addr} {m d : Nat} {D : List Bool} {V : List Int} : ∀ q v w w', FinF hb base A n c F m d D V q v w → Below w.heap.size w w' → FinF hb base A n c F m d D V q v w'
  | 0, _, _, _, h, _ | 1, _, _, _, h, _ | 3, _, _, _, h, _ | 4, _, _, _, h, _ => h
  | 2, _, _, _, ⟨A', c', h1, h2⟩, hb => ⟨A', c', h1, own_below h2 hb⟩
  | 5, _, _, _, ⟨A', c', h1, h2⟩, hb => ⟨A', c', h1, own_below h2 hb⟩
  | 6, _, _, _, ⟨A', c', F', d', h1, h2, h3⟩, hb => ⟨A', c', F', d', h1, own_below h2 hb, own_below h3 hb⟩
  | 7, _, _, _, ⟨g, h1, h2, h3⟩, hb => ⟨g, h1, by rw [hb.block _ (Array.getElem?_eq_some_iff.1 h2).1]; exact h2, h3⟩
  | _ + 8, _, _, _, _, _ => trivial
/-- What the operations of Finish's writing region have yielded. -/
def FinG (s : Sh) (p q : Int) (A1 : Option Addr) (nw c1 : Nat) (F1 : Option Addr) (nE d1 : Nat) (R1 : Option Addr) (nP e1 : Nat) (Ai : Option Addr) (ni ci : Nat) (inp : List Int) (gD n cD gV m cV : Nat) (node : Int) : Nat → Value → World → Prop
  | 0, v, _ => v = s.arg p q
  | 1, v, _ => v = .agg #[.slice A1 nw c1, .slice F1 nE d1, .slice R1 nP e1]
  | 2, v, _ => v = .slice Ai ni ci
  | 3, v, w => ∃ b k DM, v = .map (some b) ∧ OwnV w b k DM ∧ TellsI DM inp ∧ b ≠ gD ∧ b ≠ gV
  | 4, v, _ => v = .agg #[.slice (some ⟨gD, 0, none⟩) n cD, .slice (some ⟨gV, 0, none⟩) m cV]
  | 5, v, _ => v = .int .i64 node
  | _, _, _ => True
theorem finG_only {s : Sh} {p q : Int} {A1 : Option Addr} {nw c1 : Nat} {F1 : Option Addr} {nE d1 : Nat} {R1 : Option Addr} {nP e1 : Nat} {Ai : Option Addr} {ni ci : Nat} {inp : List Int} {gD n cD gV m cV : Nat} {node : Int} : ∀ k v w w', FinG s p q A1 nw c1 F1 nE d1 R1 nP e1 Ai ni ci inp gD n cD gV m cV node k v w → Only gD gV w w' → FinG s p q A1 nw c1 F1 nE d1 R1 nP e1 Ai ni ci inp gD n cD gV m cV node k v w'
  | 0, _, _, _, h, _ | 1, _, _, _, h, _ | 2, _, _, _, h, _ | 4, _, _, _, h, _ | 5, _, _, _, h, _ => h
  | 3, _, _, _, ⟨b, k, DM, h1, h2, h3, h4, h5⟩, hb => ⟨b, k, DM, h1, h2.same (hb.block _ h2.lt h4 h5), h3, h4, h5⟩
  | _ + 6, _, _, _, _, _ => trivial
section
variable {s : Sh} {T : Task} {A : Option Addr} {n c : Nat} {F : Option Addr} {m d : Nat} {D : List Bool} {V : List Int} {inp : List Int} {Ai : Option Addr} {ni ci : Nat}
set_option maxRecDepth 100000 in
set_option maxHeartbeats 32000000 in
theorem finish_any (w : World) (node : Int) (hD : IsD w s T) (hM : IsM w A n c F m d D V) (hI : Ints w w.heap.size Ai inp) (hi : inp.length = ni) (li : ni ≤ 1000) :
    Calls Tryz.prog 6 #[s.arg T.period T.deadline, .slice Ai ni ci, .agg #[.slice A n c, .slice F m d], .int .i64 node] w (GotFin T inp D V node w) := by
  have HS := Lib.hid (BxMR.start hD hM 31 #[.slice none 0 0, .slice none 0 0])
  have HI := Lib.hid hI
  have HNI := Lib.hid hi
  have HCZ := Lib.hid (fun h : MemOk T D V => chkM_zero.mpr h)
  have HCN := Lib.hid (fun h : ¬ MemOk T D V => fun e => h (chkM_zero.mp e))
  have HFN : Hid (¬ MemOk T D V → finE T D V node = chkM T D V) := Lib.hid fun h => by unfold finE; rw [if_neg h]
  have HFY : Hid (MemOk T D V → finE T D V node = if node < 0 ∨ (n : Int) ≤ node then 81 else if D.getD node.toNat false = true then 82 else if waitB (lowE T) D node.toNat = true then 83 else 0) := Lib.hid fun h => by unfold finE; rw [if_pos h, hM.hn]
  have hn4 := hM.ln
  have hm4 := hM.lm
  have HN := Lib.hid (And.intro hM.hn hM.hm)
  obtain ⟨P, np, pc, E, ne, ec, Fu, nf, fc, R, nr, rc⟩ := s
  have CR := Lib.hid (fun W (h1 : IsD W ⟨P, np, pc, E, ne, ec, Fu, nf, fc, R, nr, rc⟩ T) (h2 : IsM W A n c F m d D V) => eread_any W h1 h2)
  obtain ⟨w0, hw0⟩ : ∃ w0, w0 = ((w.alloc (.cells #[.int .i64 T.period, .int .i64 T.deadline, .slice P np pc, .slice E ne ec, .slice Fu nf fc, .slice R nr rc] 27)).alloc (.cells #[.slice A n c, .slice F m d] 31)).alloc (.cells #[.slice none 0 0, .slice none 0 0] 31) := ⟨_, rfl⟩
  simp only at HS
  rw [← hw0] at HS
  have HW := Lib.hid hw0
  obtain ⟨r, hr⟩ : ∃ r, r = chkM T D V := ⟨_, rfl⟩
  obtain ⟨nw, hnw⟩ : ∃ n, (lowW T).length = n := ⟨_, rfl⟩
  obtain ⟨nE, hnE⟩ : ∃ n, (lowE T).length = n := ⟨_, rfl⟩
  obtain ⟨nP, hnP⟩ : ∃ n, (lowP T).length = n := ⟨_, rfl⟩
  unfold GotRead at CR
  rw [hnw, hnE, hnP] at CR
  rw [← hr] at CR HCZ HCN HFN
  have HNP := Lib.hid hnP
  clear hD hM hI hi hw0 hr hnw hnE hnP
  go_enter Tryz.func6, Tryz.ntmps6
  go_wp2_with fail
  rw [← HW.out]
  clear HW
  refine (CR.out _ HS.out.b.isd HS.out.b.mem).mono ?_
  rintro e w1 ⟨b1, ⟨hok, A1, c1, F1, d1, R1, e1, g, rfl, hIL, hg, hrow⟩ | ⟨hno, rfl⟩⟩
  · have hr0 := HCZ.out hok
    subst hr0
    have HFE := Lib.hid (HFY.out hok)
    obtain ⟨w2, hw2⟩ : ∃ w2, w2 = w1.alloc (.cells #[.slice A1 nw c1, .slice F1 nE d1, .slice R1 nP e1] 60) := ⟨_, rfl⟩
    have hb2 : Below w1.heap.size w1 w2 := by rw [hw2]; exact below_alloc _
    have hrl : w2.heap[w1.heap.size]? = some (.cells #[.slice A1 nw c1, .slice F1 nE d1, .slice R1 nP e1] 60 (0, 0)) := by rw [hw2]; exact heap_alloc_new w1 _
    have S2 := (HS.out.next b1).next hb2
    have HS2 := Lib.hid S2
    have HROW := Lib.hid (hrow.below hb2 hrow.lt)
    have HIL := Lib.hid (hIL.below hb2)
    have HRL := Lib.hid hrl
    have HLT : Hid (w.heap.size + 1 + 1 < w1.heap.size ∧ w1.heap.size < w2.heap.size) := Lib.hid ⟨(HS.out.next b1).lt, by rw [hw2]; simp⟩
    have HW2 := Lib.hid hw2
    have HI2 := Lib.hid ((HI.out.below S2.b.bel).more S2.b.bel.size)
    have HOK := Lib.hid hok
    have hr2 := S2.r
    have q0 := S2.b.m0
    have y0 := cell_of_row w2 (w.heap.size + 1 + 1) 0 _ _ _ hr2
    have y1 := cell_of_row w2 (w.heap.size + 1 + 1) 1 _ _ _ hr2
    simp at y0 y1
    have z0 := frozen_of_row w2 (w.heap.size + 1 + 1) 0 _ _ hr2
    have z1 := frozen_of_row w2 (w.heap.size + 1 + 1) 1 _ _ hr2
    have hend := load_mem (row_set2 hr2 (.slice none 0 0) (.slice none 0 0))
    have HEND := Lib.hid hend
    have HBB := Lib.hid (S2.b.bel.trans (below_set2 (w := w2) (B := w.heap.size) (g := w.heap.size + 1 + 1) (by omega) (.slice none 0 0) (.slice none 0 0)))
    rw [hw2] at q0 y0 y1 z0 z1
    clear b1 hok HCZ HCN HFN HFY CR HS hb2 hrow hg hIL hrl hr2 hend S2 hw2 HI
    by_cases h1 : node < 0
    · have HF1 : Hid (finE T D V node = 81) := Lib.hid (by rw [HFE.out, if_pos (.inl h1)])
      clear HFE
      go_wp2
      rw [← HW2.out]
      refine bodyPost_ret (v := .tuple #[.agg #[.slice none 0 0, .slice none 0 0], .int .i64 81]) ?_ rfl (fin_bad HF1.out (by decide) HBB.out)
      rw [results_row_tmp1 (p := 8) (u := 9) rfl _ _ (w.heap.size + 1 + 1) _ rfl HEND.out]
      rfl
    · obtain ⟨x, rfl⟩ : ∃ x : Nat, node = x := ⟨node.toNat, by omega⟩
      rw [Int.toNat_natCast] at HFE
      have h1d : decide ((x : Int) < 0) = false := decide_eq_false h1
      by_cases h2 : n ≤ x
      · have HF1 : Hid (finE T D V x = 81) := Lib.hid (by rw [HFE.out, if_pos (.inr (by omega))])
        have h2d : decide ((n : Int) ≤ (x : Int)) = true := decide_eq_true (by omega)
        have h2e : decide (n ≤ x) = true := decide_eq_true h2
        clear HFE
        go_wp2
        rw [← HW2.out]
        refine bodyPost_ret (v := .tuple #[.agg #[.slice none 0 0, .slice none 0 0], .int .i64 81]) ?_ rfl (fin_bad HF1.out (by decide) HBB.out)
        rw [results_row_tmp1 (p := 8) (u := 9) rfl _ _ (w.heap.size + 1 + 1) _ rfl HEND.out]
        rfl
      · have h2d : decide ((n : Int) ≤ (x : Int)) = false := decide_eq_false (by omega)
        have h2e : decide (n ≤ x) = false := decide_eq_false h2
        have hx : x < n := by omega
        rw [if_neg (by omega)] at HFE
        obtain ⟨bd, od, z, hAe, hbd, hzd, hcd⟩ := HS2.out.b.mem.bools.at2 (k := x) (by rw [HN.out.1]; exact hx)
        have HZ : Hid (D.getD x false = z) := Lib.hid (by rw [List.getD_eq_getElem?_getD, hzd]; rfl)
        rw [hAe] at q0
        rw [HW2.out] at hcd
        have q2 := HROW.out.cell (boolsV_at (l := waitL (lowE T) D n) (j := x) (by rw [waitL_len]; exact hx))
        rw [waitL_at hx, HW2.out] at q2
        obtain ⟨y, hy⟩ : ∃ y, waitB (lowE T) D x = y := ⟨_, rfl⟩
        rw [hy] at q2
        have HY := Lib.hid hy
        clear hzd hy hbd
        cases z with
        | true =>
          have HF1 : Hid (finE T D V x = 82) := Lib.hid (by rw [HFE.out, if_pos HZ.out])
          clear HFE
          go_wp2
          rw [← HW2.out]
          refine bodyPost_ret (v := .tuple #[.agg #[.slice none 0 0, .slice none 0 0], .int .i64 82]) ?_ rfl (fin_bad HF1.out (by decide) HBB.out)
          rw [results_row_tmp1 (p := 8) (u := 9) rfl _ _ (w.heap.size + 1 + 1) _ rfl HEND.out]
          rfl
        | false =>
          rw [if_neg (by rw [HZ.out]; decide)] at HFE
          cases y with
          | true =>
            have HF1 : Hid (finE T D V x = 83) := Lib.hid (by rw [HFE.out, if_pos HY.out])
            clear HFE
            go_wp2
            rw [← HW2.out]
            refine bodyPost_ret (v := .tuple #[.agg #[.slice none 0 0, .slice none 0 0], .int .i64 83]) ?_ rfl (fin_bad HF1.out (by decide) HBB.out)
            rw [results_row_tmp1 (p := 8) (u := 9) rfl _ _ (w.heap.size + 1 + 1) _ rfl HEND.out]
            rfl
          | false =>
            have HF1 : Hid (finE T D V x = 0) := Lib.hid (by rw [HFE.out, if_neg (by rw [HY.out]; decide)])
            clear HFE
            go_wp2_with fail
            rw [← HW2.out]
            clear HW2 q0 q2 y0 y1 z0 z1 hcd HEND HBB
            refine wp_region_chain2 8 [50, 51, 52, 53, 54, 55, 56, 13] [2, 5] (by kernel_rfl) (by kernel_rfl) (by intro d hd; simp at hd ⊢; omega) (by simp)
              (fun _ y => BxMR w ⟨P, np, pc, E, ne, ec, Fu, nf, fc, R, nr, rc⟩ T A n c F m d D V 31 #[.slice none 0 0, .slice none 0 0] y ∧ Below w2.heap.size w2 y) (fun y z => Below y.heap.size y z) (FinF w.heap.size w2.heap.size A n c F m d D V)
              (fun _ _ h => h) (fun j y z h hb => ⟨h.1.next hb, h.2.trans (hb.mono h.2.size)⟩) finF_below ⟨HS2.out.next (Below.refl _ _).drew, (Below.refl _ _).drew⟩ ?hstep ?hcall (fun h => absurd h (by decide)) ?hlast
            case hstep =>
              intro q o hq hqc ho ρ j y hJ hA hd
              have t6 : ρ (.tmp 6) = .pointer (some ⟨w.heap.size + 1, 0, none⟩) := hA.tmp 6 (by decide)
              have hgt := hJ.2.size
              match q, hq, hqc, ho with
              | 0, _, _, ho =>
                have hoo := Option.some.inj ho
                subst hoo
                exact ⟨.pointer (some ⟨w.heap.size + 1, 0, none⟩), y, by simp [execOp, t6, go_sem], rfl, Below.refl _ _⟩
              | 1, _, _, ho =>
                have hoo := Option.some.inj ho
                subst hoo
                have f : ρ (.tmp 50) = .pointer (some ⟨w.heap.size + 1, 0, none⟩) := hd ⟨0, .data⟩ (by simp) (by rfl)
                have c1 := hJ.1.b.m0
                exact ⟨.slice A n c, y, by simp [execOp, f, c1, go_sem], rfl, Below.refl _ _⟩
              | 2, _, hqc, _ => exact absurd (by decide) hqc
              | 3, _, _, ho =>
                have hoo := Option.some.inj ho
                subst hoo
                exact ⟨.pointer (some ⟨w.heap.size + 1, 1, none⟩), y, by simp [execOp, t6, go_sem], rfl, Below.refl _ _⟩
              | 4, _, _, ho =>
                have hoo := Option.some.inj ho
                subst hoo
                have f : ρ (.tmp 53) = .pointer (some ⟨w.heap.size + 1, 1, none⟩) := hd ⟨3, .data⟩ (by simp) (by rfl)
                have c1 := hJ.1.b.m1
                exact ⟨.slice F m d, y, by simp [execOp, f, c1, go_sem], rfl, Below.refl _ _⟩
              | 5, _, hqc, _ => exact absurd (by decide) hqc
              | 6, _, _, ho =>
                have hoo := Option.some.inj ho
                subst hoo
                obtain ⟨A', c', f2, o2⟩ := hd ⟨2, .data⟩ (by simp) (by rfl)
                obtain ⟨F', d', f5, o5⟩ := hd ⟨5, .data⟩ (by simp) (by rfl)
                have f2' : ρ (.tmp 52) = .slice A' n c' := f2
                have f5' : ρ (.tmp 55) = .slice F' m d' := f5
                exact ⟨.agg #[.slice A' n c', .slice F' m d'], y, by simp [execOp, f2', f5', go_sem], ⟨_, _, _, _, rfl, o2, o5⟩, Below.refl _ _⟩
              | 7, _, _, ho =>
                have hoo := Option.some.inj ho
                subst hoo
                exact ⟨.pointer (some ⟨y.heap.size, 0, none⟩), y.alloc (.cells #[.slice none 0 0, .slice none 0 0] 31), by simp [execOp, go_sem], ⟨_, rfl, heap_alloc_new y _, hgt⟩, below_alloc _⟩
              | q + 8, hk, _, _ => omega
            case hcall =>
              intro i o hi ho a y hJ hA hd K hK
              have hgt := hJ.2.size
              match i, hi, ho with
              | 0, _, ho =>
                have hoo := Option.some.inj ho
                subst hoo
                have f1 : a.eval (.tmp 51) = .slice A n c := hd ⟨1, .data⟩ (by simp) (by rfl)
                refine fx_call (k := 2) (Φ := FinF w.heap.size w2.heap.size A n c F m d D V) (fun v w' hv hb => hK v w' hv hb ⟨hJ.1.next hb, hJ.2.trans (hb.mono hJ.2.size)⟩ (fun e => by cases e)) rfl 22 _ _ #[.slice A n c] rfl (by simp only [List.map_toArray, List.map_cons, List.map_nil, f1]) (eg_of Tryz.func22 (by kernel_rfl) rfl) ?_
                refine (clone_z y A n c D HN.out.1 (by omega) hJ.1.b.mem.bools hJ.1.b.mem.hA).mono ?_
                rintro e y2 ⟨A', c', rfl, ho2, hb⟩
                rw [HN.out.1] at ho2
                rw [HN.out.1]
                exact ⟨_, rfl, ⟨A', c', rfl, own_less ho2 hgt⟩, hb⟩
              | 1, _, ho =>
                have hoo := Option.some.inj ho
                subst hoo
                have f1 : a.eval (.tmp 54) = .slice F m d := hd ⟨4, .data⟩ (by simp) (by rfl)
                refine fx_call (k := 5) (Φ := FinF w.heap.size w2.heap.size A n c F m d D V) (fun v w' hv hb => hK v w' hv hb ⟨hJ.1.next hb, hJ.2.trans (hb.mono hJ.2.size)⟩ (fun e => by cases e)) rfl 23 _ _ #[.slice F m d] rfl (by simp only [List.map_toArray, List.map_cons, List.map_nil, f1]) (eg_of Tryz.func23 (by kernel_rfl) rfl) ?_
                refine (clone_i y F m d V HN.out.2 (by omega) hJ.1.b.mem.ints hJ.1.b.mem.hF).mono ?_
                rintro e y2 ⟨A', c', rfl, ho2, hb⟩
                rw [HN.out.2] at ho2
                rw [HN.out.2]
                exact ⟨_, rfl, ⟨A', c', rfl, own_less ho2 hgt⟩, hb⟩
            case hlast =>
              intro o ho vals y hJ hF
              have hoo := Option.some.inj ho
              subst hoo
              obtain ⟨A', c', F', d', q6, o2, o5⟩ : FinF w.heap.size w2.heap.size A n c F m d D V 6 (vals 56) y := hF 6 (by decide)
              obtain ⟨gg, q7, hgg, hgl⟩ : FinF w.heap.size w2.heap.size A n c F m d D V 7 (vals 13) y := hF 7 (by decide)
              refine ox_store2 (g := gg) (u := .slice A' n c') (v := .slice F' m d') rfl rfl q7 q6 ⟨_, _, _, _, _, _, rfl, rfl⟩ hgg ?_
              have hoth : ∀ k, k ≠ gg → ((y.setCell ⟨gg, 0, none⟩ (.slice A' n c')).setCell ⟨gg, 1, none⟩ (.slice F' m d')).heap[k]? = y.heap[k]? := fun k hk => by rw [heap_setCell_other _ _ _ _ hk, heap_setCell_other _ _ _ _ hk]
              have o2' := other_own o2 hgg (by decide) hoth
              have o5' := other_own o5 hgg (by decide) hoth
              have hrow4 := row_set2 hgg (.slice A' n c') (.slice F' m d')
              have hm0 : 0 < m := by
                have h1 := HOK.out.hV
                have h2 := HOK.out.low.1.few
                rw [HN.out.2] at h1
                unfold ManyT at h2
                omega
              obtain ⟨ad, rfl⟩ : ∃ ad, A' = some ad := by
                cases A' with
                | some ad => exact ⟨ad, rfl⟩
                | none =>
                  rcases o2.2 with ⟨e1, _⟩ | ⟨g, cap, cur, e1, _⟩
                  · injection e1 with _ e2 _
                    omega
                  · injection e1 with e1 _ _
                    cases e1
              obtain ⟨av, rfl⟩ : ∃ ad, F' = some ad := by
                cases F' with
                | some ad => exact ⟨ad, rfl⟩
                | none =>
                  rcases o5.2 with ⟨e1, _⟩ | ⟨g, cap, cur, e1, _⟩
                  · injection e1 with _ e2 _
                    omega
                  · injection e1 with e1 _ _
                    cases e1
              obtain ⟨gD, rfl, hDl, hDr⟩ := own_rowC o2'
              obtain ⟨gV, rfl, hVl, hVr⟩ := own_rowC o5'
              have hb4 : Below w2.heap.size w2 ((y.setCell ⟨gg, 0, none⟩ (.slice (some ⟨gD, 0, none⟩) n c')).setCell ⟨gg, 1, none⟩ (.slice (some ⟨gV, 0, none⟩) m d')) := (hJ.2.setCell hgl _).setCell hgl _
              obtain ⟨w4, hw4⟩ : ∃ w4, w4 = ((y.setCell ⟨gg, 0, none⟩ (.slice (some ⟨gD, 0, none⟩) n c')).setCell ⟨gg, 1, none⟩ (.slice (some ⟨gV, 0, none⟩) m d')) := ⟨_, rfl⟩
              rw [← hw4] at hDr hVr hrow4 hb4
              have hnD : gg ≠ gD := fun e => by
                subst e
                obtain ⟨tl, h⟩ := hDr
                rw [hrow4] at h
                injection h with h
                injection h with _ h _
                exact absurd h (by decide)
              have hnV : gg ≠ gV := fun e => by
                subst e
                obtain ⟨tl, h⟩ := hVr
                rw [hrow4] at h
                injection h with h
                injection h with _ h _
                exact absurd h (by decide)
              have HST : Hid (StM w2 gD gV D V w4) := Lib.hid ⟨hb4, hDl, hVl, hDr, hVr⟩
              have HG := Lib.hid (And.intro hrow4 (And.intro hnD hnV))
              have HW4 := Lib.hid hw4
              clear hF hJ o2 o5 o2' o5' hgg hrow4 hb4 hDr hVr hnD hnV hw4 hoth hgl hm0
              simp only [fillA, fillL, List.contains_cons, List.contains_nil, Nat.reduceBEq, Bool.or_false, Bool.or_true, cond_true, cond_false, Nat.zero_add, Nat.reduceAdd]
              rw [q7, q6]
              clear q6 q7
              go_wp2_with fail
              rw [← HW4.out]
              clear HW4
              refine wp_region_chain2 7 [57, 58, 59, 60, 61, 62, 63] [3, 6] (by kernel_rfl) (by kernel_rfl) (by intro d hd; simp at hd ⊢; omega) (by simp)
                (fun j y => Only gD gV w4 y ∧ StM w2 gD gV (if j < 2 then D else D.set x true) (if j < 2 then V else settleV T inp V x) y) (Only gD gV) (FinG ⟨P, np, pc, E, ne, ec, Fu, nf, fc, R, nr, rc⟩ T.period T.deadline A1 nw c1 F1 nE d1 R1 nP e1 Ai ni ci inp gD n c' gV m d' (x : Int))
                (fun y z h => (Only.refl gD gV y).more h) (fun j y z h hb => ⟨h.1.more hb, h.2.next hb⟩) finG_only ⟨(Only.refl gD gV w4).more (Below.refl _ _).drew, HST.out.next (Below.refl _ _).drew⟩ ?hstep2 ?hcall2 ?hend2 (fun o ho => by cases ho)
              case hstep2 =>
                intro q o hq hqc ho ρ j z hJ hA hd
                have hbz := hJ.2.bel
                match q, hq, hqc, ho with
                | 0, _, _, ho =>
                  have hoo := Option.some.inj ho
                  subst hoo
                  exact ⟨_, z, ld_desc rfl (hA.tmp 4 (by decide)) (HS2.out.b.cd.next hbz), rfl, Below.refl _ _⟩
                | 1, _, _, ho =>
                  have hoo := Option.some.inj ho
                  subst hoo
                  have hr := (hbz.block _ HLT.out.2).trans HRL.out
                  have c0 := cell_of_row z _ 0 _ _ _ hr
                  have k1 := cell_of_row z _ 1 _ _ _ hr
                  have k2 := cell_of_row z _ 2 _ _ _ hr
                  simp at c0 k1 k2
                  exact ⟨.agg #[.slice A1 nw c1, .slice F1 nE d1, .slice R1 nP e1], z, by have h := hA.tmp 10 (by decide); simp [execOp, h, c0, k1, k2, go_sem], rfl, Below.refl _ _⟩
                | 2, _, _, ho =>
                  have hoo := Option.some.inj ho
                  subst hoo
                  exact ⟨.slice Ai ni ci, z, by have h := hA.tmp 1 (by decide); simp [execOp, h, go_sem], rfl, Below.refl _ _⟩
                | 3, _, hqc, _ => exact absurd (by decide) hqc
                | 4, _, _, ho =>
                  have hoo := Option.some.inj ho
                  subst hoo
                  have hr := (hJ.1.block gg (Array.getElem?_eq_some_iff.1 HG.out.1).1 HG.out.2.1 HG.out.2.2).trans HG.out.1
                  have c0 := cell_of_row z _ 0 _ _ _ hr
                  have k1 := cell_of_row z _ 1 _ _ _ hr
                  simp at c0 k1
                  exact ⟨.agg #[.slice (some ⟨gD, 0, none⟩) n c', .slice (some ⟨gV, 0, none⟩) m d'], z, by have h := hA.tmp 13 (by decide); simp [execOp, h, c0, k1, go_sem], rfl, Below.refl _ _⟩
                | 5, _, _, ho =>
                  have hoo := Option.some.inj ho
                  subst hoo
                  exact ⟨.int .i64 (x : Int), z, by have h := hA.tmp 3 (by decide); simp [execOp, h, go_sem], rfl, Below.refl _ _⟩
                | 6, _, hqc, _ => exact absurd (by decide) hqc
                | q + 7, hk, _, _ => omega
              case hcall2 =>
                intro i o hi ho a z hJ hA hd K hK
                have hbz := hJ.2.bel
                match i, hi, ho with
                | 0, _, ho =>
                  have hoo := Option.some.inj ho
                  subst hoo
                  have f1 : a.eval (.tmp 59) = .slice Ai ni ci := hd ⟨2, .data⟩ (by simp) (by rfl)
                  refine fx_any 25 _ _ #[.slice Ai ni ci] rfl (by simp only [List.map_toArray, List.map_cons, List.map_nil, f1]) (eg_of Tryz.func25 (by kernel_rfl) rfl) ?_
                  refine (places_any Ai ni ci inp z HNI.out li ((HI2.out.below hbz).more hbz.size)).mono ?_
                  rintro e z2 ⟨b, k, DM, rfl, hbl, h3, h4, hb⟩
                  have l1 := hJ.2.rD.lt
                  have l2 := hJ.2.rV.lt
                  exact ⟨_, rfl, hK _ z2 ⟨b, k, DM, rfl, h3, h4, by omega, by omega⟩ ((Only.refl gD gV z).more hb) ⟨hJ.1.more hb, hJ.2.next hb⟩ (fun e => by cases e)⟩
                | 1, _, ho =>
                  have hoo := Option.some.inj ho
                  subst hoo
                  have f0 : a.eval (.tmp 57) = Sh.arg ⟨P, np, pc, E, ne, ec, Fu, nf, fc, R, nr, rc⟩ T.period T.deadline := hd ⟨0, .data⟩ (by simp) (by rfl)
                  have f1 : a.eval (.tmp 58) = .agg #[.slice A1 nw c1, .slice F1 nE d1, .slice R1 nP e1] := hd ⟨1, .data⟩ (by simp) (by rfl)
                  obtain ⟨b, k, DM, f3', h3, h4, _, _⟩ := hd ⟨3, .data⟩ (by simp) (by rfl)
                  have f3 : a.eval (.tmp 60) = .map (some b) := f3'
                  have f4 : a.eval (.tmp 61) = .agg #[.slice (some ⟨gD, 0, none⟩) n c', .slice (some ⟨gV, 0, none⟩) m d'] := hd ⟨4, .data⟩ (by simp) (by rfl)
                  have f5 : a.eval (.tmp 62) = .int .i64 (x : Int) := hd ⟨5, .data⟩ (by simp) (by rfl)
                  refine fx_any 24 _ _ #[Sh.arg ⟨P, np, pc, E, ne, ec, Fu, nf, fc, R, nr, rc⟩ T.period T.deadline, .agg #[.slice A1 nw c1, .slice F1 nE d1, .slice R1 nP e1], .map (some b), .agg #[.slice (some ⟨gD, 0, none⟩) n c', .slice (some ⟨gV, 0, none⟩) m d'], .int .i64 (x : Int)] rfl (by simp only [List.map_toArray, List.map_cons, List.map_nil, f0, f1, f3, f4, f5]) (eg_of Tryz.func24 (by kernel_rfl) rfl) ?_
                  refine (settle_any (s := ⟨P, np, pc, E, ne, ec, Fu, nf, fc, R, nr, rc⟩) (T := T) (inp := inp) (node := x) z HOK.out.low HS2.out.b.isd HIL.out hJ.2 h3 h4 HN.out.1 (by rw [← HN.out.1]; exact HOK.out.hD) HN.out.2 (by rw [← HN.out.2]; exact HOK.out.hV) hx).mono ?_
                  rintro e z2 ⟨rfl, h5, h6⟩
                  exact ⟨_, rfl, hK _ z2 trivial h6 ⟨hJ.1.trans h6, h5⟩ (fun e => by cases e)⟩
              case hend2 =>
                intro _ vals z hJ hF
                have hST : StM w2 gD gV (D.set x true) (settleV T inp V x) z := hJ.2
                have hlt3 : w.heap.size + 1 + 1 < w2.heap.size := Nat.lt_trans HLT.out.1 HLT.out.2
                have hrg := (hJ.1.block gg (Array.getElem?_eq_some_iff.1 HG.out.1).1 HG.out.2.1 HG.out.2.2).trans HG.out.1
                have hrr := (hST.bel.block (w.heap.size + 1 + 1) (by omega)).trans HS2.out.r
                have c0 := cell_of_row z _ 0 _ _ _ hrg
                have k1 := cell_of_row z _ 1 _ _ _ hrg
                have y0 := cell_of_row z _ 0 _ _ _ hrr
                have y1 := cell_of_row z _ 1 _ _ _ hrr
                have z0 := frozen_of_row z _ 0 _ _ hrr
                have z1 := frozen_of_row z _ 1 _ _ hrr
                simp at c0 k1 y0 y1
                have HSE := Lib.hid hST
                have HRR := Lib.hid hrr
                clear hF hJ hST hrg hrr
                simp only [fillA, fillL, List.contains_cons, List.contains_nil, Nat.reduceBEq, Bool.or_false, Bool.or_true, cond_true, cond_false, Nat.zero_add, Nat.reduceAdd]
                go_wp2
                have hend := load_mem (row_set2 HRR.out (.slice (some ⟨gD, 0, none⟩) n c') (.slice (some ⟨gV, 0, none⟩) m d'))
                have hlD := HSE.out.leD
                have hlV := HSE.out.leV
                have hok2 : ∀ k, k ≠ w.heap.size + 1 + 1 → ((z.setCell ⟨w.heap.size + 1 + 1, 0, none⟩ (.slice (some ⟨gD, 0, none⟩) n c')).setCell ⟨w.heap.size + 1 + 1, 1, none⟩ (.slice (some ⟨gV, 0, none⟩) m d')).heap[k]? = z.heap[k]? := fun k hk => by rw [heap_setCell_other _ _ _ _ hk, heap_setCell_other _ _ _ _ hk]
                refine bodyPost_ret (v := .tuple #[.agg #[.slice (some ⟨gD, 0, none⟩) n c', .slice (some ⟨gV, 0, none⟩) m d'], .int .i64 0]) ?_ rfl ⟨⟨_, _, _, _, _, _, by rw [HF1.out], ?_⟩, ?_⟩
                · rw [results_row_tmp1 (p := 8) (u := 9) rfl _ _ (w.heap.size + 1 + 1) _ rfl hend]
                  rfl
                · unfold finD finV
                  rw [if_pos HF1.out, if_pos HF1.out, Int.toNat_natCast]
                  exact rows_isM (HSE.out.rD.same (hok2 _ (by omega))) (HSE.out.rV.same (hok2 _ (by omega))) (by rw [List.length_set]; exact HN.out.1) (by rw [settleV_len]; exact HN.out.2) hn4 hm4
                · exact (HS2.out.b.bel.trans (HSE.out.bel.mono HS2.out.b.bel.size)).trans (below_set2 (by omega) _ _)
  · have hr0 := HCN.out hno
    have HFE := Lib.hid (HFN.out hno)
    have S1 := HS.out.next b1
    have hr2 := S1.r
    have hlt := S1.lt
    have HS1 := Lib.hid S1
    have y0 := cell_of_row w1 (w.heap.size + 1 + 1) 0 _ _ _ hr2
    have y1 := cell_of_row w1 (w.heap.size + 1 + 1) 1 _ _ _ hr2
    simp at y0 y1
    have z0 := frozen_of_row w1 (w.heap.size + 1 + 1) 0 _ _ hr2
    have z1 := frozen_of_row w1 (w.heap.size + 1 + 1) 1 _ _ hr2
    have hb : (r != 0) = true := bne_iff_ne.mpr hr0
    have HR0 := Lib.hid hr0
    clear b1 hno HCZ HCN HFN HFY CR HS hr0 hr2 S1
    go_wp2
    have hend := load_mem (row_end2 HS1.out.r (.slice none 0 0) (.slice none 0 0) (.cells #[.slice none 0 0, .slice none 0 0, .slice none 0 0] 60))
    refine bodyPost_ret (v := .tuple #[.agg #[.slice none 0 0, .slice none 0 0], .int .i64 r]) ?_ rfl (fin_bad HFE.out HR0.out ((HS1.out.b.bel.trans (below_set2 (by omega) _ _)).alloc (by rw [size_set2]; omega) _))
    rw [results_row_tmp1 (p := 8) (u := 9) rfl _ _ (w.heap.size + 1 + 1) _ rfl hend]
    rfl
end
end Go.Proofs.YtkmajhbfmdoamaaGreatDoor
