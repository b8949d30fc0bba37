/- The contract of trefoilref05.Check in the seat YtkmajhbfmdoamaaGreatDoor (printed by desc/mk_check.py). No statement is proved here. -/
import Derived.Test.YtkmajhbfmdoamaaGreatDoorZM2
set_option linter.unusedSimpArgs false
set_option linter.unusedVariables false
namespace Go.Proofs.YtkmajhbfmdoamaaGreatDoor
open Go.RowKit

/-- A task as an argument. -/
@[reducible] def Sh.arg (s : Sh) (p q : Int) : Value := .agg #[.int .i64 p, .int .i64 q, .slice s.P s.np s.pc, .slice s.E s.ne s.ec, .slice s.F s.nf s.fc, .slice s.R s.nr s.rc]
def ManyT (T : Task) : Prop := T.parts.length < 1 ∨ 16 < T.parts.length ∨ 48 < T.edges.length ∨ 16 < T.futures.length ∨ 4 < T.bars.length
open Classical in
/-- What is said of a task. -/
noncomputable def chkT (T : Task) : Int :=
  if ManyT T then 50 else if timeE T.period T.deadline = false then 51 else if ¬ partsOk T.parts then 52 else if ¬ EdgesOk T.parts.length T.edges then 53 else if ¬ FutsOk T.parts T.futures then 54 else if ¬ BarsOk T.parts.length T.bars then 55 else 0
/-- It may be. -/
structure MayT (T : Task) : Prop where
  few : ¬ ManyT T
  time : timeE T.period T.deadline = true
  parts : partsOk T.parts
  edges : EdgesOk T.parts.length T.edges
  futures : FutsOk T.parts T.futures
  bars : BarsOk T.parts.length T.bars
theorem chkT_zero {T : Task} : chkT T = 0 ↔ MayT T := by
  unfold chkT
  constructor
  · intro h
    split at h
    · cases h
    · rename_i h0
      split at h
      · cases h
      · rename_i h1
        split at h
        · cases h
        · rename_i h2
          split at h
          · cases h
          · rename_i h3
            split at h
            · cases h
            · rename_i h4
              split at h
              · cases h
              · rename_i h5
                exact ⟨h0, by simpa using h1, Classical.not_not.mp h2, Classical.not_not.mp h3, Classical.not_not.mp h4, Classical.not_not.mp h5⟩
  · rintro ⟨h0, h1, h2, h3, h4, h5⟩
    rw [if_neg h0, if_neg (by rw [h1]; exact fun k => Bool.noConfusion k), if_neg (fun k => k h2), if_neg (fun k => k h3), if_neg (fun k => k h4), if_neg (fun k => k h5)]
/-- Sizes that the reference's functions are held to. -/
structure FewT (T : Task) : Prop where
  np : T.parts.length ≤ 400
  ne : T.edges.length ≤ 400
  nf : T.futures.length ≤ 400
  nr : T.bars.length ≤ 400
  bars : ∀ b ∈ T.bars, b.1.length ≤ 400 ∧ b.2.length ≤ 400
/-- A task lies in its box, and as it came. -/
structure BxT (w : World) (p q : Int) (P : Option Addr) (np pc : Nat) (E : Option Addr) (ne ec : Nat) (F : Option Addr) (nf fc : Nat) (R : Option Addr) (nr rc : Nat) (T : Task) (w' : World) : Prop where
  b : BxD w p q P np pc E ne ec F nf fc R nr rc w'
  t : IsT w' w'.heap.size ⟨P, np, pc, E, ne, ec, F, nf, fc, R, nr, rc⟩ T
section
variable {P : Option Addr} {np pc : Nat} {E : Option Addr} {ne ec : Nat} {F : Option Addr} {nf fc : Nat} {R : Option Addr} {nr rc : Nat} {p q : Int} {T : Task}
theorem BxT.next {w w1 w2 : World} (h : BxT w p q P np pc E ne ec F nf fc R nr rc T w1) (hb : Below w1.heap.size w1 w2) : BxT w p q P np pc E ne ec F nf fc R nr rc T w2 := ⟨h.b.next hb, (h.t.below hb).more hb.size⟩
theorem BxT.start {w : World} (h : IsT w w.heap.size ⟨P, np, pc, E, ne, ec, F, nf, fc, R, nr, rc⟩ T) (p q : Int) : BxT w p q P np pc E ne ec F nf fc R nr rc T (w.alloc (.cells #[.int .i64 p, .int .i64 q, .slice P np pc, .slice E ne ec, .slice F nf fc, .slice R nr rc] 27)) :=
  ⟨BxD.start w p q P np pc E ne ec F nf fc R nr rc, (h.below (below_alloc _)).more (by simp)⟩
end
set_option maxRecDepth 100000 in
set_option maxHeartbeats 8000000 in
theorem dcheck_any (s : Sh) (T : Task) (w : World) (hF : FewT T) (hT : IsT w w.heap.size s T) :
    Calls Tryz.prog 47 #[s.arg T.period T.deadline] w fun e w' => e = .returned (.int .i64 (chkT T)) ∧ Below w.heap.size w w' := by
  obtain ⟨P, np, pc, E, ne, ec, F, nf, fc, R, nr, rc⟩ := s
  obtain ⟨p, q, ps, es, fs, bs⟩ := T
  have B0 := Lib.hid (BxT.start hT p q)
  have HT := Lib.hid hT
  have hp := hT.hp
  have he := hT.he
  have hf := hT.hf
  have hr := hT.hr
  have hFp := hF.np
  have hFe := hF.ne
  have hFf := hF.nf
  have hFr := hF.nr
  simp only at hp he hf hr hFp hFe hFf hFr
  have HFB := Lib.hid hF.bars
  have HP := Lib.hid hp
  have HE := Lib.hid he
  have HFL := Lib.hid hf
  have HRL := Lib.hid hr
  rw [hp] at hFp
  rw [he] at hFe
  rw [hf] at hFf
  rw [hr] at hFr
  simp only [Sh.arg]
  have HMANY := Lib.hid (show ManyT ⟨p, q, ps, es, fs, bs⟩ ↔ (np < 1 ∨ 16 < np ∨ 48 < ne ∨ 16 < nf ∨ 4 < nr) by unfold ManyT; simp only; rw [hp, he, hf, hr])
  have C1 := Lib.hid (fun W' => dtime_any (P := P) (np := np) (pc := pc) (E := E) (ne := ne) (ec := ec) (F := F) (nf := nf) (fc := fc) (R := R) (nr := nr) (rc := rc) (p := p) (q := q) W')
  have C2 := Lib.hid (fun (W' : World) (h : IsT W' W'.heap.size ⟨P, np, pc, E, ne, ec, F, nf, fc, R, nr, rc⟩ ⟨p, q, ps, es, fs, bs⟩) => dparts_any (P := P) (np := np) (pc := pc) (E := E) (ne := ne) (ec := ec) (F := F) (nf := nf) (fc := fc) (R := R) (nr := nr) (rc := rc) (p := p) (q := q) ps W' hp (by omega) h.parts)
  have C3 := Lib.hid (fun (r : Bool) (hr : r = true ↔ EdgesOk np es) (W' : World) (h : IsT W' W'.heap.size ⟨P, np, pc, E, ne, ec, F, nf, fc, R, nr, rc⟩ ⟨p, q, ps, es, fs, bs⟩) => dedges_any (P := P) (np := np) (pc := pc) (E := E) (ne := ne) (ec := ec) (F := F) (nf := nf) (fc := fc) (R := R) (nr := nr) (rc := rc) (p := p) (q := q) es r hr W' he (by omega) h.edges)
  have C4 := Lib.hid (fun (r : Bool) (hr : r = true ↔ FutsOk ps fs) (W' : World) (h : IsT W' W'.heap.size ⟨P, np, pc, E, ne, ec, F, nf, fc, R, nr, rc⟩ ⟨p, q, ps, es, fs, bs⟩) => dfutures_any (P := P) (np := np) (pc := pc) (E := E) (ne := ne) (ec := ec) (F := F) (nf := nf) (fc := fc) (R := R) (nr := nr) (rc := rc) (p := p) (q := q) ps fs r hr W' hp (by omega) hf (by omega) h.parts h.futures)
  have C5 := Lib.hid (fun (r : Bool) (hr' : r = true ↔ BarsOk np bs) (W' : World) (h : IsT W' W'.heap.size ⟨P, np, pc, E, ne, ec, F, nf, fc, R, nr, rc⟩ ⟨p, q, ps, es, fs, bs⟩) => dbars_any (P := P) (np := np) (pc := pc) (E := E) (ne := ne) (ec := ec) (F := F) (nf := nf) (fc := fc) (R := R) (nr := nr) (rc := rc) (p := p) (q := q) bs r hr' W' hr (by omega) (fun b hb => by have := HFB.out b hb; omega) h.bars)
  obtain ⟨r, hres⟩ : ∃ r, r = chkT ⟨p, q, ps, es, fs, bs⟩ := ⟨_, rfl⟩
  rw [← hres]
  have HRES := Lib.hid hres
  clear hT hF hp he hf hr hres
  by_cases hmany : np < 1 ∨ 16 < np ∨ 48 < ne ∨ 16 < nf ∨ 4 < nr
  · have HX := Lib.hid (show chkT ⟨p, q, ps, es, fs, bs⟩ = 50 by unfold chkT; rw [if_pos (HMANY.out.mpr hmany)])
    rcases (show np < 1 ∨ (1 ≤ np ∧ 16 < np) ∨ (1 ≤ np ∧ np ≤ 16 ∧ 48 < ne) ∨ (1 ≤ np ∧ np ≤ 16 ∧ ne ≤ 48 ∧ 16 < nf) ∨ (1 ≤ np ∧ np ≤ 16 ∧ ne ≤ 48 ∧ nf ≤ 16 ∧ 4 < nr) by omega) with h1 | ⟨h1, h2⟩ | ⟨h1, h2, h3⟩ | ⟨h1, h2, h3, h4⟩ | ⟨h1, h2, h3, h4, h5⟩
    all_goals
      clear hmany
      go_enter Tryz.func47, Tryz.ntmps47
      go_wp2
      go_ret
      exact ⟨by rw [HRES.out, HX.out]; rfl, B0.out.b.bel⟩
  · have HMN := Lib.hid (fun k => hmany (HMANY.out.mp k))
    have h1 : 1 ≤ np := by omega
    have h2 : np ≤ 16 := by omega
    have h3 : ne ≤ 48 := by omega
    have h4 : nf ≤ 16 := by omega
    have h5 : nr ≤ 4 := by omega
    clear hmany
    cases ht : timeE p q with
    | false =>
      have HX := Lib.hid (show chkT ⟨p, q, ps, es, fs, bs⟩ = 51 by unfold chkT; rw [if_neg HMN.out, if_pos ht])
      simp only [ht] at C1
      clear ht
      go_enter Tryz.func47, Tryz.ntmps47
      go_wp2_with fail
      refine (C1.out _).mono ?_
      rintro e w1 ⟨rfl, b⟩
      have B1 := Lib.hid (B0.out.next b)
      clear b
      go_wp2
      go_ret
      exact ⟨by rw [HRES.out, HX.out]; rfl, B1.out.b.bel⟩
    | true =>
      have HTT := Lib.hid ht
      simp only [ht] at C1
      clear ht
      by_cases p1 : partsOk ps
      · have P1 := Lib.hid p1
        simp only [decide_eq_true p1] at C2
        clear p1
        by_cases p2 : EdgesOk np es
        · have P2 := Lib.hid p2
          clear p2
          by_cases p3 : FutsOk ps fs
          · have P3 := Lib.hid p3
            clear p3
            by_cases p4 : BarsOk np bs
            · have P4 := Lib.hid p4
              clear p4
              have HX := Lib.hid (show chkT ⟨p, q, ps, es, fs, bs⟩ = 0 by unfold chkT; rw [if_neg HMN.out, if_neg (by simp only; rw [HTT.out]; exact fun k => Bool.noConfusion k), if_neg (fun k => k P1.out), if_neg (fun k => k (by simp only; rw [HP.out]; exact P2.out)), if_neg (fun k => k P3.out), if_neg (fun k => k (by simp only; rw [HP.out]; exact P4.out))])
              go_enter Tryz.func47, Tryz.ntmps47
              go_wp2_with fail
              refine (C1.out _).mono ?_
              rintro e w1 ⟨rfl, b⟩
              have B1 := Lib.hid (B0.out.next b)
              clear b
              obtain ⟨c0, c1, c2, c3, c4, c5⟩ := B1.out.b.cells
              go_wp2_with fail
              refine (C2.out _ B1.out.t).mono ?_
              rintro e w2 ⟨rfl, b⟩
              have B2 := Lib.hid (B1.out.next b)
              clear b c0 c1 c2 c3 c4 c5
              obtain ⟨c0, c1, c2, c3, c4, c5⟩ := B2.out.b.cells
              go_wp2_with fail
              refine (C3.out true ⟨fun _ => P2.out, fun _ => rfl⟩ _ B2.out.t).mono ?_
              rintro e w3 ⟨rfl, b⟩
              have B3 := Lib.hid (B2.out.next b)
              clear b c0 c1 c2 c3 c4 c5
              obtain ⟨c0, c1, c2, c3, c4, c5⟩ := B3.out.b.cells
              go_wp2_with fail
              refine (C4.out true ⟨fun _ => P3.out, fun _ => rfl⟩ _ B3.out.t).mono ?_
              rintro e w4 ⟨rfl, b⟩
              have B4 := Lib.hid (B3.out.next b)
              clear b c0 c1 c2 c3 c4 c5
              obtain ⟨c0, c1, c2, c3, c4, c5⟩ := B4.out.b.cells
              go_wp2_with fail
              refine (C5.out true ⟨fun _ => P4.out, fun _ => rfl⟩ _ B4.out.t).mono ?_
              rintro e w5 ⟨rfl, b⟩
              have B5 := Lib.hid (B4.out.next b)
              clear b c0 c1 c2 c3 c4 c5
              go_wp2
              go_ret
              exact ⟨by rw [HRES.out, HX.out]; rfl, B5.out.b.bel⟩
            · have P4 := Lib.hid p4
              clear p4
              have HX := Lib.hid (show chkT ⟨p, q, ps, es, fs, bs⟩ = 55 by unfold chkT; rw [if_neg HMN.out, if_neg (by simp only; rw [HTT.out]; exact fun k => Bool.noConfusion k), if_neg (fun k => k P1.out), if_neg (fun k => k (by simp only; rw [HP.out]; exact P2.out)), if_neg (fun k => k P3.out), if_pos (by simp only; rw [HP.out]; exact P4.out)])
              go_enter Tryz.func47, Tryz.ntmps47
              go_wp2_with fail
              refine (C1.out _).mono ?_
              rintro e w1 ⟨rfl, b⟩
              have B1 := Lib.hid (B0.out.next b)
              clear b
              obtain ⟨c0, c1, c2, c3, c4, c5⟩ := B1.out.b.cells
              go_wp2_with fail
              refine (C2.out _ B1.out.t).mono ?_
              rintro e w2 ⟨rfl, b⟩
              have B2 := Lib.hid (B1.out.next b)
              clear b c0 c1 c2 c3 c4 c5
              obtain ⟨c0, c1, c2, c3, c4, c5⟩ := B2.out.b.cells
              go_wp2_with fail
              refine (C3.out true ⟨fun _ => P2.out, fun _ => rfl⟩ _ B2.out.t).mono ?_
              rintro e w3 ⟨rfl, b⟩
              have B3 := Lib.hid (B2.out.next b)
              clear b c0 c1 c2 c3 c4 c5
              obtain ⟨c0, c1, c2, c3, c4, c5⟩ := B3.out.b.cells
              go_wp2_with fail
              refine (C4.out true ⟨fun _ => P3.out, fun _ => rfl⟩ _ B3.out.t).mono ?_
              rintro e w4 ⟨rfl, b⟩
              have B4 := Lib.hid (B3.out.next b)
              clear b c0 c1 c2 c3 c4 c5
              obtain ⟨c0, c1, c2, c3, c4, c5⟩ := B4.out.b.cells
              go_wp2_with fail
              refine (C5.out false ⟨fun k => Bool.noConfusion k, fun k => absurd k P4.out⟩ _ B4.out.t).mono ?_
              rintro e w5 ⟨rfl, b⟩
              have B5 := Lib.hid (B4.out.next b)
              clear b c0 c1 c2 c3 c4 c5
              go_wp2
              go_ret
              exact ⟨by rw [HRES.out, HX.out]; rfl, B5.out.b.bel⟩
          · have P3 := Lib.hid p3
            clear p3
            have HX := Lib.hid (show chkT ⟨p, q, ps, es, fs, bs⟩ = 54 by unfold chkT; rw [if_neg HMN.out, if_neg (by simp only; rw [HTT.out]; exact fun k => Bool.noConfusion k), if_neg (fun k => k P1.out), if_neg (fun k => k (by simp only; rw [HP.out]; exact P2.out)), if_pos P3.out])
            go_enter Tryz.func47, Tryz.ntmps47
            go_wp2_with fail
            refine (C1.out _).mono ?_
            rintro e w1 ⟨rfl, b⟩
            have B1 := Lib.hid (B0.out.next b)
            clear b
            obtain ⟨c0, c1, c2, c3, c4, c5⟩ := B1.out.b.cells
            go_wp2_with fail
            refine (C2.out _ B1.out.t).mono ?_
            rintro e w2 ⟨rfl, b⟩
            have B2 := Lib.hid (B1.out.next b)
            clear b c0 c1 c2 c3 c4 c5
            obtain ⟨c0, c1, c2, c3, c4, c5⟩ := B2.out.b.cells
            go_wp2_with fail
            refine (C3.out true ⟨fun _ => P2.out, fun _ => rfl⟩ _ B2.out.t).mono ?_
            rintro e w3 ⟨rfl, b⟩
            have B3 := Lib.hid (B2.out.next b)
            clear b c0 c1 c2 c3 c4 c5
            obtain ⟨c0, c1, c2, c3, c4, c5⟩ := B3.out.b.cells
            go_wp2_with fail
            refine (C4.out false ⟨fun k => Bool.noConfusion k, fun k => absurd k P3.out⟩ _ B3.out.t).mono ?_
            rintro e w4 ⟨rfl, b⟩
            have B4 := Lib.hid (B3.out.next b)
            clear b c0 c1 c2 c3 c4 c5
            go_wp2
            go_ret
            exact ⟨by rw [HRES.out, HX.out]; rfl, B4.out.b.bel⟩
        · have P2 := Lib.hid p2
          clear p2
          have HX := Lib.hid (show chkT ⟨p, q, ps, es, fs, bs⟩ = 53 by unfold chkT; rw [if_neg HMN.out, if_neg (by simp only; rw [HTT.out]; exact fun k => Bool.noConfusion k), if_neg (fun k => k P1.out), if_pos (by simp only; rw [HP.out]; exact P2.out)])
          go_enter Tryz.func47, Tryz.ntmps47
          go_wp2_with fail
          refine (C1.out _).mono ?_
          rintro e w1 ⟨rfl, b⟩
          have B1 := Lib.hid (B0.out.next b)
          clear b
          obtain ⟨c0, c1, c2, c3, c4, c5⟩ := B1.out.b.cells
          go_wp2_with fail
          refine (C2.out _ B1.out.t).mono ?_
          rintro e w2 ⟨rfl, b⟩
          have B2 := Lib.hid (B1.out.next b)
          clear b c0 c1 c2 c3 c4 c5
          obtain ⟨c0, c1, c2, c3, c4, c5⟩ := B2.out.b.cells
          go_wp2_with fail
          refine (C3.out false ⟨fun k => Bool.noConfusion k, fun k => absurd k P2.out⟩ _ B2.out.t).mono ?_
          rintro e w3 ⟨rfl, b⟩
          have B3 := Lib.hid (B2.out.next b)
          clear b c0 c1 c2 c3 c4 c5
          go_wp2
          go_ret
          exact ⟨by rw [HRES.out, HX.out]; rfl, B3.out.b.bel⟩
      · have P1 := Lib.hid p1
        simp only [decide_eq_false p1] at C2
        clear p1
        have HX := Lib.hid (show chkT ⟨p, q, ps, es, fs, bs⟩ = 52 by unfold chkT; rw [if_neg HMN.out, if_neg (by simp only; rw [HTT.out]; exact fun k => Bool.noConfusion k), if_pos P1.out])
        go_enter Tryz.func47, Tryz.ntmps47
        go_wp2_with fail
        refine (C1.out _).mono ?_
        rintro e w1 ⟨rfl, b⟩
        have B1 := Lib.hid (B0.out.next b)
        clear b
        obtain ⟨c0, c1, c2, c3, c4, c5⟩ := B1.out.b.cells
        go_wp2_with fail
        refine (C2.out _ B1.out.t).mono ?_
        rintro e w2 ⟨rfl, b⟩
        have B2 := Lib.hid (B1.out.next b)
        clear b c0 c1 c2 c3 c4 c5
        go_wp2
        go_ret
        exact ⟨by rw [HRES.out, HX.out]; rfl, B2.out.b.bel⟩
end Go.Proofs.YtkmajhbfmdoamaaGreatDoor
