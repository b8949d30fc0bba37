/- The contract of trefoilref05.barriers in the seat YtfahabphncmbfaaGreatDoor.
   The contract of trefoilref05.Check in the seat YtfahabphncmbfaaGreatDoor (printed by desc/mk_check.py).
   The contract of trefoilref05.Few in the seat YtfahabphncmbfaaGreatDoor.
   Words for memory in the seat YtfahabphncmbfaaGreatDoor: lists of triples of the call's own; the first region of Own of trefoillaw05 (printed by desc/mk_own5.py).
   No statement is proved here. -/
import Derived.Test.YtfahabphncmbfaaGreatDoorZM5
import Derived.Test.YtfahabphncmbfaaGreatDoorZM6
import Derived.Test.YtfahabphncmbfaaGreatDoorZM2
import Derived.Test.YtfahabphncmbfaaGreatDoorZM3
set_option linter.unusedSimpArgs false
set_option linter.unusedVariables false
namespace Go.Proofs.YtfahabphncmbfaaGreatDoor
open Go.RowKit

/-- A barrier that may be (in, out). -/
structure BarOne (np : Nat) (b : List Int × List Int) : Prop where
  ins : RowOk np b.1
  outs : RowOk np b.2
  apart : ∀ x ∈ b.1, x ∉ b.2
def BarsOk (np : Nat) (bs : List (List Int × List Int)) : Prop := ∀ b ∈ bs, BarOne np b
theorem bars_step {np : Nat} {bs : List (List Int × List Int)} {k : Nat} {b : List Int × List Int} (h : BarsOk np (bs.take k)) (hb : bs[k]? = some b) (h1 : BarOne np b) : BarsOk np (bs.take (k + 1)) := by
  intro x hx
  rw [List.take_add_one, hb] at hx
  rcases List.mem_append.mp hx with hx | hx
  · exact h x hx
  · obtain rfl : x = b := by simpa using hx
    exact h1
section
variable {P : Option Addr} {np pc : Nat} {E : Option Addr} {ne ec : Nat} {F : Option Addr} {nf fc : Nat} {R : Option Addr} {nr rc : Nat} {p q : Int}
/-- In the middle of a round: a task lies in its box, a barrier in block g, all barriers as they came. -/
structure BxBd (w : World) (p q : Int) (P : Option Addr) (np pc : Nat) (E : Option Addr) (ne ec : Nat) (F : Option Addr) (nf fc : Nat) (R : Option Addr) (nr rc : Nat) (g : Nat) (A1 : Option Addr) (n1 c1 : Nat) (A2 : Option Addr) (n2 c2 : Nat) (xs ys : List Int) (w' : World) : Prop where
  b : BxD w p q P np pc E ne ec F nf fc R nr rc w'
  e0 : w'.cell? ⟨g, 0, none⟩ = some (.slice A1 n1 c1)
  e1 : w'.cell? ⟨g, 1, none⟩ = some (.slice A2 n2 c2)
  xs : Ints w' w.heap.size A1 xs
  ys : Ints w' w.heap.size A2 ys
theorem BxBd.next {w w1 w2 : World} {g : Nat} {A1 : Option Addr} {n1 c1 : Nat} {A2 : Option Addr} {n2 c2 : Nat} {xs ys : List Int} (h : BxBd w p q P np pc E ne ec F nf fc R nr rc g A1 n1 c1 A2 n2 c2 xs ys w1) (hb : Below w1.heap.size w1 w2) : BxBd w p q P np pc E ne ec F nf fc R nr rc g A1 n1 c1 A2 n2 c2 xs ys w2 :=
  ⟨h.b.next hb, (hb.cell (World.block_lt_of_cell? _ _ h.e0)).trans h.e0, (hb.cell (World.block_lt_of_cell? _ _ h.e1)).trans h.e1, h.xs.keep fun a ha => hb.cell (Nat.lt_of_lt_of_le ha h.b.bel.size), h.ys.keep fun a ha => hb.cell (Nat.lt_of_lt_of_le ha h.b.bel.size)⟩
set_option maxRecDepth 100000 in
set_option maxHeartbeats 8000000 in
theorem dbars_any (bs : List (List Int × List Int)) (r : Bool) (hr : r = true ↔ BarsOk np bs) (w : World) (hm : bs.length = nr) (hl : nr ≤ 1000) (hbl : ∀ b ∈ bs, b.1.length ≤ 900 ∧ b.2.length ≤ 900) (hB : Bars w w.heap.size R bs) :
    Calls Tryz.prog 175 #[.agg #[.int .i64 p, .int .i64 q, .slice P np pc, .slice E ne ec, .slice F nf fc, .slice R nr rc]] w fun e w' => e = .returned (.bool r) ∧ Below w.heap.size w w' := by
  have B0 := Lib.hid (BxD.start w p q P np pc E ne ec F nf fc R nr rc)
  have HM := Lib.hid hm
  have HR := Lib.hid hr
  have HBS := Lib.hid hB
  have HBL := Lib.hid hbl
  clear hB hm hr hbl
  go_enter Tryz.func175, Tryz.ntmps175
  go_wp2
  go_loopw [3] (fun v wr => ∃ k : Nat, k ≤ nr ∧ v = .int .i64 k ∧ Hid (BxD w p q P np pc E ne ec F nf fc R nr rc wr) ∧ Hid (BarsOk np (bs.take k))) (fun v _ => nr - (intOf v).toNat)
  case atStart => exact ⟨0, Nat.zero_le _, rfl, B0, Lib.hid (fun b hb => by simp at hb)⟩
  case round =>
    obtain ⟨k, hk, rfl, BR, HN⟩ := hrel
    obtain ⟨c0, c1', c2', c3, c4, c5⟩ := BR.out.cells
    have hlt0 := World.block_lt_of_cell? _ _ c0
    simp only at hlt0
    clear B0
    by_cases hlt : k < nr
    · have hBr := HBS.out.below BR.out.bel
      obtain ⟨bk, off, xs, ys, A1, n1, c1, A2, n2, c2, rfl, hbg, hek, hn1, hn2, d1, d2, hxs, hys, _, _⟩ := hBr.at_ (k := k) (by rw [HM.out]; exact hlt)
      have hb1 := HBL.out _ (List.mem_of_getElem? hek)
      simp only at hb1
      rw [hn1, hn2] at hb1
      have HEK := Lib.hid hek
      have HN1 := Lib.hid hn1
      have HN2 := Lib.hid hn2
      have HBAD := Lib.hid (fun h : ¬ BarOne np (xs, ys) => show r = false by
        rw [← Bool.not_eq_true]
        exact fun z => h (HR.out.mp z _ (List.mem_of_getElem? hek)))
      have X1 : Hid (BxBd w p q P np pc E ne ec F nf fc (some ⟨bk, off, none⟩) nr rc wr.heap.size A1 n1 c1 A2 n2 c2 xs ys (wr.alloc (.cells #[.slice A1 n1 c1, .slice A2 n2 c2] 122))) :=
        Lib.hid ⟨BR.out.next (below_alloc _), by rw [World.cell?_alloc_at _ _ _ _ rfl]; rfl, by rw [World.cell?_alloc_at _ _ _ _ rfl]; rfl, hxs.keep fun a ha => World.cell?_alloc_lt _ _ _ (Nat.lt_of_lt_of_le ha BR.out.bel.size), hys.keep fun a ha => World.cell?_alloc_lt _ _ _ (Nat.lt_of_lt_of_le ha BR.out.bel.size)⟩
      have CR := Lib.hid (fun (A : Option Addr) (c : Nat) (l : List Int) (len : Nat) (r : Bool) (hr : r = true ↔ RowOk np l) (W' : World) hm hl hI => drow_any (P := P) (np := np) (pc := pc) (E := E) (ne := ne) (ec := ec) (F := F) (nf := nf) (fc := fc) (R := some ⟨bk, off, none⟩) (nr := nr) (rc := rc) (p := p) (q := q) A c l len r hr W' hm hl hI)
      clear hek hn1 hn2 hxs hys hBr
      by_cases p1 : RowOk np xs
      · have HP1 := Lib.hid p1
        clear p1
        by_cases p2 : RowOk np ys
        · have HP2 := Lib.hid p2
          clear p2
          go_wp2_with fail
          refine (CR.out A1 c1 xs n1 true ⟨fun _ => HP1.out, fun _ => rfl⟩ _ HN1.out (by omega) (X1.out.xs.more (by have := X1.out.b.bel.size; exact this))).mono ?_
          rintro e w2 ⟨rfl, b2⟩
          have X2 := Lib.hid (X1.out.next b2)
          clear b2 c0 c1' c2' c3 c4 c5 d1 d2
          obtain ⟨c0, c1', c2', c3, c4, c5⟩ := X2.out.b.cells
          have e0 := X2.out.e0
          have e1 := X2.out.e1
          go_wp2_with fail
          refine (CR.out A2 c2 ys n2 true ⟨fun _ => HP2.out, fun _ => rfl⟩ _ HN2.out (by omega) (X2.out.ys.more (by have := X2.out.b.bel.size; exact this))).mono ?_
          rintro e w3 ⟨rfl, b3⟩
          have X3 := Lib.hid (X2.out.next b3)
          clear b3 c0 c1' c2' c3 c4 c5 e0 e1 X1 X2
          go_wp2
          go_loopw [5] (fun v wq => ∃ t : Nat, t ≤ n1 ∧ v = .int .i64 t ∧ Hid (BxBd w p q P np pc E ne ec F nf fc (some ⟨bk, off, none⟩) nr rc wr.heap.size A1 n1 c1 A2 n2 c2 xs ys wq) ∧ Hid (∀ x ∈ xs.take t, x ∉ ys)) (fun v _ => n1 - (intOf v).toNat)
          case atStart => exact ⟨0, Nat.zero_le _, rfl, X3, Lib.hid (by simp)⟩
          case round =>
            obtain ⟨t, ht, rfl, XQ, HNO⟩ := hrel
            clear X3
            have e0 := XQ.out.e0
            have e1 := XQ.out.e1
            by_cases hlt2 : t < n1
            · obtain ⟨bq, oq, z, rfl, hbq, hz, hcz⟩ := XQ.out.xs.at_ (k := t) (by rw [HN1.out]; exact hlt2)
              have m0 := near_cell e0
              have m1 := near_cell e1
              have m2 := near_cell hcz
              have CH := Lib.hid (fun (x : Near wr.heap.size wr) => has_any A2 c2 ys z x.W n2 HN2.out (by omega) (((XQ.out.ys.more XQ.out.b.bel.size).below x.h).more x.h.size))
              have HZ := Lib.hid hz
              clear hz hcz
              by_cases p3 : z ∈ ys
              · simp only [decide_eq_true p3] at CH
                have HX := Lib.hid (HBAD.out (fun q => q.apart z (List.mem_of_getElem? HZ.out) p3))
                clear p3
                go_wp2
                refine wp_region_near _ (by kernel_rfl) (by kernel_rfl) (Nat.le_refl _) ?_
                repeat (go_big_quiet_step (first
                  | (go_at_call 24; exact near_same (CH.out _))))
                refine wpQuiet_nil ?_
                intro W hW
                have XW := Lib.hid (XQ.out.next hW)
                clear hW
                go_wp2
                go_ret
                exact ⟨by rw [HX.out]; rfl, XW.out.b.bel⟩
              · simp only [decide_eq_false p3] at CH
                have HNX := Lib.hid p3
                clear p3
                go_wp2
                refine wp_region_near _ (by kernel_rfl) (by kernel_rfl) (Nat.le_refl _) ?_
                repeat (go_big_quiet_step (first
                  | (go_at_call 24; exact near_same (CH.out _))))
                refine wpQuiet_nil ?_
                intro W hW
                have XW := Lib.hid (XQ.out.next hW)
                clear hW
                go_wp2
                go_roundw
                case rel => exact ⟨t + 1, by omega, by go_num, XW, Lib.hid (by
                  intro x hx
                  rw [List.take_add_one, HZ.out] at hx
                  rcases List.mem_append.mp hx with hx | hx
                  · exact HNO.out x hx
                  · obtain rfl : x = z := by simpa using hx
                    exact HNX.out)⟩
                case measure => simp [intOf]; omega
            · have e : t = n1 := by omega
              have HOK := Lib.hid (bars_step HN.out HEK.out ⟨HP1.out, HP2.out, by
                have h := HNO.out
                rwa [List.take_of_length_le (by rw [HN1.out, e]; exact Nat.le_refl _)] at h⟩)
              clear e
              go_wp2
              go_roundw
              case rel => exact ⟨k + 1, by omega, by go_num, Lib.hid XQ.out.b, HOK⟩
              case measure => simp [intOf]; omega
        · have HP2 := Lib.hid p2
          have HX := Lib.hid (HBAD.out (fun q => p2 q.outs))
          clear p2
          go_wp2_with fail
          refine (CR.out A1 c1 xs n1 true ⟨fun _ => HP1.out, fun _ => rfl⟩ _ HN1.out (by omega) (X1.out.xs.more (by have := X1.out.b.bel.size; exact this))).mono ?_
          rintro e w2 ⟨rfl, b2⟩
          have X2 := Lib.hid (X1.out.next b2)
          clear b2 c0 c1' c2' c3 c4 c5 d1 d2
          obtain ⟨c0, c1', c2', c3, c4, c5⟩ := X2.out.b.cells
          have e0 := X2.out.e0
          have e1 := X2.out.e1
          go_wp2_with fail
          refine (CR.out A2 c2 ys n2 false ⟨fun q => Bool.noConfusion q, fun q => absurd q HP2.out⟩ _ HN2.out (by omega) (X2.out.ys.more (by have := X2.out.b.bel.size; exact this))).mono ?_
          rintro e w3 ⟨rfl, b3⟩
          have X3 := Lib.hid (X2.out.next b3)
          clear b3 c0 c1' c2' c3 c4 c5 e0 e1 X1 X2
          go_wp2
          go_ret
          exact ⟨by rw [HX.out]; rfl, X3.out.b.bel⟩
      · have HP1 := Lib.hid p1
        have HX := Lib.hid (HBAD.out (fun q => p1 q.ins))
        clear p1
        go_wp2_with fail
        refine (CR.out A1 c1 xs n1 false ⟨fun q => Bool.noConfusion q, fun q => absurd q HP1.out⟩ _ HN1.out (by omega) (X1.out.xs.more (by have := X1.out.b.bel.size; exact this))).mono ?_
        rintro e w2 ⟨rfl, b2⟩
        have X2 := Lib.hid (X1.out.next b2)
        clear b2 c0 c1' c2' c3 c4 c5 d1 d2
        go_wp2
        go_ret
        exact ⟨by rw [HX.out]; rfl, X2.out.b.bel⟩
    · have e : nr = k := by omega
      subst e
      have HYES := Lib.hid (show r = true from HR.out.mpr (by
        have h := HN.out
        rwa [List.take_of_length_le (by rw [HM.out]; exact Nat.le_refl _)] at h))
      go_wp2
      go_ret
      exact ⟨by rw [HYES.out]; rfl, BR.out.bel⟩
end
end Go.Proofs.YtfahabphncmbfaaGreatDoor
set_option linter.unusedVariables false
namespace Go.Proofs.YtfahabphncmbfaaGreatDoor
open Go.RowKit

/-- A task as an argument. -/
@[reducible] def Sh.arg (s : Sh) (p q : Int) : Value := .agg #[.int .i64 p, .int .i64 q, .slice s.P s.np s.pc, .slice s.E s.ne s.ec, .slice s.F s.nf s.fc, .slice s.R s.nr s.rc]
def ManyT (T : Task) : Prop := T.parts.length < 1 ∨ 16 < T.parts.length ∨ 48 < T.edges.length ∨ 16 < T.futures.length ∨ 4 < T.bars.length
open Classical in
/-- What is said of a task. -/
noncomputable def chkT (T : Task) : Int :=
  if ManyT T then 50 else if timeE T.period T.deadline = false then 51 else if ¬ partsOk T.parts then 52 else if ¬ EdgesOk T.parts.length T.edges then 53 else if ¬ FutsOk T.parts T.futures then 54 else if ¬ BarsOk T.parts.length T.bars then 55 else 0
/-- It may be. -/
structure MayT (T : Task) : Prop where
  few : ¬ ManyT T
  time : timeE T.period T.deadline = true
  parts : partsOk T.parts
  edges : EdgesOk T.parts.length T.edges
  futures : FutsOk T.parts T.futures
  bars : BarsOk T.parts.length T.bars
theorem chkT_zero {T : Task} : chkT T = 0 ↔ MayT T := by
  unfold chkT
  constructor
  · intro h
    split at h
    · cases h
    · rename_i h0
      split at h
      · cases h
      · rename_i h1
        split at h
        · cases h
        · rename_i h2
          split at h
          · cases h
          · rename_i h3
            split at h
            · cases h
            · rename_i h4
              split at h
              · cases h
              · rename_i h5
                exact ⟨h0, by simpa using h1, Classical.not_not.mp h2, Classical.not_not.mp h3, Classical.not_not.mp h4, Classical.not_not.mp h5⟩
  · rintro ⟨h0, h1, h2, h3, h4, h5⟩
    rw [if_neg h0, if_neg (by rw [h1]; exact fun k => Bool.noConfusion k), if_neg (fun k => k h2), if_neg (fun k => k h3), if_neg (fun k => k h4), if_neg (fun k => k h5)]
/-- Sizes that the reference's functions are held to. -/
structure FewT (T : Task) : Prop where
  np : T.parts.length ≤ 400
  ne : T.edges.length ≤ 400
  nf : T.futures.length ≤ 400
  nr : T.bars.length ≤ 400
  bars : ∀ b ∈ T.bars, b.1.length ≤ 400 ∧ b.2.length ≤ 400
/-- A task lies in its box, and as it came. -/
structure BxTd (w : World) (p q : Int) (P : Option Addr) (np pc : Nat) (E : Option Addr) (ne ec : Nat) (F : Option Addr) (nf fc : Nat) (R : Option Addr) (nr rc : Nat) (T : Task) (w' : World) : Prop where
  b : BxD w p q P np pc E ne ec F nf fc R nr rc w'
  t : IsT w' w'.heap.size ⟨P, np, pc, E, ne, ec, F, nf, fc, R, nr, rc⟩ T
section
variable {P : Option Addr} {np pc : Nat} {E : Option Addr} {ne ec : Nat} {F : Option Addr} {nf fc : Nat} {R : Option Addr} {nr rc : Nat} {p q : Int} {T : Task}
theorem BxTd.next {w w1 w2 : World} (h : BxTd w p q P np pc E ne ec F nf fc R nr rc T w1) (hb : Below w1.heap.size w1 w2) : BxTd w p q P np pc E ne ec F nf fc R nr rc T w2 := ⟨h.b.next hb, (h.t.below hb).more hb.size⟩
theorem BxTd.start {w : World} (h : IsT w w.heap.size ⟨P, np, pc, E, ne, ec, F, nf, fc, R, nr, rc⟩ T) (p q : Int) : BxTd w p q P np pc E ne ec F nf fc R nr rc T (w.alloc (.cells #[.int .i64 p, .int .i64 q, .slice P np pc, .slice E ne ec, .slice F nf fc, .slice R nr rc] 64)) :=
  ⟨BxD.start w p q P np pc E ne ec F nf fc R nr rc, (h.below (below_alloc _)).more (by simp)⟩
end
set_option maxRecDepth 100000 in
set_option maxHeartbeats 8000000 in
theorem tcheck_any (s : Sh) (T : Task) (w : World) (hF : FewT T) (hT : IsT w w.heap.size s T) :
    Calls Tryz.prog 127 #[s.arg T.period T.deadline] w fun e w' => e = .returned (.int .i64 (chkT T)) ∧ Below w.heap.size w w' := by
  obtain ⟨P, np, pc, E, ne, ec, F, nf, fc, R, nr, rc⟩ := s
  obtain ⟨p, q, ps, es, fs, bs⟩ := T
  have B0 := Lib.hid (BxTd.start hT p q)
  have HT := Lib.hid hT
  have hp := hT.hp
  have he := hT.he
  have hf := hT.hf
  have hr := hT.hr
  have hFp := hF.np
  have hFe := hF.ne
  have hFf := hF.nf
  have hFr := hF.nr
  simp only at hp he hf hr hFp hFe hFf hFr
  have HFB := Lib.hid hF.bars
  have HP := Lib.hid hp
  have HE := Lib.hid he
  have HFL := Lib.hid hf
  have HRL := Lib.hid hr
  rw [hp] at hFp
  rw [he] at hFe
  rw [hf] at hFf
  rw [hr] at hFr
  simp only [Sh.arg]
  have HMANY := Lib.hid (show ManyT ⟨p, q, ps, es, fs, bs⟩ ↔ (np < 1 ∨ 16 < np ∨ 48 < ne ∨ 16 < nf ∨ 4 < nr) by unfold ManyT; simp only; rw [hp, he, hf, hr])
  have C1 := Lib.hid (fun W' => dtime_any (P := P) (np := np) (pc := pc) (E := E) (ne := ne) (ec := ec) (F := F) (nf := nf) (fc := fc) (R := R) (nr := nr) (rc := rc) (p := p) (q := q) W')
  have C2 := Lib.hid (fun (W' : World) (h : IsT W' W'.heap.size ⟨P, np, pc, E, ne, ec, F, nf, fc, R, nr, rc⟩ ⟨p, q, ps, es, fs, bs⟩) => dparts_any (P := P) (np := np) (pc := pc) (E := E) (ne := ne) (ec := ec) (F := F) (nf := nf) (fc := fc) (R := R) (nr := nr) (rc := rc) (p := p) (q := q) ps W' hp (by omega) h.parts)
  have C3 := Lib.hid (fun (r : Bool) (hr : r = true ↔ EdgesOk np es) (W' : World) (h : IsT W' W'.heap.size ⟨P, np, pc, E, ne, ec, F, nf, fc, R, nr, rc⟩ ⟨p, q, ps, es, fs, bs⟩) => dedges_any (P := P) (np := np) (pc := pc) (E := E) (ne := ne) (ec := ec) (F := F) (nf := nf) (fc := fc) (R := R) (nr := nr) (rc := rc) (p := p) (q := q) es r hr W' he (by omega) h.edges)
  have C4 := Lib.hid (fun (r : Bool) (hr : r = true ↔ FutsOk ps fs) (W' : World) (h : IsT W' W'.heap.size ⟨P, np, pc, E, ne, ec, F, nf, fc, R, nr, rc⟩ ⟨p, q, ps, es, fs, bs⟩) => dfutures_any (P := P) (np := np) (pc := pc) (E := E) (ne := ne) (ec := ec) (F := F) (nf := nf) (fc := fc) (R := R) (nr := nr) (rc := rc) (p := p) (q := q) ps fs r hr W' hp (by omega) hf (by omega) h.parts h.futures)
  have C5 := Lib.hid (fun (r : Bool) (hr' : r = true ↔ BarsOk np bs) (W' : World) (h : IsT W' W'.heap.size ⟨P, np, pc, E, ne, ec, F, nf, fc, R, nr, rc⟩ ⟨p, q, ps, es, fs, bs⟩) => dbars_any (P := P) (np := np) (pc := pc) (E := E) (ne := ne) (ec := ec) (F := F) (nf := nf) (fc := fc) (R := R) (nr := nr) (rc := rc) (p := p) (q := q) bs r hr' W' hr (by omega) (fun b hb => by have := HFB.out b hb; omega) h.bars)
  obtain ⟨r, hres⟩ : ∃ r, r = chkT ⟨p, q, ps, es, fs, bs⟩ := ⟨_, rfl⟩
  rw [← hres]
  have HRES := Lib.hid hres
  clear hT hF hp he hf hr hres
  by_cases hmany : np < 1 ∨ 16 < np ∨ 48 < ne ∨ 16 < nf ∨ 4 < nr
  · have HX := Lib.hid (show chkT ⟨p, q, ps, es, fs, bs⟩ = 50 by unfold chkT; rw [if_pos (HMANY.out.mpr hmany)])
    rcases (show np < 1 ∨ (1 ≤ np ∧ 16 < np) ∨ (1 ≤ np ∧ np ≤ 16 ∧ 48 < ne) ∨ (1 ≤ np ∧ np ≤ 16 ∧ ne ≤ 48 ∧ 16 < nf) ∨ (1 ≤ np ∧ np ≤ 16 ∧ ne ≤ 48 ∧ nf ≤ 16 ∧ 4 < nr) by omega) with h1 | ⟨h1, h2⟩ | ⟨h1, h2, h3⟩ | ⟨h1, h2, h3, h4⟩ | ⟨h1, h2, h3, h4, h5⟩
    all_goals
      clear hmany
      go_enter Tryz.func127, Tryz.ntmps127
      go_wp2
      go_ret
      exact ⟨by rw [HRES.out, HX.out]; rfl, B0.out.b.bel⟩
  · have HMN := Lib.hid (fun k => hmany (HMANY.out.mp k))
    have h1 : 1 ≤ np := by omega
    have h2 : np ≤ 16 := by omega
    have h3 : ne ≤ 48 := by omega
    have h4 : nf ≤ 16 := by omega
    have h5 : nr ≤ 4 := by omega
    clear hmany
    cases ht : timeE p q with
    | false =>
      have HX := Lib.hid (show chkT ⟨p, q, ps, es, fs, bs⟩ = 51 by unfold chkT; rw [if_neg HMN.out, if_pos ht])
      simp only [ht] at C1
      clear ht
      go_enter Tryz.func127, Tryz.ntmps127
      go_wp2_with fail
      refine (C1.out _).mono ?_
      rintro e w1 ⟨rfl, b⟩
      have B1 := Lib.hid (B0.out.next b)
      clear b
      go_wp2
      go_ret
      exact ⟨by rw [HRES.out, HX.out]; rfl, B1.out.b.bel⟩
    | true =>
      have HTT := Lib.hid ht
      simp only [ht] at C1
      clear ht
      by_cases p1 : partsOk ps
      · have P1 := Lib.hid p1
        simp only [decide_eq_true p1] at C2
        clear p1
        by_cases p2 : EdgesOk np es
        · have P2 := Lib.hid p2
          clear p2
          by_cases p3 : FutsOk ps fs
          · have P3 := Lib.hid p3
            clear p3
            by_cases p4 : BarsOk np bs
            · have P4 := Lib.hid p4
              clear p4
              have HX := Lib.hid (show chkT ⟨p, q, ps, es, fs, bs⟩ = 0 by unfold chkT; rw [if_neg HMN.out, if_neg (by simp only; rw [HTT.out]; exact fun k => Bool.noConfusion k), if_neg (fun k => k P1.out), if_neg (fun k => k (by simp only; rw [HP.out]; exact P2.out)), if_neg (fun k => k P3.out), if_neg (fun k => k (by simp only; rw [HP.out]; exact P4.out))])
              go_enter Tryz.func127, Tryz.ntmps127
              go_wp2_with fail
              refine (C1.out _).mono ?_
              rintro e w1 ⟨rfl, b⟩
              have B1 := Lib.hid (B0.out.next b)
              clear b
              obtain ⟨c0, c1, c2, c3, c4, c5⟩ := B1.out.b.cells
              go_wp2_with fail
              refine (C2.out _ B1.out.t).mono ?_
              rintro e w2 ⟨rfl, b⟩
              have B2 := Lib.hid (B1.out.next b)
              clear b c0 c1 c2 c3 c4 c5
              obtain ⟨c0, c1, c2, c3, c4, c5⟩ := B2.out.b.cells
              go_wp2_with fail
              refine (C3.out true ⟨fun _ => P2.out, fun _ => rfl⟩ _ B2.out.t).mono ?_
              rintro e w3 ⟨rfl, b⟩
              have B3 := Lib.hid (B2.out.next b)
              clear b c0 c1 c2 c3 c4 c5
              obtain ⟨c0, c1, c2, c3, c4, c5⟩ := B3.out.b.cells
              go_wp2_with fail
              refine (C4.out true ⟨fun _ => P3.out, fun _ => rfl⟩ _ B3.out.t).mono ?_
              rintro e w4 ⟨rfl, b⟩
              have B4 := Lib.hid (B3.out.next b)
              clear b c0 c1 c2 c3 c4 c5
              obtain ⟨c0, c1, c2, c3, c4, c5⟩ := B4.out.b.cells
              go_wp2_with fail
              refine (C5.out true ⟨fun _ => P4.out, fun _ => rfl⟩ _ B4.out.t).mono ?_
              rintro e w5 ⟨rfl, b⟩
              have B5 := Lib.hid (B4.out.next b)
              clear b c0 c1 c2 c3 c4 c5
              go_wp2
              go_ret
              exact ⟨by rw [HRES.out, HX.out]; rfl, B5.out.b.bel⟩
            · have P4 := Lib.hid p4
              clear p4
              have HX := Lib.hid (show chkT ⟨p, q, ps, es, fs, bs⟩ = 55 by unfold chkT; rw [if_neg HMN.out, if_neg (by simp only; rw [HTT.out]; exact fun k => Bool.noConfusion k), if_neg (fun k => k P1.out), if_neg (fun k => k (by simp only; rw [HP.out]; exact P2.out)), if_neg (fun k => k P3.out), if_pos (by simp only; rw [HP.out]; exact P4.out)])
              go_enter Tryz.func127, Tryz.ntmps127
              go_wp2_with fail
              refine (C1.out _).mono ?_
              rintro e w1 ⟨rfl, b⟩
              have B1 := Lib.hid (B0.out.next b)
              clear b
              obtain ⟨c0, c1, c2, c3, c4, c5⟩ := B1.out.b.cells
              go_wp2_with fail
              refine (C2.out _ B1.out.t).mono ?_
              rintro e w2 ⟨rfl, b⟩
              have B2 := Lib.hid (B1.out.next b)
              clear b c0 c1 c2 c3 c4 c5
              obtain ⟨c0, c1, c2, c3, c4, c5⟩ := B2.out.b.cells
              go_wp2_with fail
              refine (C3.out true ⟨fun _ => P2.out, fun _ => rfl⟩ _ B2.out.t).mono ?_
              rintro e w3 ⟨rfl, b⟩
              have B3 := Lib.hid (B2.out.next b)
              clear b c0 c1 c2 c3 c4 c5
              obtain ⟨c0, c1, c2, c3, c4, c5⟩ := B3.out.b.cells
              go_wp2_with fail
              refine (C4.out true ⟨fun _ => P3.out, fun _ => rfl⟩ _ B3.out.t).mono ?_
              rintro e w4 ⟨rfl, b⟩
              have B4 := Lib.hid (B3.out.next b)
              clear b c0 c1 c2 c3 c4 c5
              obtain ⟨c0, c1, c2, c3, c4, c5⟩ := B4.out.b.cells
              go_wp2_with fail
              refine (C5.out false ⟨fun k => Bool.noConfusion k, fun k => absurd k P4.out⟩ _ B4.out.t).mono ?_
              rintro e w5 ⟨rfl, b⟩
              have B5 := Lib.hid (B4.out.next b)
              clear b c0 c1 c2 c3 c4 c5
              go_wp2
              go_ret
              exact ⟨by rw [HRES.out, HX.out]; rfl, B5.out.b.bel⟩
          · have P3 := Lib.hid p3
            clear p3
            have HX := Lib.hid (show chkT ⟨p, q, ps, es, fs, bs⟩ = 54 by unfold chkT; rw [if_neg HMN.out, if_neg (by simp only; rw [HTT.out]; exact fun k => Bool.noConfusion k), if_neg (fun k => k P1.out), if_neg (fun k => k (by simp only; rw [HP.out]; exact P2.out)), if_pos P3.out])
            go_enter Tryz.func127, Tryz.ntmps127
            go_wp2_with fail
            refine (C1.out _).mono ?_
            rintro e w1 ⟨rfl, b⟩
            have B1 := Lib.hid (B0.out.next b)
            clear b
            obtain ⟨c0, c1, c2, c3, c4, c5⟩ := B1.out.b.cells
            go_wp2_with fail
            refine (C2.out _ B1.out.t).mono ?_
            rintro e w2 ⟨rfl, b⟩
            have B2 := Lib.hid (B1.out.next b)
            clear b c0 c1 c2 c3 c4 c5
            obtain ⟨c0, c1, c2, c3, c4, c5⟩ := B2.out.b.cells
            go_wp2_with fail
            refine (C3.out true ⟨fun _ => P2.out, fun _ => rfl⟩ _ B2.out.t).mono ?_
            rintro e w3 ⟨rfl, b⟩
            have B3 := Lib.hid (B2.out.next b)
            clear b c0 c1 c2 c3 c4 c5
            obtain ⟨c0, c1, c2, c3, c4, c5⟩ := B3.out.b.cells
            go_wp2_with fail
            refine (C4.out false ⟨fun k => Bool.noConfusion k, fun k => absurd k P3.out⟩ _ B3.out.t).mono ?_
            rintro e w4 ⟨rfl, b⟩
            have B4 := Lib.hid (B3.out.next b)
            clear b c0 c1 c2 c3 c4 c5
            go_wp2
            go_ret
            exact ⟨by rw [HRES.out, HX.out]; rfl, B4.out.b.bel⟩
        · have P2 := Lib.hid p2
          clear p2
          have HX := Lib.hid (show chkT ⟨p, q, ps, es, fs, bs⟩ = 53 by unfold chkT; rw [if_neg HMN.out, if_neg (by simp only; rw [HTT.out]; exact fun k => Bool.noConfusion k), if_neg (fun k => k P1.out), if_pos (by simp only; rw [HP.out]; exact P2.out)])
          go_enter Tryz.func127, Tryz.ntmps127
          go_wp2_with fail
          refine (C1.out _).mono ?_
          rintro e w1 ⟨rfl, b⟩
          have B1 := Lib.hid (B0.out.next b)
          clear b
          obtain ⟨c0, c1, c2, c3, c4, c5⟩ := B1.out.b.cells
          go_wp2_with fail
          refine (C2.out _ B1.out.t).mono ?_
          rintro e w2 ⟨rfl, b⟩
          have B2 := Lib.hid (B1.out.next b)
          clear b c0 c1 c2 c3 c4 c5
          obtain ⟨c0, c1, c2, c3, c4, c5⟩ := B2.out.b.cells
          go_wp2_with fail
          refine (C3.out false ⟨fun k => Bool.noConfusion k, fun k => absurd k P2.out⟩ _ B2.out.t).mono ?_
          rintro e w3 ⟨rfl, b⟩
          have B3 := Lib.hid (B2.out.next b)
          clear b c0 c1 c2 c3 c4 c5
          go_wp2
          go_ret
          exact ⟨by rw [HRES.out, HX.out]; rfl, B3.out.b.bel⟩
      · have P1 := Lib.hid p1
        simp only [decide_eq_false p1] at C2
        clear p1
        have HX := Lib.hid (show chkT ⟨p, q, ps, es, fs, bs⟩ = 52 by unfold chkT; rw [if_neg HMN.out, if_neg (by simp only; rw [HTT.out]; exact fun k => Bool.noConfusion k), if_pos P1.out])
        go_enter Tryz.func127, Tryz.ntmps127
        go_wp2_with fail
        refine (C1.out _).mono ?_
        rintro e w1 ⟨rfl, b⟩
        have B1 := Lib.hid (B0.out.next b)
        clear b
        obtain ⟨c0, c1, c2, c3, c4, c5⟩ := B1.out.b.cells
        go_wp2_with fail
        refine (C2.out _ B1.out.t).mono ?_
        rintro e w2 ⟨rfl, b⟩
        have B2 := Lib.hid (B1.out.next b)
        clear b c0 c1 c2 c3 c4 c5
        go_wp2
        go_ret
        exact ⟨by rw [HRES.out, HX.out]; rfl, B2.out.b.bel⟩
end Go.Proofs.YtfahabphncmbfaaGreatDoor
set_option linter.unusedVariables false
namespace Go.Proofs.YtfahabphncmbfaaGreatDoor
open Go.RowKit

def barsFew (bs : List (List Int × List Int)) (k : Nat) : Prop := ∀ i, i < k → ∀ b, bs[i]? = some b → b.1.length ≤ 20 ∧ b.2.length ≤ 20
structure FewD (T : Task) : Prop where
  bars : barsFew T.bars 9
  np : T.parts.length ≤ 20
  ne : T.edges.length ≤ 60
  nf : T.futures.length ≤ 20
  nr : T.bars.length ≤ 8
theorem FewD.few {T : Task} (h : FewD T) : FewT T := by
  refine ⟨by have := h.np; omega, by have := h.ne; omega, by have := h.nf; omega, by have := h.nr; omega, fun b hb => ?_⟩
  obtain ⟨i, hi, e⟩ := List.getElem_of_mem hb
  have hn := h.nr
  have := h.bars i (by omega) b (by rw [List.getElem?_eq_getElem hi, e])
  omega
theorem barsFew_step {bs : List (List Int × List Int)} {k : Nat} {b : List Int × List Int} (h : barsFew bs k) (hb : bs[k]? = some b) (h1 : b.1.length ≤ 20) (h2 : b.2.length ≤ 20) : barsFew bs (k + 1) := by
  intro i hi c hc
  by_cases e : i = k
  · rw [e, hb] at hc
    injection hc with hc
    rw [← hc]
    exact ⟨h1, h2⟩
  · exact h i (by omega) c hc
set_option maxRecDepth 100000 in
set_option maxHeartbeats 4000000 in
theorem dfew_any (s : Sh) (T : Task) (p q : Int) (r : Bool) (hr : r = true ↔ FewD T) (w : World) (hT : IsT w w.heap.size s T) :
    Calls Tryz.prog 29 #[s.arg p q] w fun e w' => e = .returned (.bool r) ∧ Below w.heap.size w w' := by
  obtain ⟨P, np, pc, E, ne, ec, F, nf, fc, R, nr, rc⟩ := s
  have B0 := Lib.hid (BxTd.start hT p q)
  have hp := hT.hp
  have he := hT.he
  have hf := hT.hf
  have hrr := hT.hr
  simp only at hp he hf hrr
  have HR := Lib.hid (show r = true ↔ barsFew T.bars 9 ∧ np ≤ 20 ∧ ne ≤ 60 ∧ nf ≤ 20 ∧ nr ≤ 8 by
    rw [hr, ← hp, ← he, ← hf, ← hrr]
    exact ⟨fun h => ⟨h.bars, h.np, h.ne, h.nf, h.nr⟩, fun h => ⟨h.1, h.2.1, h.2.2.1, h.2.2.2.1, h.2.2.2.2⟩⟩)
  have HN := Lib.hid hrr
  have HT := Lib.hid hT
  simp only [Sh.arg]
  clear hr hp he hf hrr hT
  go_enter Tryz.func29, Tryz.ntmps29
  go_wp2
  go_loop [3] (fun v => ∃ k : Nat, k ≤ nr ∧ k ≤ 9 ∧ v = .int .i64 k ∧ Hid (barsFew T.bars k)) (fun v => 9 - (intOf v).toNat)
  case atStart => exact ⟨0, Nat.zero_le _, by omega, rfl, Lib.hid (fun i hi => by omega)⟩
  case round =>
    obtain ⟨k, hk, hk9, rfl, HF⟩ := hrel
    by_cases hlt : k < nr ∧ k < 9
    · obtain ⟨bk, off, xs, ys, A1, n1, c1, A2, n2, c2, hR, hbg, hbj, hl1, hl2, dq1, dq2, _, _, _, _⟩ := HT.out.bars.at_ (k := k) (by rw [HN.out]; exact hlt.1)
      simp only at hR
      subst hR
      have hkn := hlt.1
      have hk9' := hlt.2
      have g1 : decide ((k : Int) < (nr : Int)) = true := by rw [decide_eq_true_iff]; omega
      have g2 : decide ((k : Int) < 9) = true := by rw [decide_eq_true_iff]; omega
      clear hlt
      by_cases h1 : n1 ≤ 20
      · have g3 : decide ((20 : Int) < (n1 : Int)) = false := by rw [decide_eq_false_iff_not]; omega
        by_cases h2 : n2 ≤ 20
        · have g4 : decide ((20 : Int) < (n2 : Int)) = false := by rw [decide_eq_false_iff_not]; omega
          have HST := Lib.hid (barsFew_step HF.out hbj (by rw [hl1]; exact h1) (by rw [hl2]; exact h2))
          clear hbj hl1 hl2
          go_wp2
          go_round
          case rel => exact ⟨k + 1, by omega, by omega, by go_num, HST⟩
          case measure => simp [intOf]; omega
        · have g4 : decide ((20 : Int) < (n2 : Int)) = true := by rw [decide_eq_true_iff]; omega
          have HX := Lib.hid (show r = false by
            rw [← Bool.not_eq_true]
            intro h
            have := ((HR.out.mp h).1 k hk9' _ hbj).2
            simp only at this
            rw [hl2] at this
            exact h2 this)
          clear hbj hl1 hl2
          go_wp2
          go_ret
          exact ⟨by rw [HX.out]; rfl, B0.out.b.bel⟩
      · have g3 : decide ((20 : Int) < (n1 : Int)) = true := by rw [decide_eq_true_iff]; omega
        have HX := Lib.hid (show r = false by
          rw [← Bool.not_eq_true]
          intro h
          have := ((HR.out.mp h).1 k hk9' _ hbj).1
          simp only at this
          rw [hl1] at this
          exact h1 this)
        clear hbj hl1 hl2
        go_wp2
        go_ret
        exact ⟨by rw [HX.out]; rfl, B0.out.b.bel⟩
    · have HALL : Hid (k = nr ∨ (k < nr ∧ k = 9)) := Lib.hid (by omega)
      have HBF : Hid (barsFew T.bars 9) := Lib.hid (fun i hi b hb => by
        rcases HALL.out with e | ⟨_, e⟩
        · have := (List.getElem?_eq_some_iff.1 hb).1
          rw [HN.out] at this
          exact HF.out i (by omega) b hb
        · exact HF.out i (by omega) b hb)
      by_cases hF : np ≤ 20 ∧ ne ≤ 60 ∧ nf ≤ 20 ∧ nr ≤ 8
      · have HX := Lib.hid (HR.out.mpr ⟨HBF.out, hF⟩)
        obtain ⟨h1, h2, h3, h4⟩ := hF
        have e : k = nr := by omega
        subst e
        clear hlt
        go_wp2
        go_ret
        exact ⟨by rw [HX.out]; first | rfl | (refine congrArg (fun b => Ending.returned (Value.bool b)) (?_ : decide _ = _); rw [decide_eq_true_iff]; omega), B0.out.b.bel⟩
      · have HX := Lib.hid (show r = false by
          rw [← Bool.not_eq_true]
          exact fun h => hF (HR.out.mp h).2)
        rcases (show (k = nr ∧ 20 < np) ∨ (k = nr ∧ np ≤ 20 ∧ 60 < ne) ∨ (k = nr ∧ np ≤ 20 ∧ ne ≤ 60 ∧ 20 < nf) ∨ (k = nr ∧ np ≤ 20 ∧ ne ≤ 60 ∧ nf ≤ 20 ∧ 8 < nr) ∨ (k < nr ∧ k = 9 ∧ 20 < np) ∨ (k < nr ∧ k = 9 ∧ np ≤ 20 ∧ 60 < ne) ∨ (k < nr ∧ k = 9 ∧ np ≤ 20 ∧ ne ≤ 60 ∧ 20 < nf) ∨ (k < nr ∧ k = 9 ∧ np ≤ 20 ∧ ne ≤ 60 ∧ nf ≤ 20 ∧ 8 < nr) by have := HALL.out; omega)
          with ⟨e, h1⟩ | ⟨e, h1, h2⟩ | ⟨e, h1, h2, h3⟩ | ⟨e, h1, h2, h3, h4⟩ | ⟨e0, e, h1⟩ | ⟨e0, e, h1, h2⟩ | ⟨e0, e, h1, h2, h3⟩ | ⟨e0, e, h1, h2, h3, h4⟩
        all_goals
          subst e
          clear hlt hF HALL
          go_wp2
          go_ret
          exact ⟨by rw [HX.out]; first | rfl | (refine congrArg (fun b => Ending.returned (Value.bool b)) (?_ : decide _ = _); rw [decide_eq_false_iff_not]; omega), B0.out.b.bel⟩
end Go.Proofs.YtfahabphncmbfaaGreatDoor
set_option linter.unusedVariables false
namespace Go.Proofs.YtfahabphncmbfaaGreatDoor
open Go.RowKit

def flatT (es : List (Int × Int × Int)) : List Value := es.flatMap fun e => [.int .i64 e.1, .int .i64 e.2.1, .int .i64 e.2.2]
theorem flatT_length (es : List (Int × Int × Int)) : (flatT es).length = es.length * 3 := by
  induction es with
  | nil => rfl
  | cons e es ih =>
    rw [show flatT (e :: es) = .int .i64 e.1 :: .int .i64 e.2.1 :: .int .i64 e.2.2 :: flatT es from rfl, List.length_cons, List.length_cons, List.length_cons, List.length_cons, ih]
    omega
theorem flatT_at : ∀ {es : List (Int × Int × Int)} {k : Nat} {e : Int × Int × Int}, es[k]? = some e → (flatT es)[k * 3]? = some (.int .i64 e.1) ∧ (flatT es)[k * 3 + 1]? = some (.int .i64 e.2.1) ∧ (flatT es)[k * 3 + 2]? = some (.int .i64 e.2.2)
  | [], k, e, h => by simp at h
  | x :: es, 0, e, h => by
    obtain rfl : x = e := by simpa using h
    exact ⟨rfl, rfl, rfl⟩
  | x :: es, k + 1, e, h => by
    have ih := flatT_at (es := es) (k := k) (e := e) (by simpa using h)
    have e1 : flatT (x :: es) = .int .i64 x.1 :: .int .i64 x.2.1 :: .int .i64 x.2.2 :: flatT es := rfl
    rw [e1, show (k + 1) * 3 = k * 3 + 1 + 1 + 1 by omega]
    simp only [List.getElem?_cons_succ]
    exact ih
theorem flatT_cell {es : List (Int × Int × Int)} {j : Nat} {u : Value} (h : (flatT es)[j]? = some u) : ∃ e, es[j / 3]? = some e ∧ ((j % 3 = 0 ∧ u = .int .i64 e.1) ∨ (j % 3 = 1 ∧ u = .int .i64 e.2.1) ∨ (j % 3 = 2 ∧ u = .int .i64 e.2.2)) := by
  have hj : j < es.length * 3 := by
    rw [← flatT_length]
    rcases Nat.lt_or_ge j (flatT es).length with h1 | h1
    · exact h1
    · rw [List.getElem?_eq_none h1] at h; cases h
  have hk : es[j / 3]? = some es[j / 3] := List.getElem?_eq_getElem (by omega)
  refine ⟨_, hk, ?_⟩
  obtain ⟨h1, h2, h3⟩ := flatT_at hk
  rcases (show j % 3 = 0 ∨ j % 3 = 1 ∨ j % 3 = 2 by omega) with h0 | h0 | h0
  · rw [show j / 3 * 3 = j by omega, h] at h1
    exact .inl ⟨h0, Option.some.inj h1⟩
  · rw [show j / 3 * 3 + 1 = j by omega, h] at h2
    exact .inr (.inl ⟨h0, Option.some.inj h2⟩)
  · rw [show j / 3 * 3 + 2 = j by omega, h] at h3
    exact .inr (.inr ⟨h0, Option.some.inj h3⟩)
theorem flatT_one (es : List (Int × Int × Int)) : ∀ u ∈ flatT es, u.oneCell' = true := by
  intro u hu
  unfold flatT at hu
  obtain ⟨e, _, h⟩ := List.mem_flatMap.mp hu
  rcases (by simpa using h : u = .int .i64 e.1 ∨ u = .int .i64 e.2.1 ∨ u = .int .i64 e.2.2) with rfl | rfl | rfl <;> rfl
theorem Trips.news {w : World} {B : Nat} {ad : Addr} {es : List (Int × Int × Int)} (h : Trips w B (some ad) es) : ∀ j u, (flatT es)[j]? = some u → w.cell? (ad.add j) = some u := by
  intro j u hu
  obtain ⟨e, he, hu2⟩ := flatT_cell hu
  have hl : 0 < es.length := by
    cases es with
    | nil => simp at he
    | cons _ _ => simp
  obtain ⟨b, off, hA, _, hc⟩ := h hl
  injection hA with hA
  subst hA
  rw [addr_add]
  obtain ⟨c1, c2, c3⟩ := hc _ _ he
  rcases hu2 with ⟨h0, rfl⟩ | ⟨h0, rfl⟩ | ⟨h0, rfl⟩
  · rw [show off + j = off + j / 3 * 3 by omega]
    exact c1
  · rw [show off + j = off + j / 3 * 3 + 1 by omega]
    exact c2
  · rw [show off + j = off + j / 3 * 3 + 2 by omega]
    exact c3
/-- A list of structs of three integers (type t) in a block of the call's own (from base on). -/
def OwnT (t : TypeId) (w : World) (base : Nat) (v : Value) (es : List (Int × Int × Int)) : Prop := w.ownsRow base t 3 v es.length (flatT es)
theorem OwnT.below {t : TypeId} {w w' : World} {base : Nat} {v : Value} {es : List (Int × Int × Int)} (h : OwnT t w base v es) (hb : Below w.heap.size w w') : OwnT t w' base v es := own_below h hb
theorem OwnT.slice {t : TypeId} {w : World} {base : Nat} {v : Value} {es : List (Int × Int × Int)} (h : OwnT t w base v es) : ∃ A c, v = .slice A es.length c ∧ Trips w w.heap.size A es ∧ (A = none → es.length = 0 ∧ c = 0) := by
  rcases h.2 with ⟨rfl, hn⟩ | ⟨g, cap, cur, rfl, hg, hgg, hnc, hcm, hcs, htake⟩
  · have : es = [] := List.eq_nil_of_length_eq_zero hn
    subst this
    exact ⟨none, 0, rfl, (fun h0 => absurd h0 (by simp)), fun _ => ⟨rfl, rfl⟩⟩
  · refine ⟨some ⟨g, 0, none⟩, cap, rfl, (fun _ => ⟨g, 0, rfl, (Array.getElem?_eq_some_iff.1 hgg).1, fun k e he => ?_⟩), fun e => by cases e⟩
    obtain ⟨h1, h2, h3⟩ := flatT_at he
    have h' : w.ownsRow base t 3 (.slice (some ⟨g, 0, none⟩) es.length cap) es.length (flatT es) := h
    have c1 := h'.cells (g := g) rfl _ _ h1
    have c2 := h'.cells (g := g) rfl _ _ h2
    have c3 := h'.cells (g := g) rfl _ _ h3
    rw [addr_add] at c1 c2 c3
    rw [show 0 + (k * 3 + 1) = 0 + k * 3 + 1 by omega] at c2
    rw [show 0 + (k * 3 + 2) = 0 + k * 3 + 2 by omega] at c3
    exact ⟨c1, c2, c3⟩
theorem OwnE.slice' {w : World} {base : Nat} {v : Value} {es : List (Int × Int)} (h : OwnE w base v es) : ∃ A c, v = .slice A es.length c ∧ Pairs w w.heap.size A es ∧ (A = none → es.length = 0 ∧ c = 0) := by
  obtain ⟨A, c, he, hp⟩ := h.slice
  refine ⟨A, c, he, hp, fun e => ?_⟩
  rcases h.2 with ⟨h1, hn⟩ | ⟨g, cap, cur, h1, _⟩
  · rw [he] at h1
    injection h1 with _ h2 h3
    exact ⟨h2, h3⟩
  · rw [he, e] at h1
    injection h1 with h2
    cases h2
theorem part_info : (Tryz.prog.info? 118).map (fun i => (i.zero, i.size, i.bytes)) = some (some (.agg #[.int .i64 0, .int .i64 0, .int .i64 0]), 3, 24) := by kernel_rfl
theorem future_info : (Tryz.prog.info? 220).map (fun i => (i.zero, i.size, i.bytes)) = some (some (.agg #[.int .i64 0, .int .i64 0, .int .i64 0]), 3, 24) := by kernel_rfl
theorem info_parts5 {P : Program} {t : TypeId} {z : Value} {s b : Nat} (h : (P.info? t).map (fun i => (i.zero, i.size, i.bytes)) = some (some z, s, b)) : ∃ i, P.info? t = some i ∧ i.zero = some z ∧ i.size = s ∧ i.bytes = b := by
  cases hi : P.info? t with
  | none => rw [hi] at h; cases h
  | some i =>
    rw [hi] at h
    simp at h
    exact ⟨i, rfl, h.1, h.2.1, h.2.2⟩
/-- An empty new row of elements of type t. -/
def NewRow (t : TypeId) (w : World) (base : Nat) (v : Value) : Prop := ∃ g, v = .slice (some ⟨g, 0, none⟩) 0 0 ∧ w.heap[g]? = some (.cells #[] t (0, 0)) ∧ base ≤ g
theorem NewRow.below {t : TypeId} {w w' : World} {base : Nat} {v : Value} (h : NewRow t w base v) (hb : Below w.heap.size w w') : NewRow t w' base v := by
  obtain ⟨g, e, hg, hl⟩ := h
  exact ⟨g, e, by rw [hb.block _ (Array.getElem?_eq_some_iff.1 hg).1]; exact hg, hl⟩
theorem newRow_here (t : TypeId) (w : World) (base : Nat) (hb : base ≤ w.heap.size) : NewRow t (w.alloc (.cells #[] t)) base (.slice (some ⟨w.heap.size, 0, none⟩) 0 0) := ⟨_, rfl, heap_alloc_new w _, hb⟩
/-- A new variable that holds a task without anything. -/
def NewDesc (w : World) (base : Nat) (v : Value) : Prop := ∃ g, v = .pointer (some ⟨g, 0, none⟩) ∧ w.heap[g]? = some (.cells #[.int .i64 0, .int .i64 0, .slice none 0 0, .slice none 0 0, .slice none 0 0, .slice none 0 0] 64 (0, 0)) ∧ base ≤ g
theorem NewDesc.below {w w' : World} {base : Nat} {v : Value} (h : NewDesc w base v) (hb : Below w.heap.size w w') : NewDesc w' base v := by
  obtain ⟨g, e, hg, hl⟩ := h
  exact ⟨g, e, by rw [hb.block _ (Array.getElem?_eq_some_iff.1 hg).1]; exact hg, hl⟩
/-- The task without its barriers, as it is built. -/
def OwnAgg (base : Nat) (p q : Int) (T : Task) (v : Value) (w : World) : Prop := ∃ u1 u2 u3, v = .agg #[.int .i64 p, .int .i64 q, u1, u2, u3, .slice none 0 0] ∧ OwnT 118 w base u1 T.parts ∧ OwnE w base u2 T.edges ∧ OwnT 220 w base u3 T.futures
theorem OwnAgg.below {base : Nat} {p q : Int} {T : Task} {v : Value} {w w' : World} (h : OwnAgg base p q T v w) (hb : Below w.heap.size w w') : OwnAgg base p q T v w' := by
  obtain ⟨u1, u2, u3, e, h1, h2, h3⟩ := h
  exact ⟨u1, u2, u3, e, h1.below hb, h2.below hb, h3.below hb⟩
/-- What the operations of Own's first region have yielded. -/
def OwnF (b base : Nat) (p q : Int) (s : Sh) (T : Task) : Nat → Value → World → Prop
  | 0, v, _ => v = .pointer (some ⟨b, 0, none⟩)
  | 1, v, _ => v = .int .i64 p
  | 2, v, _ => v = .pointer (some ⟨b, 1, none⟩)
  | 3, v, _ => v = .int .i64 q
  | 4, v, w => NewRow 118 w base v
  | 5, v, _ => v = .pointer (some ⟨b, 2, none⟩)
  | 6, v, _ => v = .slice s.P s.np s.pc
  | 7, v, w => OwnT 118 w base v T.parts
  | 8, v, w => NewRow 179 w base v
  | 9, v, _ => v = .pointer (some ⟨b, 3, none⟩)
  | 10, v, _ => v = .slice s.E s.ne s.ec
  | 11, v, w => OwnE w base v T.edges
  | 12, v, w => NewRow 220 w base v
  | 13, v, _ => v = .pointer (some ⟨b, 4, none⟩)
  | 14, v, _ => v = .slice s.F s.nf s.fc
  | 15, v, w => OwnT 220 w base v T.futures
  | 16, v, w => OwnAgg base p q T v w
  | 17, v, w => NewDesc w base v
  | _, _, _ => True
theorem ownF_below {b base : Nat} {p q : Int} {s : Sh} {T : Task} : ∀ (k : Nat) (v : Value) (w w' : World), OwnF b base p q s T k v w → Below w.heap.size w w' → OwnF b base p q s T k v w'
  | 0, _, _, _, h, _ | 1, _, _, _, h, _ | 2, _, _, _, h, _ | 3, _, _, _, h, _ | 5, _, _, _, h, _ | 6, _, _, _, h, _ | 9, _, _, _, h, _ | 10, _, _, _, h, _ | 13, _, _, _, h, _ | 14, _, _, _, h, _ => h
  | 4, _, _, _, h, hb => NewRow.below h hb
  | 8, _, _, _, h, hb => NewRow.below h hb
  | 12, _, _, _, h, hb => NewRow.below h hb
  | 7, _, _, _, h, hb => OwnT.below h hb
  | 11, _, _, _, h, hb => OwnE.below h hb
  | 15, _, _, _, h, hb => OwnT.below h hb
  | 16, _, _, _, h, hb => OwnAgg.below h hb
  | 17, _, _, _, h, hb => NewDesc.below h hb
  | _ + 18, _, _, _, _, _ => trivial
/-- A task in a variable of the call's own, without barriers yet: the three lists are its own. -/
structure OwnVar (base : Nat) (p q : Int) (T : Task) (g : Nat) (u1 u2 u3 : Value) (w : World) : Prop where
  row : w.heap[g]? = some (.cells #[.int .i64 p, .int .i64 q, u1, u2, u3, .slice none 0 0] 64 (0, 0))
  parts : OwnT 118 w base u1 T.parts
  edges : OwnE w base u2 T.edges
  futures : OwnT 220 w base u3 T.futures
  le : base ≤ g
theorem other_own {w w' : World} {base : Nat} {e t : TypeId} {s n g : Nat} {v : Value} {xs : List Value} {cs : Array Value} (h : w.ownsRow base e s v n xs) (hg : w.heap[g]? = some (.cells cs t (0, 0))) (ht : e ≠ t) (hk : ∀ k, k ≠ g → w'.heap[k]? = w.heap[k]?) : w'.ownsRow base e s v n xs := by
  refine ⟨h.1, ?_⟩
  rcases h.2 with hn | ⟨g', cap, cur, rfl, hg', hgg, rest⟩
  · exact .inl hn
  · refine .inr ⟨g', cap, cur, rfl, hg', ?_, rest⟩
    rw [hk g' (fun e1 => by
      subst e1
      rw [hg] at hgg
      injection hgg with hgg
      injection hgg with _ h2 _
      exact ht h2.symm)]
    exact hgg
set_option maxHeartbeats 1000000 in
theorem own_last {o : Oper} {a : Act} {x : World} {base : Nat} {p q : Int} {T : Task} {K : Act → World → Prop} {Q : Exit → Act → World → Prop} (s y : Operand) (hop : o.op = .store 64 s y) (hdst : o.dst = none)
    (f16 : OwnAgg base p q T (a.eval y) x) (f17 : NewDesc x base (a.eval s)) (hK : ∀ g u1 u2 u3 x', a.eval s = .pointer (some ⟨g, 0, none⟩) → a.eval y = .agg #[.int .i64 p, .int .i64 q, u1, u2, u3, .slice none 0 0] → OwnVar base p q T g u1 u2 u3 x' → Below base x x' → K a x') : o.wp Tryz.prog a x K Q := by
  obtain ⟨u1, u2, u3, e16, q1, q2, q3⟩ := f16
  obtain ⟨g, e17, hg, hgl⟩ := f17
  obtain ⟨A1, c1, rfl, _, _⟩ := q1.slice
  obtain ⟨A2, c2, rfl, _, _⟩ := q2.slice'
  obtain ⟨A3, c3, rfl, _, _⟩ := q3.slice
  have d0 := cell_of_row x g 0 _ _ _ hg
  have d1 := cell_of_row x g 1 _ _ _ hg
  have d2 := cell_of_row x g 2 _ _ _ hg
  have d3 := cell_of_row x g 3 _ _ _ hg
  have d4 := cell_of_row x g 4 _ _ _ hg
  have d5 := cell_of_row x g 5 _ _ _ hg
  have z0 := frozen_of_row x g 0 _ _ hg
  have z1 := frozen_of_row x g 1 _ _ hg
  have z2 := frozen_of_row x g 2 _ _ hg
  have z3 := frozen_of_row x g 3 _ _ hg
  have z4 := frozen_of_row x g 4 _ _ hg
  have z5 := frozen_of_row x g 5 _ _ hg
  simp at d0 d1 d2 d3 d4 d5
  have hlt : g < x.heap.size := (Array.getElem?_eq_some_iff.1 hg).1
  obtain ⟨x', hx'⟩ : ∃ x', x' = ((((((x.setCell ⟨g, 0, none⟩ (.int .i64 p)).setCell ⟨g, 1, none⟩ (.int .i64 q)).setCell ⟨g, 2, none⟩ (.slice A1 T.parts.length c1)).setCell ⟨g, 3, none⟩ (.slice A2 T.edges.length c2)).setCell ⟨g, 4, none⟩ (.slice A3 T.futures.length c3)).setCell ⟨g, 5, none⟩ (.slice none 0 0)) := ⟨_, rfl⟩
  have hr : (execOp a.eval o).run Tryz.prog x = .ok .skip x' := by
    rw [hx']
    simp only [execOp, hop]
    rw [e16, e17]
    simp [go_sem, d0, d1, d2, d3, d4, d5, z0, z1, z2, z3, z4, z5]
  have h1 := heap_setCell_same x g 0 _ _ (.int .i64 p) hg
  have h2 := heap_setCell_same _ g 1 _ _ (.int .i64 q) h1
  have h3 := heap_setCell_same _ g 2 _ _ (.slice A1 T.parts.length c1) h2
  have h4 := heap_setCell_same _ g 3 _ _ (.slice A2 T.edges.length c2) h3
  have h5 := heap_setCell_same _ g 4 _ _ (.slice A3 T.futures.length c3) h4
  have h6 := heap_setCell_same _ g 5 _ _ (.slice none 0 0) h5
  rw [← hx'] at h6
  have ho : ∀ k, k ≠ g → x'.heap[k]? = x.heap[k]? := fun k hk => by
    rw [hx', heap_setCell_other _ _ _ _ hk, heap_setCell_other _ _ _ _ hk, heap_setCell_other _ _ _ _ hk, heap_setCell_other _ _ _ _ hk, heap_setCell_other _ _ _ _ hk, heap_setCell_other _ _ _ _ hk]
  have hb : Below base x x' := by
    rw [hx']
    exact (((((((Below.refl base x).setCell hgl _).setCell hgl _).setCell hgl _).setCell hgl _).setCell hgl _).setCell hgl _)
  unfold Oper.wp
  rw [hr, Oper.upon_skip, hdst]
  exact hK g _ _ _ x' e17 e16 ⟨h6, other_own q1 hg (by decide) ho, other_own q2 hg (by decide) ho, other_own q3 hg (by decide) ho, hgl⟩ hb
end Go.Proofs.YtfahabphncmbfaaGreatDoor
