/- The contract of trefoilref05.edges in the seat YtpckmhmabmmllaaDoor. No statement is proved here. -/
import Derived.Test.YtpckmhmabmmllaaDoorZDescRow
import Derived.Test.YtpckmhmabmmllaaDoorZM2
import Derived.Test.YtpckmhmabmmllaaDoorZM1
set_option linter.unusedVariables false
namespace Go.Proofs.YtpckmhmabmmllaaDoor
open Go.RowKit

section
variable {P : Option Addr} {np pc : Nat} {E : Option Addr} {ne ec : Nat} {F : Option Addr} {nf fc : Nat} {R : Option Addr} {nr rc : Nat} {p q : Int}
/-- In the middle of a round: a task lies in its box, an edge in block g, the edges as they came. -/
structure BxE (w : World) (p q : Int) (P : Option Addr) (np pc : Nat) (E : Option Addr) (ne ec : Nat) (F : Option Addr) (nf fc : Nat) (R : Option Addr) (nr rc : Nat) (g : Nat) (x y : Int) (es : List (Int × Int)) (w' : World) : Prop where
  b : BxD w p q P np pc E ne ec F nf fc R nr rc w'
  e0 : w'.cell? ⟨g, 0, none⟩ = some (.int .i64 x)
  e1 : w'.cell? ⟨g, 1, none⟩ = some (.int .i64 y)
  l : Pairs w' w.heap.size E es
theorem BxE.next {w w1 w2 : World} {g : Nat} {x y : Int} {es : List (Int × Int)} (h : BxE w p q P np pc E ne ec F nf fc R nr rc g x y es w1) (hb : Below w1.heap.size w1 w2) : BxE w p q P np pc E ne ec F nf fc R nr rc g x y es w2 :=
  ⟨h.b.next hb, (hb.cell (World.block_lt_of_cell? _ _ h.e0)).trans h.e0, (hb.cell (World.block_lt_of_cell? _ _ h.e1)).trans h.e1, h.l.keep fun a ha => hb.cell (Nat.lt_of_lt_of_le ha h.b.bel.size)⟩
set_option maxRecDepth 100000 in
set_option maxHeartbeats 8000000 in
theorem dedges_any (es : List (Int × Int)) (r : Bool) (hr : r = true ↔ EdgesOk np es) (w : World) (hm : es.length = ne) (hl : ne ≤ 1000) (hP : Pairs w w.heap.size E es) :
    Calls Tryd.prog 30 #[.agg #[.int .i64 p, .int .i64 q, .slice P np pc, .slice E ne ec, .slice F nf fc, .slice R nr rc]] w fun e w' => e = .returned (.bool r) ∧ Below w.heap.size w w' := by
  have B0 := Lib.hid (BxD.start w p q P np pc E ne ec F nf fc R nr rc)
  have HM := Lib.hid hm
  have HR := Lib.hid hr
  have HP := Lib.hid hP
  clear hP hm hr
  go_enter Tryd.func30, Tryd.ntmps30
  go_wp2
  go_loopw [3] (fun v wr => ∃ k : Nat, k ≤ ne ∧ v = .int .i64 k ∧ Hid (BxD w p q P np pc E ne ec F nf fc R nr rc wr) ∧ Hid (EdgesOk np (es.take k))) (fun v _ => ne - (intOf v).toNat)
  case atStart => exact ⟨0, Nat.zero_le _, rfl, B0, Lib.hid ⟨fun e he => by simp at he, fun e he => by simp at he, by simp⟩⟩
  case round =>
    obtain ⟨k, hk, rfl, BR, HE⟩ := hrel
    obtain ⟨c0, c1, c2, c3, c4, c5⟩ := BR.out.cells
    have hlt0 := World.block_lt_of_cell? _ _ c0
    simp only at hlt0
    clear B0
    by_cases hlt : k < ne
    · have hPr := HP.out.below BR.out.bel
      obtain ⟨bk, off, ⟨x, y⟩, rfl, hbg, hek, d1, d2⟩ := hPr.at_ (k := k) (by rw [HM.out]; exact hlt)
      simp only at d1 d2
      have HS := Lib.hid (edgesOk_snoc (n := np) hek)
      have HBAD := Lib.hid (fun h : ¬ EdgesOk np (es.take (k + 1)) => show r = false by
        rw [← Bool.not_eq_true]
        exact fun z => h (edgesOk_take (HR.out.mp z) _))
      have C1 := Lib.hid (dpart_any (P := P) (np := np) (pc := pc) (E := some ⟨bk, off, none⟩) (ne := ne) (ec := ec) (F := F) (nf := nf) (fc := fc) (R := R) (nr := nr) (rc := rc) (p := p) (q := q) x)
      have C2 := Lib.hid (dpart_any (P := P) (np := np) (pc := pc) (E := some ⟨bk, off, none⟩) (ne := ne) (ec := ec) (F := F) (nf := nf) (fc := fc) (R := R) (nr := nr) (rc := rc) (p := p) (q := q) y)
      have X1 : Hid (BxE w p q P np pc (some ⟨bk, off, none⟩) ne ec F nf fc R nr rc wr.heap.size x y es (wr.alloc (.cells #[.int .i64 x, .int .i64 y] 44))) :=
        Lib.hid ⟨BR.out.next (below_alloc _), by rw [World.cell?_alloc_at _ _ _ _ rfl]; rfl, by rw [World.cell?_alloc_at _ _ _ _ rfl]; rfl, hPr.keep fun a ha => World.cell?_alloc_lt _ _ _ (Nat.lt_of_lt_of_le ha BR.out.bel.size)⟩
      clear hek hPr
      by_cases p1 : 0 ≤ x ∧ x < np
      · simp only [decide_eq_true p1] at C1
        by_cases p2 : 0 ≤ y ∧ y < np
        · simp only [decide_eq_true p2] at C2
          by_cases p3 : x = y
          · have HX := Lib.hid (HBAD.out (fun z => ((HS.out.mp z).2.2.2.1) p3))
            subst p3
            clear p1 p2
            go_wp2_with fail
            refine (C1.out _).mono ?_
            rintro e w2 ⟨rfl, b2⟩
            have X2 := Lib.hid (X1.out.next b2)
            clear b2 c0 c1 c2 c3 c4 c5 d1 d2
            obtain ⟨c0, c1, c2, c3, c4, c5⟩ := X2.out.b.cells
            have e0 := X2.out.e0
            have e1 := X2.out.e1
            go_wp2_with fail
            refine (C2.out _).mono ?_
            rintro e w3 ⟨rfl, b3⟩
            have X3 := Lib.hid (X2.out.next b3)
            clear b3 c0 c1 c2 c3 c4 c5 e0 e1
            have e0 := X3.out.e0
            have e1 := X3.out.e1
            go_wp2
            go_ret
            exact ⟨by rw [HX.out]; rfl, X3.out.b.bel⟩
          · have h3 : (x == y) = false := by simpa using p3
            have HP3 := Lib.hid p3
            have HP1 := Lib.hid p1
            have HP2 := Lib.hid p2
            clear p1 p2 p3
            go_wp2_with fail
            refine (C1.out _).mono ?_
            rintro e w2 ⟨rfl, b2⟩
            have X2 := Lib.hid (X1.out.next b2)
            clear b2 c0 c1 c2 c3 c4 c5 d1 d2
            obtain ⟨c0, c1, c2, c3, c4, c5⟩ := X2.out.b.cells
            have e0 := X2.out.e0
            have e1 := X2.out.e1
            go_wp2_with fail
            refine (C2.out _).mono ?_
            rintro e w3 ⟨rfl, b3⟩
            have X3 := Lib.hid (X2.out.next b3)
            clear b3 c0 c1 c2 c3 c4 c5 e0 e1 X1 X2
            have e0 := X3.out.e0
            have e1 := X3.out.e1
            go_wp2
            go_loopw [5] (fun v wq => ∃ t : Nat, t ≤ k ∧ v = .int .i64 t ∧ Hid (BxE w p q P np pc (some ⟨bk, off, none⟩) ne ec F nf fc R nr rc wr.heap.size x y es wq) ∧ Hid ((x, y) ∉ es.take t)) (fun v _ => k - (intOf v).toNat)
            case atStart => exact ⟨0, Nat.zero_le _, rfl, X3, Lib.hid (by simp)⟩
            case round =>
              clear e0 e1
              obtain ⟨t, ht, rfl, XQ, HNO⟩ := hrel
              by_cases hlt3 : t < k
              · obtain ⟨bk2, o2, ⟨u, v⟩, hfe, hbg2, heq, d1, d2⟩ := XQ.out.l.at_ (k := t) (by rw [HM.out]; omega)
                obtain ⟨rfl, rfl⟩ : bk2 = bk ∧ o2 = off := by injection hfe with h; injection h with h1 h2 _; exact ⟨h1.symm, h2.symm⟩
                simp only at d1 d2
                obtain ⟨b0, b1, b2, b3, b4, b5⟩ := XQ.out.b.cells
                have n3 := near_cell b3
                have n4 := near_cell XQ.out.e0
                have n5 := near_cell XQ.out.e1
                have n6 := near_cell d1
                have n7 := near_cell d2
                have htm : t < ne := by omega
                have HEQ := Lib.hid heq
                have HMS := Lib.hid (mem_take_snoc (x := (x, y)) heq)
                clear hfe b0 b1 b2 b3 b4 b5 d1 d2 heq
                by_cases hu : u = x
                · by_cases hv : v = y
                  · have HX := Lib.hid (HBAD.out (fun z => (HS.out.mp z).2.2.2.2 (by
                      subst hu hv
                      exact List.mem_of_getElem? (i := t) (by rw [List.getElem?_take, if_pos hlt3]; exact HEQ.out))))
                    subst hu hv
                    go_wp2
                    refine wp_region_near _ (by kernel_rfl) (by kernel_rfl) (Nat.le_refl _) ?_
                    repeat (go_big_quiet_step (fail))
                    refine wpQuiet_nil ?_
                    intro W hW
                    have XW := Lib.hid (XQ.out.next hW)
                    clear hW
                    go_wp2
                    go_ret
                    exact ⟨by rw [HX.out]; rfl, XW.out.b.bel⟩
                  · have hb : (v == y) = false := by simpa using hv
                    have HV := Lib.hid hv
                    subst hu
                    clear hv
                    go_wp2
                    refine wp_region_near _ (by kernel_rfl) (by kernel_rfl) (Nat.le_refl _) ?_
                    repeat (go_big_quiet_step (fail))
                    refine wpQuiet_nil ?_
                    intro W hW
                    have XW := Lib.hid (XQ.out.next hW)
                    clear hW
                    go_wp2
                    go_roundw
                    case rel => exact ⟨t + 1, by omega, by go_num, XW, Lib.hid (by rw [HMS.out]; rintro (h | h); exact HNO.out h; injection h with _ h; exact HV.out h.symm)⟩
                    case measure => simp [intOf]; omega
                · have hb : (u == x) = false := by simpa using hu
                  have HU := Lib.hid hu
                  clear hu
                  go_wp2
                  refine wp_region_near _ (by kernel_rfl) (by kernel_rfl) (Nat.le_refl _) ?_
                  repeat (go_big_quiet_step (fail))
                  refine wpQuiet_nil ?_
                  intro W hW
                  have XW := Lib.hid (XQ.out.next hW)
                  clear hW
                  go_wp2
                  go_roundw
                  case rel => exact ⟨t + 1, by omega, by go_num, XW, Lib.hid (by rw [HMS.out]; rintro (h | h); exact HNO.out h; injection h with h _; exact HU.out h.symm)⟩
                  case measure => simp [intOf]; omega
              · have e : t = k := by omega
                have HOK := Lib.hid (HS.out.mpr ⟨HE.out, HP1.out, HP2.out, HP3.out, by rw [← e]; exact HNO.out⟩)
                clear e
                go_wp2
                go_roundw
                case rel => exact ⟨k + 1, by omega, by go_num, Lib.hid XQ.out.b, HOK⟩
                case measure => simp [intOf]; omega
        · simp only [decide_eq_false p2] at C2
          have HX := Lib.hid (HBAD.out (fun z => p2 (HS.out.mp z).2.2.1))
          clear p1 p2
          go_wp2_with fail
          refine (C1.out _).mono ?_
          rintro e w2 ⟨rfl, b2⟩
          have X2 := Lib.hid (X1.out.next b2)
          clear b2 c0 c1 c2 c3 c4 c5 d1 d2
          obtain ⟨c0, c1, c2, c3, c4, c5⟩ := X2.out.b.cells
          have e0 := X2.out.e0
          have e1 := X2.out.e1
          go_wp2_with fail
          refine (C2.out _).mono ?_
          rintro e w3 ⟨rfl, b3⟩
          have X3 := Lib.hid (X2.out.next b3)
          clear b3 c0 c1 c2 c3 c4 c5 e0 e1
          go_wp2
          go_ret
          exact ⟨by rw [HX.out]; rfl, X3.out.b.bel⟩
      · simp only [decide_eq_false p1] at C1
        have HX := Lib.hid (HBAD.out (fun z => p1 (HS.out.mp z).2.1))
        clear p1
        go_wp2_with fail
        refine (C1.out _).mono ?_
        rintro e w2 ⟨rfl, b2⟩
        have X2 := Lib.hid (X1.out.next b2)
        clear b2 c0 c1 c2 c3 c4 c5 d1 d2
        go_wp2
        go_ret
        exact ⟨by rw [HX.out]; rfl, X2.out.b.bel⟩
    · have e : ne = k := by omega
      subst e
      have HYES := Lib.hid (show r = true from HR.out.mpr (by
        have h := HE.out
        rwa [List.take_of_length_le (by rw [HM.out]; omega)] at h))
      go_wp2
      go_ret
      exact ⟨by rw [HYES.out]; rfl, BR.out.bel⟩
end
end Go.Proofs.YtpckmhmabmmllaaDoor
