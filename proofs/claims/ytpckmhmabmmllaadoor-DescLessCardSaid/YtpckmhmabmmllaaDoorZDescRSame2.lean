/- The contract of desc.Same in the seat YtpckmhmabmmllaaDoor (printed by desc/mk_rsame2.py). No statement is proved here. -/
import Derived.Test.YtpckmhmabmmllaaDoorZDescSame2
import Derived.Test.YtpckmhmabmmllaaDoorZM11
set_option linter.unusedVariables false
namespace Go.Proofs.YtpckmhmabmmllaaDoor
open Go.RowKit

theorem drew_below {P : Program} {f : FuncId} {args : Array Value} {W : World} {r : Bool} (h : Calls P f args W fun e w' => e = .returned (.bool r) ∧ ∃ N, w' = W.drewN N) : Calls P f args W fun e w' => e = .returned (.bool r) ∧ Below W.heap.size W w' :=
  h.mono fun e w' ⟨he, N, hN⟩ => ⟨he, by rw [hN]; exact below_drewN (Below.refl _ _) N⟩
set_option maxRecDepth 100000 in
set_option maxHeartbeats 8000000 in
theorem same_any5 (s s' : Sh) (T T' : Task) (w : World) (hF : FewT T) (hF' : FewT T') (hT : IsT w w.heap.size s T) (hT' : IsT w w.heap.size s' T') :
    Calls Tryd.prog 14 #[s.arg T.period T.deadline, s'.arg T'.period T'.deadline] w fun e w' => e = .returned (.bool (decide (T = T'))) ∧ Below w.heap.size w w' := by
  have B0 := Lib.hid (BxS.start T.period T.deadline T'.period T'.deadline hT hT')
  obtain ⟨P, np, pc, E, ne, ec, F, nf, fc, R, nr, rc⟩ := s
  obtain ⟨P', np', pc', E', ne', ec', F', nf', fc', R', nr', rc'⟩ := s'
  obtain ⟨p, q, ps, es, fs, bs⟩ := T
  obtain ⟨p', q', ps', es', fs', bs'⟩ := T'
  have hp := hT.hp
  have he := hT.he
  have hf := hT.hf
  have hr := hT.hr
  have hp' := hT'.hp
  have he' := hT'.he
  have hf' := hT'.hf
  have hr' := hT'.hr
  have ln := hF.np
  have le := hF.ne
  have lf := hF.nf
  have lr := hF.nr
  have ln' := hF'.np
  have le' := hF'.ne
  have lf' := hF'.nf
  have lr' := hF'.nr
  have hBL := hF.bars
  have hBL' := hF'.bars
  simp only at hp he hf hr hp' he' hf' hr' ln le lf lr ln' le' lf' lr' hBL hBL'
  rw [hp] at ln
  rw [he] at le
  rw [hf] at lf
  rw [hr] at lr
  rw [hp'] at ln'
  rw [he'] at le'
  rw [hf'] at lf'
  rw [hr'] at lr'
  simp only [Sh.arg]
  simp only at B0
  obtain ⟨X, hX⟩ : ∃ X : World → Prop, X = BxS w p q ⟨P, np, pc, E, ne, ec, F, nf, fc, R, nr, rc⟩ ⟨p, q, ps, es, fs, bs⟩ p' q' ⟨P', np', pc', E', ne', ec', F', nf', fc', R', nr', rc'⟩ ⟨p', q', ps', es', fs', bs'⟩ := ⟨_, rfl⟩
  have HX := Lib.hid hX
  have C2 := Lib.hid (fun (r : Bool) (hr : r = true ↔ ps = ps') (W : World) (h : X W) => drew_below (eq_parts W.heap.size P P' pc pc' np np' ps ps' r hr W hp hp' (by omega) (by omega) (by rw [hX] at h; exact h.t.parts) (by rw [hX] at h; exact h.t'.parts)))
  have C3 := Lib.hid (fun (r : Bool) (hr : r = true ↔ es = es') (W : World) (h : X W) => drew_below (eq_edges' W.heap.size E E' ec ec' ne ne' es es' r hr W he he' (by omega) (by omega) (by rw [hX] at h; exact h.t.edges) (by rw [hX] at h; exact h.t'.edges)))
  have C4 := Lib.hid (fun (r : Bool) (hr : r = true ↔ fs = fs') (W : World) (h : X W) => drew_below (eq_futures W.heap.size F F' fc fc' nf nf' fs fs' r hr W hf hf' (by omega) (by omega) (by rw [hX] at h; exact h.t.futures) (by rw [hX] at h; exact h.t'.futures)))
  have C5 := Lib.hid (fun (r : Bool) (hr0 : r = true ↔ bs = bs') (W : World) (h : X W) => eq_bars R R' rc rc' nr nr' bs bs' r hr0 W hr hr' (by omega) (by omega) hBL hBL' (by rw [hX] at h; exact h.t.bars) (by rw [hX] at h; exact h.t'.bars))
  have XN := Lib.hid (fun (w1 w2 : World) (h : X w1) (hb : Below w1.heap.size w1 w2) => show X w2 by rw [hX] at h ⊢; exact h.next hb)
  have XC := Lib.hid (fun (W : World) (h : X W) => show W.cell? ⟨w.heap.size, 1, none⟩ = some (.int .i64 q) ∧ W.cell? ⟨w.heap.size + 1, 1, none⟩ = some (.int .i64 q') ∧ W.cell? ⟨w.heap.size, 2, none⟩ = some (.slice P np pc) ∧ W.cell? ⟨w.heap.size + 1, 2, none⟩ = some (.slice P' np' pc') ∧ W.cell? ⟨w.heap.size, 3, none⟩ = some (.slice E ne ec) ∧ W.cell? ⟨w.heap.size + 1, 3, none⟩ = some (.slice E' ne' ec') ∧ W.cell? ⟨w.heap.size, 4, none⟩ = some (.slice F nf fc) ∧ W.cell? ⟨w.heap.size + 1, 4, none⟩ = some (.slice F' nf' fc') ∧ W.cell? ⟨w.heap.size, 5, none⟩ = some (.slice R nr rc) ∧ W.cell? ⟨w.heap.size + 1, 5, none⟩ = some (.slice R' nr' rc') by
    rw [hX] at h
    exact ⟨h.b.c1, h.d1, h.b.c2, h.d2, h.b.c3, h.d3, h.b.c4, h.d4, h.b.c5, h.d5⟩)
  have XB := Lib.hid (fun (W : World) (h : X W) => show Below w.heap.size w W by rw [hX] at h; exact h.b.bel)
  rw [← hX] at B0
  have HEQ : Hid ((⟨p, q, ps, es, fs, bs⟩ : Task) = ⟨p', q', ps', es', fs', bs'⟩ ↔ p = p' ∧ q = q' ∧ ps = ps' ∧ es = es' ∧ fs = fs' ∧ bs = bs') := Lib.hid (by rw [Task.mk.injEq])
  obtain ⟨r, hres⟩ : ∃ r, r = decide ((⟨p, q, ps, es, fs, bs⟩ : Task) = ⟨p', q', ps', es', fs', bs'⟩) := ⟨_, rfl⟩
  rw [← hres]
  have HRES := Lib.hid hres
  have HYES := Lib.hid (fun h : p = p' ∧ q = q' ∧ ps = ps' ∧ es = es' ∧ fs = fs' ∧ bs = bs' => show r = true by rw [HRES.out]; exact decide_eq_true (HEQ.out.mpr h))
  have HNO := Lib.hid (fun h : ¬ (p = p' ∧ q = q' ∧ ps = ps' ∧ es = es' ∧ fs = fs' ∧ bs = bs') => show r = false by rw [HRES.out]; exact decide_eq_false fun k => h (HEQ.out.mp k))
  clear hX hT hT' hF hF' hp he hf hr hp' he' hf' hr' hres hBL hBL' ln le lf lr ln' le' lf' lr'
  by_cases p0 : p = p'
  · have P0 := Lib.hid p0
    have g0 : (p == p') = true := by simpa using p0
    clear p0
    by_cases p1 : q = q'
    · have P1 := Lib.hid p1
      have g1 : (q == q') = true := by simpa using p1
      clear p1
      by_cases p2 : ps = ps'
      · have P2 := Lib.hid p2
        clear p2
        by_cases p3 : es = es'
        · have P3 := Lib.hid p3
          clear p3
          by_cases p4 : fs = fs'
          · have P4 := Lib.hid p4
            clear p4
            by_cases p5 : bs = bs'
            · have P5 := Lib.hid p5
              clear p5
              have HR := Lib.hid (HYES.out ⟨P0.out, P1.out, P2.out, P3.out, P4.out, P5.out⟩)
              go_enter Tryd.func14, Tryd.ntmps14
              go_wp2_with fail
              refine (C2.out true ⟨fun _ => P2.out, fun _ => rfl⟩ _ B0.out).mono ?_
              rintro e w1 ⟨rfl, b⟩
              have B1 := Lib.hid (XN.out _ _ B0.out b)
              clear b
              obtain ⟨k1, k2, k3, k4, k5, k6, k7, k8, k9, k10⟩ := XC.out _ B1.out
              go_wp2_with fail
              refine (C3.out true ⟨fun _ => P3.out, fun _ => rfl⟩ _ B1.out).mono ?_
              rintro e w2 ⟨rfl, b⟩
              have B2 := Lib.hid (XN.out _ _ B1.out b)
              clear b k1 k2 k3 k4 k5 k6 k7 k8 k9 k10
              obtain ⟨k1, k2, k3, k4, k5, k6, k7, k8, k9, k10⟩ := XC.out _ B2.out
              go_wp2_with fail
              refine (C4.out true ⟨fun _ => P4.out, fun _ => rfl⟩ _ B2.out).mono ?_
              rintro e w3 ⟨rfl, b⟩
              have B3 := Lib.hid (XN.out _ _ B2.out b)
              clear b k1 k2 k3 k4 k5 k6 k7 k8 k9 k10
              obtain ⟨k1, k2, k3, k4, k5, k6, k7, k8, k9, k10⟩ := XC.out _ B3.out
              go_wp2_with fail
              refine (C5.out true ⟨fun _ => P5.out, fun _ => rfl⟩ _ B3.out).mono ?_
              rintro e w4 ⟨rfl, b⟩
              have B4 := Lib.hid (XN.out _ _ B3.out b)
              clear b k1 k2 k3 k4 k5 k6 k7 k8 k9 k10
              go_wp2
              go_ret
              exact ⟨by rw [HR.out]; rfl, XB.out _ B4.out⟩
            · have P5 := Lib.hid p5
              clear p5
              have HR := Lib.hid (HNO.out fun k => P5.out k.2.2.2.2.2)
              go_enter Tryd.func14, Tryd.ntmps14
              go_wp2_with fail
              refine (C2.out true ⟨fun _ => P2.out, fun _ => rfl⟩ _ B0.out).mono ?_
              rintro e w1 ⟨rfl, b⟩
              have B1 := Lib.hid (XN.out _ _ B0.out b)
              clear b
              obtain ⟨k1, k2, k3, k4, k5, k6, k7, k8, k9, k10⟩ := XC.out _ B1.out
              go_wp2_with fail
              refine (C3.out true ⟨fun _ => P3.out, fun _ => rfl⟩ _ B1.out).mono ?_
              rintro e w2 ⟨rfl, b⟩
              have B2 := Lib.hid (XN.out _ _ B1.out b)
              clear b k1 k2 k3 k4 k5 k6 k7 k8 k9 k10
              obtain ⟨k1, k2, k3, k4, k5, k6, k7, k8, k9, k10⟩ := XC.out _ B2.out
              go_wp2_with fail
              refine (C4.out true ⟨fun _ => P4.out, fun _ => rfl⟩ _ B2.out).mono ?_
              rintro e w3 ⟨rfl, b⟩
              have B3 := Lib.hid (XN.out _ _ B2.out b)
              clear b k1 k2 k3 k4 k5 k6 k7 k8 k9 k10
              obtain ⟨k1, k2, k3, k4, k5, k6, k7, k8, k9, k10⟩ := XC.out _ B3.out
              go_wp2_with fail
              refine (C5.out false ⟨fun k => Bool.noConfusion k, fun k => absurd k P5.out⟩ _ B3.out).mono ?_
              rintro e w4 ⟨rfl, b⟩
              have B4 := Lib.hid (XN.out _ _ B3.out b)
              clear b k1 k2 k3 k4 k5 k6 k7 k8 k9 k10
              go_wp2
              go_ret
              exact ⟨by rw [HR.out]; rfl, XB.out _ B4.out⟩
          · have P4 := Lib.hid p4
            clear p4
            have HR := Lib.hid (HNO.out fun k => P4.out k.2.2.2.2.1)
            go_enter Tryd.func14, Tryd.ntmps14
            go_wp2_with fail
            refine (C2.out true ⟨fun _ => P2.out, fun _ => rfl⟩ _ B0.out).mono ?_
            rintro e w1 ⟨rfl, b⟩
            have B1 := Lib.hid (XN.out _ _ B0.out b)
            clear b
            obtain ⟨k1, k2, k3, k4, k5, k6, k7, k8, k9, k10⟩ := XC.out _ B1.out
            go_wp2_with fail
            refine (C3.out true ⟨fun _ => P3.out, fun _ => rfl⟩ _ B1.out).mono ?_
            rintro e w2 ⟨rfl, b⟩
            have B2 := Lib.hid (XN.out _ _ B1.out b)
            clear b k1 k2 k3 k4 k5 k6 k7 k8 k9 k10
            obtain ⟨k1, k2, k3, k4, k5, k6, k7, k8, k9, k10⟩ := XC.out _ B2.out
            go_wp2_with fail
            refine (C4.out false ⟨fun k => Bool.noConfusion k, fun k => absurd k P4.out⟩ _ B2.out).mono ?_
            rintro e w3 ⟨rfl, b⟩
            have B3 := Lib.hid (XN.out _ _ B2.out b)
            clear b k1 k2 k3 k4 k5 k6 k7 k8 k9 k10
            go_wp2
            go_ret
            exact ⟨by rw [HR.out]; rfl, XB.out _ B3.out⟩
        · have P3 := Lib.hid p3
          clear p3
          have HR := Lib.hid (HNO.out fun k => P3.out k.2.2.2.1)
          go_enter Tryd.func14, Tryd.ntmps14
          go_wp2_with fail
          refine (C2.out true ⟨fun _ => P2.out, fun _ => rfl⟩ _ B0.out).mono ?_
          rintro e w1 ⟨rfl, b⟩
          have B1 := Lib.hid (XN.out _ _ B0.out b)
          clear b
          obtain ⟨k1, k2, k3, k4, k5, k6, k7, k8, k9, k10⟩ := XC.out _ B1.out
          go_wp2_with fail
          refine (C3.out false ⟨fun k => Bool.noConfusion k, fun k => absurd k P3.out⟩ _ B1.out).mono ?_
          rintro e w2 ⟨rfl, b⟩
          have B2 := Lib.hid (XN.out _ _ B1.out b)
          clear b k1 k2 k3 k4 k5 k6 k7 k8 k9 k10
          go_wp2
          go_ret
          exact ⟨by rw [HR.out]; rfl, XB.out _ B2.out⟩
      · have P2 := Lib.hid p2
        clear p2
        have HR := Lib.hid (HNO.out fun k => P2.out k.2.2.1)
        go_enter Tryd.func14, Tryd.ntmps14
        go_wp2_with fail
        refine (C2.out false ⟨fun k => Bool.noConfusion k, fun k => absurd k P2.out⟩ _ B0.out).mono ?_
        rintro e w1 ⟨rfl, b⟩
        have B1 := Lib.hid (XN.out _ _ B0.out b)
        clear b
        go_wp2
        go_ret
        exact ⟨by rw [HR.out]; rfl, XB.out _ B1.out⟩
    · have P1 := Lib.hid p1
      have g1 : (q == q') = false := by simpa using p1
      clear p1
      have HR := Lib.hid (HNO.out fun k => P1.out k.2.1)
      go_enter Tryd.func14, Tryd.ntmps14
      go_wp2
      go_ret
      exact ⟨by rw [HR.out]; rfl, XB.out _ B0.out⟩
  · have P0 := Lib.hid p0
    have g0 : (p == p') = false := by simpa using p0
    clear p0
    have HR := Lib.hid (HNO.out fun k => P0.out k.1)
    go_enter Tryd.func14, Tryd.ntmps14
    go_wp2
    go_ret
    exact ⟨by rw [HR.out]; rfl, XB.out _ B0.out⟩
end Go.Proofs.YtpckmhmabmmllaaDoor
