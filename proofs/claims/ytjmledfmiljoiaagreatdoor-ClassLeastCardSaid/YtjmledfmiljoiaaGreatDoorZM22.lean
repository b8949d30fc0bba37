/- The contract of class.Shape, in the seat YtjmledfmiljoiaaGreatDoor (printed by class/mk_shape.py).
   Layer 14's example, in plain words, in the seat YtjmledfmiljoiaaGreatDoor.
   The contracts of class.Cores and Bound, in the seat YtjmledfmiljoiaaGreatDoor (printed by class/mk_cores.py).
   The contract of awake of trefoillaw14 in the seat YtjmledfmiljoiaaGreatDoor.
   What layer 14's rows hand over: a shape, in the seat YtjmledfmiljoiaaGreatDoor.
   No statement is proved here. -/
import Derived.Test.YtjmledfmiljoiaaGreatDoorZM3
import Derived.Test.YtjmledfmiljoiaaGreatDoorZM5
import Derived.Test.YtjmledfmiljoiaaGreatDoorZM21
import Derived.Test.YtjmledfmiljoiaaGreatDoorZM20
import Derived.BigQuiet
import Derived.Test.YtjmledfmiljoiaaGreatDoorZM1
import Derived.Lib.SmallJoins
set_option linter.unusedSimpArgs false
set_option linter.unusedVariables false
set_option linter.unusedSimpArgs false
namespace Go.Proofs.YtjmledfmiljoiaaGreatDoor
open Go Go.RowKit

theorem Rwk.set5 {w0 w : World} {L : List (TypeId × List Value)} (h : Rwk w0 L w) (i : Nat) {t : TypeId} {a b c d e : Value} (hi : L[i]? = some (t, [a, b, c, d, e])) (u v x y z : Value) :
    Rwk w0 (L.set i (t, [u, v, x, y, z])) (((((w.setCell ⟨w0.heap.size + i, 0, none⟩ u).setCell ⟨w0.heap.size + i, 1, none⟩ v).setCell ⟨w0.heap.size + i, 2, none⟩ x).setCell ⟨w0.heap.size + i, 3, none⟩ y).setCell ⟨w0.heap.size + i, 4, none⟩ z) := by
  have hl : i < L.length := (List.getElem?_eq_some_iff.mp hi).1
  have h1 := h.set i 0 hi u
  have h2 := h1.set i 1 (List.getElem?_set_self hl) v
  rw [List.set_set] at h2
  have h3 := h2.set i 2 (List.getElem?_set_self hl) x
  rw [List.set_set] at h3
  have h4 := h3.set i 3 (List.getElem?_set_self hl) y
  rw [List.set_set] at h4
  have h5 := h4.set i 4 (List.getElem?_set_self hl) z
  rw [List.set_set] at h5
  exact h5
/-- The boxes of Shape, and the graph that it was lowered to. -/
structure BxShp (wf : World) (L : List (TypeId × List Value)) (g : Nat) (A : Option Addr) (n c : Nat) (F : Option Addr) (m d : Nat) (vR : Value) (W : List Int) (E : List (Int × Int)) (w : World) : Prop where
  b : Rwk wf L w
  r : RowV g 65 [.slice A n c, .slice F m d, vR] w
  l : IsG w A n c F m d W E
theorem BxShp.next {wf : World} {L : List (TypeId × List Value)} {g : Nat} {A : Option Addr} {n c : Nat} {F : Option Addr} {m d : Nat} {vR : Value} {W : List Int} {E : List (Int × Int)} {w w' : World} (h : BxShp wf L g A n c F m d vR W E w) (hb : Below w.heap.size w w') : BxShp wf L g A n c F m d vR W E w' :=
  ⟨h.b.next hb, h.r.below hb h.r.lt, h.l.below hb⟩
def PhiSp (wf : World) (g : Nat) (A : Option Addr) (n c : Nat) (F : Option Addr) (m d : Nat) (tot lg mx D P : Int) : Nat → Value → World → Prop
  | 0, v, w => v = .pointer (some ⟨g, 0, none⟩)
  | 1, v, w => v = .agg #[.slice A n c, .slice F m d]
  | 2, v, w => v = .int .i64 tot
  | 3, v, w => v = .pointer (some ⟨g, 0, none⟩)
  | 4, v, w => v = .agg #[.slice A n c, .slice F m d]
  | 5, v, w => v = .int .i64 lg
  | 6, v, w => v = .pointer (some ⟨g, 0, none⟩)
  | 7, v, w => v = .pointer (some ⟨g, 0, none⟩)
  | 8, v, w => v = .slice A n c
  | 9, v, w => v = .int .i64 mx
  | 10, v, w => v = .pointer (some ⟨wf.heap.size, 1, none⟩)
  | 11, v, w => v = .int .i64 D
  | 12, v, w => v = .pointer (some ⟨wf.heap.size, 0, none⟩)
  | 13, v, w => v = .int .i64 P
  | 14, v, w => v = .agg #[.int .i64 tot, .int .i64 lg, .int .i64 mx, .int .i64 D, .int .i64 P]
  | _, _, _ => True
theorem phiSp_below {wf : World} {g : Nat} {A : Option Addr} {n c : Nat} {F : Option Addr} {m d : Nat} {tot lg mx D P : Int} : ∀ kq v w w', PhiSp wf g A n c F m d tot lg mx D P kq v w → Below w.heap.size w w' → PhiSp wf g A n c F m d tot lg mx D P kq v w' := by
  intro kq v w w' h hb
  match kq, h with
  | 0, h => exact h
  | 1, h => exact h
  | 2, h => exact h
  | 3, h => exact h
  | 4, h => exact h
  | 5, h => exact h
  | 6, h => exact h
  | 7, h => exact h
  | 8, h => exact h
  | 9, h => exact h
  | 10, h => exact h
  | 11, h => exact h
  | 12, h => exact h
  | 13, h => exact h
  | 14, h => exact h
  | kq + 15, h => exact trivial
def ThtSp (wf : World) (dv : List Value) (g : Nat) (A : Option Addr) (n c : Nat) (F : Option Addr) (m d : Nat) (vR : Value) (W : List Int) (E : List (Int × Int)) (tot lg mx D P : Int) (t : Nat) (f : Nat → Value) (w : World) : Prop :=
  15 ≤ t ∧ t ≤ 17 ∧ f 29 = .agg #[.int .i64 tot, .int .i64 lg, .int .i64 mx, .int .i64 D, .int .i64 P] ∧ (t ≤ 15 → BxShp wf [(37, dv), (23, [.int .i64 0, .int .i64 0, .int .i64 0, .int .i64 0, .int .i64 0])] g A n c F m d vR W E w) ∧ (16 ≤ t → Rwk wf [(37, dv), (23, [.int .i64 tot, .int .i64 lg, .int .i64 mx, .int .i64 D, .int .i64 P])] w) ∧ (t = 17 → f 3 = .int .i64 0)
theorem load_shape {w : World} {q : Nat} {a b c d e : Value} (h : RowV q 23 [a, b, c, d, e] w) : (loadVar 23 ⟨q, 0, none⟩).run Tryz.prog w = .ok (.agg #[a, b, c, d, e]) w :=
  run_loadVar_row _ q _ _ _ _ _ h Tryz.underlying23 rfl (by kernel_rfl)
theorem ret_shape {fn : Func} {p u : Tmp} (h : fn.results = #[.cell p 23, .tmp u]) {tmps : Array Value} {w : World} {q : Nat} {a b c d e x : Value} (hp : tmps.getD p undef = .pointer (some ⟨q, 0, none⟩)) (hu : tmps.getD u undef = x) (h1 : RowV q 23 [a, b, c, d, e] w) :
    (results fn tmps).run Tryz.prog w = .ok (.tuple #[.agg #[a, b, c, d, e], x]) w := by
  rw [results_cell_tmp h, hp, hu]
  simp [asAddr, load_shape h1, Result.andThen]
open Classical in
noncomputable def shapeT (T : Task) : Shp := if LowOk T then ⟨totalV (lowWv T) (lowEv T), longV (lowWv T) (lowEv T), maxL (lowWv T), T.deadline, T.period⟩ else ⟨0, 0, 0, 0, 0⟩
theorem low_work {T : Task} (h : LowOk T) : 1 ≤ (lowWv T).length ∧ ∀ z ∈ lowWv T, 0 ≤ z ∧ z ≤ 1000000 := by
  have hM := h.2
  have e := (low_yes h).1
  rw [e]
  refine ⟨?_, fun z hz => by have := hM.work z hz; omega⟩
  rw [lowW_len h.1]
  have := h.1.few
  unfold ManyT at this
  omega
set_option maxRecDepth 100000 in
set_option maxHeartbeats 32000000 in
theorem cshape_any (s : Sh) (T : Task) (wf : World) (hD : IsD wf s T) : Calls Tryz.prog 16 #[s.arg T.period T.deadline] wf
    fun e w' => e = .returned (.tuple #[(shapeT T).val, .int .i64 (lowX T)]) ∧ Below wf.heap.size wf w' := by
  have HLW := Lib.hid (fun W (b : Below wf.heap.size wf W) => lower_got s T W (hD.below b))
  have hsz := lows_few (T := T)
  obtain ⟨sP, np, pc, sE, ne, ec, sF, nf, fc, sR, nr, rc⟩ := s
  clear hD
  by_cases hX : lowX T = 0
  · have hOK := lowX_zero.mp hX
    obtain ⟨hw1, hw2⟩ := low_work hOK
    have hw3 := hsz hX
    have hsv : shapeT T = ⟨totalV (lowWv T) (lowEv T), longV (lowWv T) (lowEv T), maxL (lowWv T), T.deadline, T.period⟩ := if_pos hOK
    rw [hX] at HLW
    rw [hsv, hX]
    unfold Shp.val
    obtain ⟨P, hP⟩ : ∃ P, P = T.period := ⟨_, rfl⟩
    obtain ⟨D, hDe⟩ : ∃ P, P = T.deadline := ⟨_, rfl⟩
    obtain ⟨tot, htot⟩ : ∃ P, P = totalV (lowWv T) (lowEv T) := ⟨_, rfl⟩
    obtain ⟨lg, hlg⟩ : ∃ P, P = longV (lowWv T) (lowEv T) := ⟨_, rfl⟩
    obtain ⟨mx, hmx⟩ : ∃ P, P = maxL (lowWv T) := ⟨_, rfl⟩
    obtain ⟨n, hn⟩ : ∃ n, n = (lowWv T).length := ⟨_, rfl⟩
    obtain ⟨m, hm⟩ : ∃ n, n = (lowEv T).length := ⟨_, rfl⟩
    obtain ⟨z, hz⟩ : ∃ n, n = (lowPv T).length := ⟨_, rfl⟩
    obtain ⟨W, hW⟩ : ∃ W, W = lowWv T := ⟨_, rfl⟩
    obtain ⟨E, hE⟩ : ∃ W, W = lowEv T := ⟨_, rfl⟩
    obtain ⟨Q, hQ⟩ : ∃ W, W = lowPv T := ⟨_, rfl⟩
    dsimp only
    rw [← hP, ← hDe, ← hn, ← hm, ← hz, ← hW, ← hE, ← hQ] at HLW
    rw [← hn] at hw1 hw3
    rw [← hP, ← hDe, ← htot, ← hlg, ← hmx]
    rw [← hW] at hw2 hn hmx
    rw [← hW, ← hE] at htot hlg
    have HTO : ∀ {A c F d} (w : World), IsG w A n c F m d W E → Calls Tryz.prog 28 #[.agg #[.slice A n c, .slice F m d]] w fun e w' => e = .returned (.int .i64 tot) ∧ Below w.heap.size w w' := fun {A c F d} w h => by rw [htot]; exact total_done w h
    have HLO : ∀ {A c F d} (w : World), IsG w A n c F m d W E → Calls Tryz.prog 29 #[.agg #[.slice A n c, .slice F m d]] w fun e w' => e = .returned (.int .i64 lg) ∧ Below w.heap.size w w' := fun {A c F d} w h => by rw [hlg]; exact long_done w h
    have HMX : ∀ {A c F d} (w : World), IsG w A n c F m d W E → Calls Tryz.prog 30 #[.slice A n c] w fun e w' => e = .returned (.int .i64 mx) ∧ w = w' := fun {A c F d} w h => by rw [hmx]; exact smax_any A n c W w hn.symm hw1 (by omega) hw2 h.ints
    clear hm htot hlg hmx hsv hOK hw2 hX hsz hP hDe hz hW hE hQ
    have B0 := Lib.hid (Rwk.start wf [(37, [.int .i64 P, .int .i64 D, .slice sP np pc, .slice sE ne ec, .slice sF nf fc, .slice sR nr rc]), (23, [.int .i64 0, .int .i64 0, .int .i64 0, .int .i64 0, .int .i64 0])])
    obtain ⟨dv, hdv⟩ : ∃ dv : List Value, dv = [.int .i64 P, .int .i64 D, .slice sP np pc, .slice sE ne ec, .slice sF nf fc, .slice sR nr rc] := ⟨_, rfl⟩
    dsimp only [Sh.arg] at HLW ⊢
    have HTO' := @HTO
    have HLO' := @HLO
    have HMX' := @HMX
    clear HTO HLO HMX
    have HN := Lib.hid hn
    clear hn
    go_enter Tryz.func16, Tryz.ntmps16
    go_wp2_with fail
    refine (HLW.out _ B0.out.bel).mono ?_
    rintro e w1 ⟨A, c, F, d, R, k, rfl, hL, b⟩
    have HTO := Lib.hid (fun w h => HTO' (A := A) (c := c) (F := F) (d := d) w h)
    have HLO := Lib.hid (fun w h => HLO' (A := A) (c := c) (F := F) (d := d) w h)
    have HMX := Lib.hid (fun w h => HMX' (A := A) (c := c) (F := F) (d := d) w h)
    clear HTO' HLO' HMX' HLW
    have HB := Lib.hid (show BxShp wf _ w1.heap.size A n c F m d (.slice R z k) W E (w1.alloc (.cells #[.slice A n c, .slice F m d, .slice R z k] 65)) from ⟨(B0.out.next b).next (below_alloc _), RowV.new _ _ _, hL.g.below (below_alloc _)⟩)
    clear b hL B0
    rw [← hdv] at HB
    go_wp2_with fail
    obtain ⟨g, hg⟩ : ∃ g, g = w1.heap.size := ⟨_, rfl⟩
    obtain ⟨w2, hw2⟩ : ∃ w2, w2 = w1.alloc (.cells #[.slice A n c, .slice F m d, .slice R z k] 65) := ⟨_, rfl⟩
    rw [← hw2, ← hg] at HB
    rw [← hw2, ← hg]
    clear hw2 hg
    refine wp_region_tail 15 [15, 16, 17, 18, 19, 20, 21, 22, 23, 24, 25, 26, 27, 28, 29, 1000, 3] [] (by kernel_rfl) (by kernel_rfl) (by intro d hd; simp at hd ⊢; omega) (BxShp wf [(37, dv), (23, [.int .i64 0, .int .i64 0, .int .i64 0, .int .i64 0, .int .i64 0])] g A n c F m d (.slice R z k) W E) (PhiSp wf g A n c F m d tot lg mx D P) (fun _ _ => True) (ThtSp wf dv g A n c F m d (.slice R z k) W E tot lg mx D P)
      (fun y y' h hb => h.next hb) phiSp_below (HB.out.next (Below.refl _ _).drew) ?hstep ?hloose ?hmid ?htail ?hcon ?hend
    case hstep =>
      intro kq o hkm hkF ho a1 w hI hA hd K hK
      obtain ⟨ρ, hρ⟩ : ∃ ρ, a1.eval = ρ := ⟨_, rfl⟩
      rw [hρ] at hA hd
      match kq, hkm, hkF, ho with
      | 0, _, _, ho =>
        have hoo := Option.some.inj ho
        subst hoo
        exact fx_val hK hρ (.pointer (some ⟨g, 0, none⟩)) (by have h := hA.tmp 4 (by decide); simp [execOp, h, go_sem]) rfl
      | 1, _, _, ho =>
        have hoo := Option.some.inj ho
        subst hoo
        have f0 : ρ (.tmp 15) = .pointer (some ⟨g, 0, none⟩) := hd ⟨0, .data⟩ (by simp) (by rfl) (by decide)
        have q0 := hI.r.cell (j := 0) rfl
        have q1 := hI.r.cell (j := 1) rfl
        exact fx_val hK hρ (.agg #[.slice A n c, .slice F m d]) (by simp [execOp, f0, q0, q1, go_sem]) rfl
      | 2, _, _, ho =>
        have hoo := Option.some.inj ho
        subst hoo
        have f1 : ρ (.tmp 16) = .agg #[.slice A n c, .slice F m d] := hd ⟨1, .data⟩ (by simp) (by rfl) (by decide)
        exact fx_call hK hρ 28 _ _ #[.agg #[.slice A n c, .slice F m d]] rfl (by simp only [List.map_toArray, List.map_cons, List.map_nil, hA.const, f1]) (eg_of Tryz.func28 (by kernel_rfl) rfl) ((HTO.out w hI.l).mono fun e w' ⟨he, hb⟩ => ⟨_, he, rfl, hb⟩)
      | 3, _, _, ho =>
        have hoo := Option.some.inj ho
        subst hoo
        exact fx_val hK hρ (.pointer (some ⟨g, 0, none⟩)) (by have h := hA.tmp 4 (by decide); simp [execOp, h, go_sem]) rfl
      | 4, _, _, ho =>
        have hoo := Option.some.inj ho
        subst hoo
        have f3 : ρ (.tmp 18) = .pointer (some ⟨g, 0, none⟩) := hd ⟨3, .data⟩ (by simp) (by rfl) (by decide)
        have q0 := hI.r.cell (j := 0) rfl
        have q1 := hI.r.cell (j := 1) rfl
        exact fx_val hK hρ (.agg #[.slice A n c, .slice F m d]) (by simp [execOp, f3, q0, q1, go_sem]) rfl
      | 5, _, _, ho =>
        have hoo := Option.some.inj ho
        subst hoo
        have f4 : ρ (.tmp 19) = .agg #[.slice A n c, .slice F m d] := hd ⟨4, .data⟩ (by simp) (by rfl) (by decide)
        exact fx_call hK hρ 29 _ _ #[.agg #[.slice A n c, .slice F m d]] rfl (by simp only [List.map_toArray, List.map_cons, List.map_nil, hA.const, f4]) (eg_of Tryz.func29 (by kernel_rfl) rfl) ((HLO.out w hI.l).mono fun e w' ⟨he, hb⟩ => ⟨_, he, rfl, hb⟩)
      | 6, _, _, ho =>
        have hoo := Option.some.inj ho
        subst hoo
        exact fx_val hK hρ (.pointer (some ⟨g, 0, none⟩)) (by have h := hA.tmp 4 (by decide); simp [execOp, h, go_sem]) rfl
      | 7, _, _, ho =>
        have hoo := Option.some.inj ho
        subst hoo
        have f6 : ρ (.tmp 21) = .pointer (some ⟨g, 0, none⟩) := hd ⟨6, .data⟩ (by simp) (by rfl) (by decide)
        exact fx_val hK hρ (.pointer (some ⟨g, 0, none⟩)) (by simp [execOp, f6, go_sem]) rfl
      | 8, _, _, ho =>
        have hoo := Option.some.inj ho
        subst hoo
        have f7 : ρ (.tmp 22) = .pointer (some ⟨g, 0, none⟩) := hd ⟨7, .data⟩ (by simp) (by rfl) (by decide)
        have q0 := hI.r.cell (j := 0) rfl
        exact fx_val hK hρ (.slice A n c) (by simp [execOp, f7, q0, go_sem]) rfl
      | 9, _, _, ho =>
        have hoo := Option.some.inj ho
        subst hoo
        have f8 : ρ (.tmp 23) = .slice A n c := hd ⟨8, .data⟩ (by simp) (by rfl) (by decide)
        exact fx_call hK hρ 30 _ _ #[.slice A n c] rfl (by simp only [List.map_toArray, List.map_cons, List.map_nil, hA.const, f8]) (eg_of Tryz.func30 (by kernel_rfl) rfl) ((HMX.out w hI.l).mono fun e w' ⟨he, hb⟩ => ⟨_, he, rfl, hb ▸ Below.refl _ _⟩)
      | 10, _, _, ho =>
        have hoo := Option.some.inj ho
        subst hoo
        exact fx_val hK hρ (.pointer (some ⟨wf.heap.size, 1, none⟩)) (by have h := hA.tmp 1 (by decide); simp [execOp, h, go_sem]) rfl
      | 11, _, _, ho =>
        have hoo := Option.some.inj ho
        subst hoo
        have f10 : ρ (.tmp 25) = .pointer (some ⟨wf.heap.size, 1, none⟩) := hd ⟨10, .data⟩ (by simp) (by rfl) (by decide)
        have q0 := hI.b.cell 0 1 rfl (by rw [hdv]; rfl)
        simp only [Nat.add_zero] at q0
        exact fx_val hK hρ (.int .i64 D) (by simp [execOp, f10, q0, go_sem]) rfl
      | 12, _, _, ho =>
        have hoo := Option.some.inj ho
        subst hoo
        exact fx_val hK hρ (.pointer (some ⟨wf.heap.size, 0, none⟩)) (by have h := hA.tmp 1 (by decide); simp [execOp, h, go_sem]) rfl
      | 13, _, _, ho =>
        have hoo := Option.some.inj ho
        subst hoo
        have f12 : ρ (.tmp 27) = .pointer (some ⟨wf.heap.size, 0, none⟩) := hd ⟨12, .data⟩ (by simp) (by rfl) (by decide)
        have q0 := hI.b.cell 0 0 rfl (by rw [hdv]; rfl)
        simp only [Nat.add_zero] at q0
        exact fx_val hK hρ (.int .i64 P) (by simp [execOp, f12, q0, go_sem]) rfl
      | 14, _, _, ho =>
        have hoo := Option.some.inj ho
        subst hoo
        have f2 : ρ (.tmp 17) = .int .i64 tot := hd ⟨2, .data⟩ (by simp) (by rfl) (by decide)
        have f5 : ρ (.tmp 20) = .int .i64 lg := hd ⟨5, .data⟩ (by simp) (by rfl) (by decide)
        have f9 : ρ (.tmp 24) = .int .i64 mx := hd ⟨9, .data⟩ (by simp) (by rfl) (by decide)
        have f11 : ρ (.tmp 26) = .int .i64 D := hd ⟨11, .data⟩ (by simp) (by rfl) (by decide)
        have f13 : ρ (.tmp 28) = .int .i64 P := hd ⟨13, .data⟩ (by simp) (by rfl) (by decide)
        exact fx_val hK hρ (.agg #[.int .i64 tot, .int .i64 lg, .int .i64 mx, .int .i64 D, .int .i64 P]) (by simp [execOp, f2, f5, f9, f11, f13, hA.const, go_sem]) rfl
      | kq + 15, h, _, _ => exact absurd h (by omega)
    case hloose =>
      intro kq o hkF ho ρ w hA hd
      exact absurd hkF (by simp)
    case hmid =>
      intro vals w hI hF
      exact ⟨by decide, by decide, hF 14 (by decide) (by decide), fun _ => hI, fun h => absurd h (by decide), fun h => absurd h (by decide)⟩
    case htail =>
      intro t o htm ho a1 w hA hT hL K hK
      have htl : t < 17 := (Array.getElem?_eq_some_iff.1 ho).1
      obtain ⟨ρ, hρ⟩ : ∃ ρ, a1.eval = ρ := ⟨_, rfl⟩
      rw [hρ] at hA
      obtain rfl | rfl : t = 15 ∨ t = 16 := by omega
      · have hoo := Option.some.inj ho
        subst hoo
        obtain ⟨t1, t2, g29, hb, -, -⟩ := hT
        simp only [hρ] at g29
        have hb := hb (by decide)
        have hs := hA.tmp 2 (by decide)
        have e0 := hb.b.frozen 1 0 rfl
        have e1 := hb.b.frozen 1 1 rfl
        have e2 := hb.b.frozen 1 2 rfl
        have e3 := hb.b.frozen 1 3 rfl
        have e4 := hb.b.frozen 1 4 rfl
        have q0 := hb.b.cell 1 0 rfl rfl
        have q1 := hb.b.cell 1 1 rfl rfl
        have q2 := hb.b.cell 1 2 rfl rfl
        have q3 := hb.b.cell 1 3 rfl rfl
        have q4 := hb.b.cell 1 4 rfl rfl
        unfold Oper.wp
        rw [show (execOp a1.eval _).run Tryz.prog w = .ok .skip (((((w.setCell ⟨wf.heap.size + 1, 0, none⟩ (.int .i64 tot)).setCell ⟨wf.heap.size + 1, 1, none⟩ (.int .i64 lg)).setCell ⟨wf.heap.size + 1, 2, none⟩ (.int .i64 mx)).setCell ⟨wf.heap.size + 1, 3, none⟩ (.int .i64 D)).setCell ⟨wf.heap.size + 1, 4, none⟩ (.int .i64 P)) from by rw [hρ]; simp [execOp, hs, g29, e0, e1, e2, e3, e4, q0, q1, q2, q3, q4, go_sem], Oper.upon_skip]
        refine hK undef _ ⟨by decide, by decide, ?_⟩
        simp only [reduceCtorEq, if_false, hρ]
        exact ⟨g29, fun h => absurd h (by decide), fun _ => hb.b.set5 1 rfl _ _ _ _ _, fun h => absurd h (by decide)⟩
      · have hoo := Option.some.inj ho
        subst hoo
        obtain ⟨t1, t2, g29, -, hb, -⟩ := hT
        simp only [hρ] at g29
        have hb := hb (by decide)
        unfold Oper.wp
        rw [show (execOp a1.eval _).run Tryz.prog w = .ok (.value (.int .i64 0)) w from by rw [hρ]; simp [execOp, hA.const, go_sem], Oper.upon_value]
        refine hK _ _ ⟨by decide, by decide, ?_⟩
        simp only [Option.some.injEq, Nat.reduceEqDiff, if_false, if_true, hρ]
        exact ⟨g29, fun h => absurd h (by decide), fun _ => hb, fun _ => if_pos rfl⟩
    case hcon =>
      intro t f g w h hT
      obtain ⟨t1, t2, g29, hb, hb2, h3⟩ := hT
      have q14 := h 14 (by omega) (by simp)
      simp only [List.getD_cons_zero, List.getD_cons_succ] at q14
      refine ⟨t1, t2, q14 ▸ g29, hb, hb2, fun e => ?_⟩
      have q16 := h 16 (by omega) (by simp)
      simp only [List.getD_cons_zero, List.getD_cons_succ] at q16
      exact q16 ▸ h3 e
    case hend =>
      intro vals w3 hT
      obtain ⟨_, _, _, _, hb2, h3⟩ := hT
      have B4 := Lib.hid (hb2 (by decide))
      have h3 := h3 rfl
      clear hb2
      simp only [fillA, fillL, List.contains_cons, List.contains_nil, Nat.reduceBEq, Bool.or_false, Bool.false_or, Bool.or_true, Bool.true_or, cond_true, cond_false, Nat.zero_add, Nat.reduceAdd, h3]
      go_wp2
      refine bodyPost_ret (ret_shape rfl rfl rfl (B4.out.row 1 _ _ rfl)) rfl ?_
      exact ⟨rfl, B4.out.bel⟩
  · have hN : ¬ LowOk T := fun h => hX (lowX_zero.mpr h)
    have hsv : shapeT T = ⟨0, 0, 0, 0, 0⟩ := if_neg hN
    rw [hsv]
    unfold Shp.val
    dsimp only
    obtain ⟨P, hP⟩ : ∃ P, P = T.period := ⟨_, rfl⟩
    obtain ⟨D, hDe⟩ : ∃ P, P = T.deadline := ⟨_, rfl⟩
    obtain ⟨n, hn⟩ : ∃ n, n = (lowWv T).length := ⟨_, rfl⟩
    obtain ⟨m, hm⟩ : ∃ n, n = (lowEv T).length := ⟨_, rfl⟩
    obtain ⟨z, hz⟩ : ∃ n, n = (lowPv T).length := ⟨_, rfl⟩
    obtain ⟨x, hx⟩ : ∃ n, n = lowX T := ⟨_, rfl⟩
    rw [← hP, ← hDe, ← hn, ← hm, ← hz, ← hx] at HLW
    rw [← hx] at hX
    rw [← hP, ← hDe, ← hx]
    have hb : (x != 0) = true := bne_iff_ne.mpr hX
    clear hsv hN hsz hP hDe hn hm hz hx hX
    have B0 := Lib.hid (Rwk.start wf [(37, [.int .i64 P, .int .i64 D, .slice sP np pc, .slice sE ne ec, .slice sF nf fc, .slice sR nr rc]), (23, [.int .i64 0, .int .i64 0, .int .i64 0, .int .i64 0, .int .i64 0])])
    dsimp only [Sh.arg] at HLW ⊢
    go_enter Tryz.func16, Tryz.ntmps16
    go_wp2_with fail
    refine (HLW.out _ B0.out.bel).mono ?_
    rintro e w1 ⟨A, c, F, d, R, k, rfl, hL, b⟩
    have B1 := Lib.hid ((B0.out.next b).alloc (.cells #[.slice A n c, .slice F m d, .slice R z k] 65))
    clear b hL B0 HLW
    have c10 := B1.out.cell 1 0 rfl rfl
    have c11 := B1.out.cell 1 1 rfl rfl
    have c12 := B1.out.cell 1 2 rfl rfl
    have c13 := B1.out.cell 1 3 rfl rfl
    have c14 := B1.out.cell 1 4 rfl rfl
    have z10 := B1.out.frozen 1 0 rfl
    have z11 := B1.out.frozen 1 1 rfl
    have z12 := B1.out.frozen 1 2 rfl
    have z13 := B1.out.frozen 1 3 rfl
    have z14 := B1.out.frozen 1 4 rfl
    go_upto_region 3 with (fail)
    obtain ⟨w2, hw2⟩ : ∃ w2, w2 = w1.alloc (.cells #[.slice A n c, .slice F m d, .slice R z k] 65) := ⟨_, rfl⟩
    rw [← hw2] at B1 c10 c11 c12 c13 c14 z10 z11 z12 z13 z14
    rw [← hw2]
    clear hw2
    go_wp2
    have B2 := B1.out.set5 1 rfl (.int .i64 0) (.int .i64 0) (.int .i64 0) (.int .i64 0) (.int .i64 0)
    refine bodyPost_ret (ret_shape rfl rfl rfl (B2.row 1 _ _ rfl)) rfl ?_
    exact ⟨rfl, B2.bel⟩
end Go.Proofs.YtjmledfmiljoiaaGreatDoor
set_option linter.unusedVariables false
namespace Go.Proofs.YtjmledfmiljoiaaGreatDoor
open Go Go.RowKit

def exC : Task := ⟨8, 5, [(0, 0, 2), (0, 0, 3)], [], [], []⟩
theorem exCFew : FewT exC := ⟨by decide, by decide, by decide, by decide, by decide⟩
theorem exCMay : MayT exC where
  few := by unfold ManyT; decide
  time := by decide
  parts := by decide
  edges := ⟨by unfold Fits; decide, by decide, by decide⟩
  futures := ⟨fun f hf => by simp [exC] at hf, by decide⟩
  bars := fun b hb => by simp [exC] at hb
theorem exCW : lowW exC = [2, 3] := by decide +kernel
theorem exCE : lowE exC = [] := by decide +kernel
theorem exCFits : Fits 2 [] := by unfold Fits; decide
theorem exCGood : May [2, 3] [] := ⟨by decide, by decide, by unfold WorkOk; decide, exCFits, by decide, by decide, acyc_of exCFits (by decide)⟩
theorem exCOk : LowOk exC := ⟨exCMay, by rw [exCW, exCE]; exact exCGood⟩
theorem exCX : lowX exC = 0 := lowX_zero.mpr exCOk
theorem exCWv : lowWv exC = [2, 3] := by unfold lowWv; rw [if_pos exCOk, exCW]
theorem exCEv : lowEv exC = [] := by unfold lowEv; rw [if_pos exCOk, exCE]
theorem exCTot : totalV [2, 3] [] = 5 := by unfold totalV; rw [if_pos exCGood]; decide
theorem exCLong : longV [2, 3] [] = 3 := by unfold longV; rw [if_pos exCGood]; decide
theorem exCShape : shapeT exC = ⟨5, 3, 3, 5, 8⟩ := by
  have h : shapeT exC = ⟨totalV (lowWv exC) (lowEv exC), longV (lowWv exC) (lowEv exC), maxL (lowWv exC), 5, 8⟩ := if_pos exCOk
  rw [h, exCWv, exCEv, exCTot, exCLong]
  rfl
def s1C : Shp := ⟨20, 4, 4, 8, 8⟩
def s2C : Shp := ⟨5, 3, 3, 5, 8⟩
def s3C : Shp := ⟨20, 8, 4, 8, 8⟩
theorem s1_cores : coresS s1C = 4 := by decide +kernel
theorem s1_fault : faultS s1C = 0 := by decide +kernel
theorem s2_cores : coresS s2C = 1 := by decide +kernel
theorem s2_fault : faultS s2C = 0 := by decide +kernel
theorem s3_cores : coresS s3C = 0 := by decide +kernel
theorem s3_fault : faultS s3C = 141 := by decide +kernel
theorem s1_heavy : heavyS s1C = true := by decide +kernel
theorem s2_heavy : heavyS s2C = false := by decide +kernel
theorem s1_bound : boundS s1C 4 = 8 := by decide +kernel
theorem s1_check : chkS s1C = 0 := by decide +kernel
/-- Two shapes, compared. -/
theorem shp_fields : (Tryz.prog.fieldsOf 23).toList.map (fun f => (f.name, f.type, f.offset)) = [("Total", 3, 0), ("Long", 3, 1), ("Most", 3, 2), ("Deadline", 3, 3), ("Period", 3, 4)] := by kernel_rfl
theorem shp_self (a b c d e : Int) (W : World) : (Op.equalIn 10000 23 (.agg #[.int .i64 a, .int .i64 b, .int .i64 c, .int .i64 d, .int .i64 e]) (.agg #[.int .i64 a, .int .i64 b, .int .i64 c, .int .i64 d, .int .i64 e])).run Tryz.prog W = .ok true W := by
  have hf := shp_fields
  rw [run_equalIn_agg (d := 9999) W 23 _ _ (by kernel_rfl) (by kernel_rfl)]
  generalize (Tryz.prog.fieldsOf 23).toList = fs at hf
  have e1 := fun a b W => run_equalIn_int (P := Tryz.prog) W 9998 3 .i64 .i64 a b Tryz.underlying3
  have p0 : ∀ W, (part 3 #[.int .i64 a, .int .i64 b, .int .i64 c, .int .i64 d, .int .i64 e] 0).run Tryz.prog W = .ok (.int .i64 a) W := fun W => by kernel_rfl
  have p1 : ∀ W, (part 3 #[.int .i64 a, .int .i64 b, .int .i64 c, .int .i64 d, .int .i64 e] 1).run Tryz.prog W = .ok (.int .i64 b) W := fun W => by kernel_rfl
  have p2 : ∀ W, (part 3 #[.int .i64 a, .int .i64 b, .int .i64 c, .int .i64 d, .int .i64 e] 2).run Tryz.prog W = .ok (.int .i64 c) W := fun W => by kernel_rfl
  have p3 : ∀ W, (part 3 #[.int .i64 a, .int .i64 b, .int .i64 c, .int .i64 d, .int .i64 e] 3).run Tryz.prog W = .ok (.int .i64 d) W := fun W => by kernel_rfl
  have p4 : ∀ W, (part 3 #[.int .i64 a, .int .i64 b, .int .i64 c, .int .i64 d, .int .i64 e] 4).run Tryz.prog W = .ok (.int .i64 e) W := fun W => by kernel_rfl
  match fs, hf with
  | [], hf => simp at hf
  | [_], hf => simp at hf
  | [_, _], hf => simp at hf
  | [_, _, _], hf => simp at hf
  | [_, _, _, _], hf => simp at hf
  | _ :: _ :: _ :: _ :: _ :: _ :: _, hf => simp at hf
  | [f0, f1, f2, f3, f4], hf =>
    simp only [List.map_cons, List.map_nil, List.cons.injEq, Prod.mk.injEq, and_true] at hf
    obtain ⟨⟨n0, t0, o0⟩, ⟨n1, t1, o1⟩, ⟨n2, t2, o2⟩, ⟨n3, t3, o3⟩, n4, t4, o4⟩ := hf
    simp only [Op.eqFields, n0, n1, n2, n3, n4, t0, t1, t2, t3, t4, o0, o1, o2, o3, o4]
    simp [p0, p1, p2, p3, p4, e1]
theorem shp_eql_self (a b c d e : Int) (W : World) : (binOp .eql 23 (.agg #[.int .i64 a, .int .i64 b, .int .i64 c, .int .i64 d, .int .i64 e]) (.agg #[.int .i64 a, .int .i64 b, .int .i64 c, .int .i64 d, .int .i64 e])).run Tryz.prog W = .ok (.bool true) W := by
  rw [run_eql_struct, shp_self]
  rfl
theorem shp_guard (op : BinOp) (o1 o2 : Operand) (xs ys : Array Value) (W : World) : (eqGuard op 23 o1 o2 (.agg xs) (.agg ys)).run Tryz.prog W = .ok () W :=
  run_eqGuard_agg W op _ o1 o2 _ _ (by kernel_rfl)
end Go.Proofs.YtjmledfmiljoiaaGreatDoor
set_option linter.unusedVariables false
set_option linter.unusedSimpArgs false
namespace Go.Proofs.YtjmledfmiljoiaaGreatDoor
open Go Go.RowKit

set_option maxRecDepth 100000 in
set_option maxHeartbeats 16000000 in
theorem ccores_any (s : Shp) (w : World) (hT : DTab w) : Calls Tryz.prog 8 #[s.val] w
    fun e w' => e = .returned (.tuple #[.int .i64 (coresS s), .int .i64 (faultS s)]) ∧ Below w.heap.size w w' := by
  have TT := Lib.hid (fun W (b : Below w.heap.size w W) => (ccheck_any s W (hT.via b)))
  clear hT
  have B := Lib.hid (Rwk.start w [(23, [.int .i64 s.t, .int .i64 s.l, .int .i64 s.m, .int .i64 s.d, .int .i64 s.p])])
  by_cases hs : s.Ok
  · rw [chkS_ok hs] at TT
    by_cases hd : s.d < s.t
    · have e1 : coresS s = coresH s := by unfold coresS; rw [if_neg (fun q => q hs), if_pos hd]
      have e2 : faultS s = faultH s := by unfold faultS; rw [if_neg (fun q => q hs), if_pos hd]
      have K1 := Lib.hid (fun W => task_heavy s W hd)
      have K2 := Lib.hid (fun W => heavy_any s W hs hd)
      rw [e1, e2]
      obtain ⟨x, hx⟩ : ∃ x, x = coresH s := ⟨_, rfl⟩
      obtain ⟨y, hy⟩ : ∃ x, x = faultH s := ⟨_, rfl⟩
      rw [← hx, ← hy] at K2 ⊢
      clear e1 e2 hx hy hs hd
      obtain ⟨t, l, m, d, p⟩ := s
      unfold Shp.val at TT K1 K2 ⊢
      unfold toldV at K2
      dsimp only at TT K1 K2 B ⊢
      go_enter Tryz.func8, Tryz.ntmps8
      go_wp2_with fail
      refine (TT.out _ B.out.bel).mono ?_
      rintro e w1 ⟨rfl, b⟩
      have B := Lib.hid (B.out.next b)
      clear b TT
      obtain ⟨⟨c0, c1⟩, c2, c3, c4⟩ := shp_cells (s := ⟨t, l, m, d, p⟩) B.out
      dsimp only at c0 c1 c2 c3 c4
      go_wp2_with fail
      refine (K1.out _).mono ?_
      rintro e w2 ⟨rfl, b⟩
      have B := Lib.hid (B.out.next b)
      clear b c0 c1 c2 c3 c4 K1
      go_wp2_with fail
      refine (K2.out _).mono ?_
      rintro e w3 ⟨rfl, b⟩
      have B := Lib.hid (B.out.next b)
      clear b K2
      go_wp2_with fail
      go_quiet (fail)
      go_wp2
      go_ret2
      exact ⟨rfl, ((B.out.alloc _).drew _).bel⟩
    · have e1 : coresS s = 1 := by unfold coresS; rw [if_neg (fun q => q hs), if_neg hd]
      have e2 : faultS s = 0 := by unfold faultS; rw [if_neg (fun q => q hs), if_neg hd]
      have K1 := Lib.hid (fun W => task_light s W (by omega))
      have K2 := Lib.hid (fun W => light_any s W)
      rw [e1, e2]
      clear e1 e2 hs hd
      obtain ⟨t, l, m, d, p⟩ := s
      unfold Shp.val at TT K1 K2 ⊢
      unfold toldV at K2
      dsimp only at TT K1 K2 B ⊢
      go_enter Tryz.func8, Tryz.ntmps8
      go_wp2_with fail
      refine (TT.out _ B.out.bel).mono ?_
      rintro e w1 ⟨rfl, b⟩
      have B := Lib.hid (B.out.next b)
      clear b TT
      obtain ⟨⟨c0, c1⟩, c2, c3, c4⟩ := shp_cells (s := ⟨t, l, m, d, p⟩) B.out
      dsimp only at c0 c1 c2 c3 c4
      go_wp2_with fail
      refine (K1.out _).mono ?_
      rintro e w2 ⟨rfl, b⟩
      have B := Lib.hid (B.out.next b)
      clear b c0 c1 c2 c3 c4 K1
      go_wp2_with fail
      refine (K2.out _).mono ?_
      rintro e w3 ⟨rfl, b⟩
      have B := Lib.hid (B.out.next b)
      clear b K2
      go_wp2_with fail
      go_quiet (fail)
      go_wp2
      go_ret2
      exact ⟨rfl, ((B.out.alloc _).drew _).bel⟩
  · have e1 : coresS s = 0 := if_pos hs
    have e2 : faultS s = 140 := if_pos hs
    rw [chkS_no hs] at TT
    rw [e1, e2]
    clear e1 e2 hs
    obtain ⟨t, l, m, d, p⟩ := s
    unfold Shp.val at TT ⊢
    dsimp only at TT B ⊢
    go_enter Tryz.func8, Tryz.ntmps8
    go_wp2_with fail
    refine (TT.out _ B.out.bel).mono ?_
    rintro e w1 ⟨rfl, b⟩
    have B := Lib.hid (B.out.next b)
    clear b
    go_wp2
    go_ret2
    exact ⟨rfl, B.out.bel⟩
/-- The sum that Bound divides. -/
theorem bound_sum {s : Shp} (h : s.Ok) {m : Int} (h1 : 1 ≤ m) (h8 : m ≤ 8) : 0 ≤ (m - 1) * s.l ∧ (m - 1) * s.l ≤ 28672 := by
  obtain ⟨⟨t0, t1⟩, ⟨l0, l1⟩, -⟩ := h
  have : m = 1 ∨ m = 2 ∨ m = 3 ∨ m = 4 ∨ m = 5 ∨ m = 6 ∨ m = 7 ∨ m = 8 := by omega
  rcases this with rfl | rfl | rfl | rfl | rfl | rfl | rfl | rfl <;> constructor <;> omega
set_option maxRecDepth 100000 in
set_option maxHeartbeats 16000000 in
theorem cbound_any (s : Shp) (m : Int) (w : World) (hT : DTab w) : Calls Tryz.prog 13 #[s.val, .int .i64 m] w
    fun e w' => e = .returned (.int .i64 (boundS s m)) ∧ Below w.heap.size w w' := by
  have TT := Lib.hid (fun W (b : Below w.heap.size w W) => (ccheck_any s W (hT.via b)))
  clear hT
  have B := Lib.hid (Rwk.start w [(23, [.int .i64 s.t, .int .i64 s.l, .int .i64 s.m, .int .i64 s.d, .int .i64 s.p])])
  by_cases hs : s.Ok
  · rw [chkS_ok hs] at TT
    by_cases hm : 1 ≤ m ∧ m ≤ 8
    · obtain ⟨g0, g1⟩ := bound_sum hs hm.1 hm.2
      have hs2 := hs
      obtain ⟨⟨t0, t1⟩, ⟨l0, l1⟩, -⟩ := hs2
      have e0 : boundS s m = (s.t + (m - 1) * s.l) / m := if_pos ⟨hs, hm⟩
      have M : ∀ W, Calls Tryz.prog 24 #[.int .i64 (m - 1), .int .i64 s.l] W fun e w' => e = .returned (.tuple #[.int .i64 ((m - 1) * s.l), .int .i64 0]) ∧ Below W.heap.size W w' := fun W => by
        have q := mul_any (m - 1) s.l W
        rw [mulS_fine (ff_pair_ok (by omega) (by omega) (by omega) (by omega)) (by omega), mulE_fine (ff_pair_ok (by omega) (by omega) (by omega) (by omega)) (by omega)] at q
        exact q
      obtain ⟨z, hz⟩ : ∃ z, z = (m - 1) * s.l := ⟨_, rfl⟩
      rw [← hz] at M g0 g1 e0
      have hff : ff [s.t, z] = 0 := ff_pair_ok (by omega) (by omega) (by omega) (by omega)
      have htt : total [s.t, z] = s.t + z := by simp [total]
      have AD : ∀ (W : World), Calls Tryz.prog 25 #[.slice (some ⟨W.heap.size, 0, none⟩) 2 2] (W.alloc (.cells #[.int .i64 s.t, .int .i64 z] 3)) fun e w' => e = .returned (.tuple #[.int .i64 (s.t + z), .int .i64 0]) ∧ Below W.heap.size W w' := fun W => by
        have q := add_any (some ⟨W.heap.size, 0, none⟩) 2 [s.t, z] (W.alloc (.cells #[.int .i64 s.t, .int .i64 z] 3)) (by simp) ((Ints.new2 W _ s.t z).more (by simp))
        rw [addS_fine hff (by omega), addE_fine hff (by omega), htt] at q
        exact q.mono fun e w' h => ⟨h.1, (below_alloc _).trans (h.2.mono (by simp))⟩
      obtain ⟨y, hy⟩ : ∃ y, y = s.t + z := ⟨_, rfl⟩
      rw [← hy] at AD e0
      have DN : ∀ (W : World), Calls Tryz.prog 26 #[.int .i64 y, .int .i64 m] W fun e w' => e = .returned (.tuple #[.int .i64 (y / m), .int .i64 0]) ∧ Below W.heap.size W w' := fun W => by
        have q := ndown_any y m W
        rw [downS_fine (ff_pair_ok (by omega) (by omega) (by omega) (by omega)) (by omega), downE_fine (ff_pair_ok (by omega) (by omega) (by omega) (by omega)) (by omega)] at q
        exact q
      rw [e0]
      obtain ⟨x, hx⟩ : ∃ x, x = y / m := ⟨_, rfl⟩
      rw [← hx] at DN ⊢
      have M := Lib.hid M
      have AD := Lib.hid AD
      have DN := Lib.hid DN
      have hwm : wrap64 (m - 1) = m - 1 := by go_arith
      clear e0 hs hff htt hy hx hz t0 t1 l0 l1 g0 g1
      obtain ⟨t, l, mm, d, p⟩ := s
      unfold Shp.val at TT ⊢
      dsimp only at TT M AD DN B ⊢
      go_enter Tryz.func13, Tryz.ntmps13
      go_wp2_with fail
      refine (TT.out _ B.out.bel).mono ?_
      rintro e w1 ⟨rfl, b⟩
      have B := Lib.hid (B.out.next b)
      clear b TT
      obtain ⟨⟨c0, c1⟩, c2, c3, c4⟩ := shp_cells (s := ⟨t, l, mm, d, p⟩) B.out
      dsimp only at c0 c1 c2 c3 c4
      go_wp2_with (go_at_call 21; refine (within_yes _ _ _ _ hm).mono ?_; rintro e w2 ⟨rfl, rfl⟩)
      refine (M.out _).mono ?_
      rintro e w3 ⟨rfl, b⟩
      have B := Lib.hid (B.out.next b)
      clear b M c0 c1 c2 c3 c4
      obtain ⟨⟨c0, c1⟩, c2, c3, c4⟩ := shp_cells (s := ⟨t, l, mm, d, p⟩) B.out
      dsimp only at c0 c1 c2 c3 c4
      go_wp2_with fail
      refine (AD.out _).mono ?_
      rintro e w4 ⟨rfl, b⟩
      have B := Lib.hid (B.out.next b)
      clear b AD c0 c1 c2 c3 c4
      go_wp2_with fail
      refine (DN.out _).mono ?_
      rintro e w5 ⟨rfl, b⟩
      have B := Lib.hid (B.out.next b)
      clear b DN
      go_wp2
      go_ret
      exact ⟨rfl, B.out.bel⟩
    · have e0 : boundS s m = 0 := if_neg fun q => hm q.2
      rw [e0]
      clear e0 hs
      obtain ⟨t, l, mm, d, p⟩ := s
      unfold Shp.val at TT ⊢
      dsimp only at TT B ⊢
      go_enter Tryz.func13, Tryz.ntmps13
      go_wp2_with fail
      refine (TT.out _ B.out.bel).mono ?_
      rintro e w1 ⟨rfl, b⟩
      have B := Lib.hid (B.out.next b)
      clear b TT
      go_wp2_with (go_at_call 21; refine (within_no _ _ _ _ hm).mono ?_; rintro e w2 ⟨rfl, rfl⟩)
      go_ret
      exact ⟨rfl, B.out.bel⟩
  · have e0 : boundS s m = 0 := if_neg fun q => hs q.1
    rw [chkS_no hs] at TT
    rw [e0]
    clear e0 hs
    obtain ⟨t, l, mm, d, p⟩ := s
    unfold Shp.val at TT ⊢
    dsimp only at TT B ⊢
    go_enter Tryz.func13, Tryz.ntmps13
    go_wp2_with fail
    refine (TT.out _ B.out.bel).mono ?_
    rintro e w1 ⟨rfl, b⟩
    have B := Lib.hid (B.out.next b)
    clear b TT
    go_wp2
    go_ret
    exact ⟨rfl, B.out.bel⟩
end Go.Proofs.YtjmledfmiljoiaaGreatDoor
set_option linter.unusedVariables false
set_option linter.unusedSimpArgs false
namespace Go.Proofs.YtjmledfmiljoiaaGreatDoor
open Go Go.RowKit

theorem two14 (w : World) (t : TypeId) (a b c d e f : Int) : Trips (w.alloc (.cells #[.int .i64 a, .int .i64 b, .int .i64 c, .int .i64 d, .int .i64 e, .int .i64 f] t)) (w.heap.size + 1) (some ⟨w.heap.size, 0, none⟩) [(a, b, c), (d, e, f)] := Trips.two7 w t a b c d e f
/-- The example's task lies behind a world. -/
theorem exC_is (w1 : World) (hT : DTab w1) (W : World) (hW : W = (w1.alloc (.cells #[.int .i64 0, .int .i64 0, .int .i64 2, .int .i64 0, .int .i64 0, .int .i64 3] 44)).alloc (.cells #[.int .i64 8, .int .i64 5, .slice (some ⟨w1.heap.size, 0, none⟩) 2 2, .slice none 0 0, .slice none 0 0, .slice none 0 0] 37)) :
    IsD W ⟨(some ⟨w1.heap.size, 0, none⟩), 2, 2, none, 0, 0, none, 0, 0, none, 0, 0⟩ exC := by
  obtain ⟨w2, h2⟩ : ∃ w2, w2 = w1.alloc (.cells #[.int .i64 0, .int .i64 0, .int .i64 2, .int .i64 0, .int .i64 0, .int .i64 3] 44) := ⟨_, rfl⟩
  rw [← h2] at hW
  have s2 : w2.heap.size = w1.heap.size + 1 := by rw [h2]; simp
  have b2 : Below w2.heap.size w2 W := by rw [hW]; exact below_alloc _
  have b1 : Below w1.heap.size w1 W := (by rw [h2]; exact below_alloc _ : Below w1.heap.size w1 w2).trans (b2.mono (by omega))
  have t1 : Trips w2 w2.heap.size (some ⟨w1.heap.size, 0, none⟩) exC.parts := by
    have h := two14 w1 44 0 0 2 0 0 3
    rw [← h2] at h
    exact h.more (by omega)
  exact ⟨⟨rfl, rfl, rfl, rfl, (t1.below b2).more b2.size, (fun h => absurd h (by decide)), (fun h => absurd h (by decide)), (fun h => absurd h (by decide)), (fun e => by cases e), (fun _ => ⟨rfl, rfl⟩), (fun _ => ⟨rfl, rfl⟩), (fun _ => ⟨rfl, rfl⟩)⟩, exCFew, hT.via b1, Nat.le_refl _, Nat.le_refl _⟩
/-- The first shape and the example's lie in boxes. -/
structure Aw14 (w w2 W : World) : Prop where
  a : Rwk w [(23, [.int .i64 20, .int .i64 4, .int .i64 4, .int .i64 8, .int .i64 8])] W
  x : Rwk w2 [(23, [.int .i64 5, .int .i64 3, .int .i64 3, .int .i64 5, .int .i64 8])] W
theorem Aw14.next {w w2 W W' : World} (h : Aw14 w w2 W) (hb : Below W.heap.size W W') : Aw14 w w2 W' := ⟨h.a.next hb, h.x.next hb⟩
set_option maxRecDepth 100000 in
set_option maxHeartbeats 32000000 in
theorem awake14_any (w : World) (hT : DTab w) : Calls Tryz.prog 7 #[] w fun e w' => e = .returned (.bool true) ∧ Below w.heap.size w w' := by
  have TT := Lib.hid (fun W (b : Below w.heap.size w W) => (hT.via b : DTab W))
  clear hT
  have K1 := Lib.hid (fun W (b : Below w.heap.size w W) => ccores_any s1C W (TT.out W b))
  have K2 := Lib.hid (fun W (b : Below w.heap.size w W) => ccores_any s2C W (TT.out W b))
  have K3 := Lib.hid (fun W (b : Below w.heap.size w W) => ccores_any s3C W (TT.out W b))
  have H1 := Lib.hid (fun W (b : Below w.heap.size w W) => cheavy_any s1C W (TT.out W b))
  have H2 := Lib.hid (fun W (b : Below w.heap.size w W) => cheavy_any s2C W (TT.out W b))
  have BB := Lib.hid (fun W (b : Below w.heap.size w W) => cbound_any s1C 4 W (TT.out W b))
  have CC := Lib.hid (fun W (b : Below w.heap.size w W) => ccheck_any s1C W (TT.out W b))
  rw [s1_cores, s1_fault] at K1
  rw [s2_cores, s2_fault] at K2
  rw [s3_cores, s3_fault] at K3
  rw [s1_heavy] at H1
  rw [s2_heavy] at H2
  rw [s1_bound] at BB
  rw [s1_check] at CC
  unfold Shp.val s1C at K1 H1 BB CC
  unfold Shp.val s2C at K2 H2
  unfold Shp.val s3C at K3
  dsimp only at K1 K2 K3 H1 H2 BB CC
  have EQ := shp_eql_self 5 3 3 5 8
  have EG := fun o1 o2 xs ys W => shp_guard .eql o1 o2 xs ys W
  have R := Lib.hid (Rwk.start w [(23, [.int .i64 20, .int .i64 4, .int .i64 4, .int .i64 8, .int .i64 8])])
  go_enter Tryz.func7, Tryz.ntmps7
  go_wp2_with fail
  refine (K1.out _ R.out.bel).mono ?_
  rintro e w1 ⟨rfl, b⟩
  have R := Lib.hid (R.out.next b)
  clear b K1
  have HD := Lib.hid (exC_is w1 (TT.out _ R.out.bel) _ rfl)
  have R := Lib.hid ((R.out.alloc (.cells #[.int .i64 0, .int .i64 0, .int .i64 2, .int .i64 0, .int .i64 0, .int .i64 3] 44)).alloc (.cells #[.int .i64 8, .int .i64 5, .slice (some ⟨w1.heap.size, 0, none⟩) 2 2, .slice none 0 0, .slice none 0 0, .slice none 0 0] 37))
  have SH := Lib.hid (cshape_any _ _ _ HD.out)
  rw [exCShape, exCX] at SH
  unfold Shp.val at SH
  dsimp only [Sh.arg, exC] at SH
  go_wp2_with fail
  refine SH.out.mono ?_
  rintro e w2 ⟨rfl, b⟩
  have R := Lib.hid (R.out.next b)
  clear b SH HD
  have A := Lib.hid (show Aw14 w w2 (w2.alloc (.cells #[.int .i64 5, .int .i64 3, .int .i64 3, .int .i64 5, .int .i64 8] 23)) from ⟨R.out.alloc _, Rwk.start w2 _⟩)
  have AB := Lib.hid A.out.a.bel
  go_wp2_with fail
  refine (K2.out _ A.out.a.bel).mono ?_
  rintro e w3 ⟨rfl, b⟩
  have A := Lib.hid (A.out.next b)
  clear b K2
  go_wp2_with fail
  refine (K3.out _ A.out.a.bel).mono ?_
  rintro e w4 ⟨rfl, b⟩
  have A := Lib.hid (A.out.next b)
  clear b K3
  obtain ⟨⟨c0, c1⟩, c2, c3, c4⟩ := shp_cells (s := ⟨20, 4, 4, 8, 8⟩) A.out.a
  obtain ⟨⟨d0, d1⟩, d2, d3, d4⟩ := shp_cells (s := ⟨5, 3, 3, 5, 8⟩) A.out.x
  dsimp only at c0 c1 c2 c3 c4 d0 d1 d2 d3 d4
  go_wp2_with fail
  refine (H1.out _ A.out.a.bel).mono ?_
  rintro e w5 ⟨rfl, b⟩
  have A := Lib.hid (A.out.next b)
  clear b H1 c0 c1 c2 c3 c4 d0 d1 d2 d3 d4
  obtain ⟨⟨c0, c1⟩, c2, c3, c4⟩ := shp_cells (s := ⟨20, 4, 4, 8, 8⟩) A.out.a
  obtain ⟨⟨d0, d1⟩, d2, d3, d4⟩ := shp_cells (s := ⟨5, 3, 3, 5, 8⟩) A.out.x
  dsimp only at c0 c1 c2 c3 c4 d0 d1 d2 d3 d4
  go_wp2_with fail
  refine (H2.out _ A.out.a.bel).mono ?_
  rintro e w6 ⟨rfl, b⟩
  have A := Lib.hid (A.out.next b)
  clear b H2 c0 c1 c2 c3 c4 d0 d1 d2 d3 d4
  obtain ⟨⟨c0, c1⟩, c2, c3, c4⟩ := shp_cells (s := ⟨20, 4, 4, 8, 8⟩) A.out.a
  obtain ⟨⟨d0, d1⟩, d2, d3, d4⟩ := shp_cells (s := ⟨5, 3, 3, 5, 8⟩) A.out.x
  dsimp only at c0 c1 c2 c3 c4 d0 d1 d2 d3 d4
  go_wp2_with fail
  refine (BB.out _ A.out.a.bel).mono ?_
  rintro e w7 ⟨rfl, b⟩
  have A := Lib.hid (A.out.next b)
  clear b BB c0 c1 c2 c3 c4 d0 d1 d2 d3 d4
  obtain ⟨⟨c0, c1⟩, c2, c3, c4⟩ := shp_cells (s := ⟨20, 4, 4, 8, 8⟩) A.out.a
  obtain ⟨⟨d0, d1⟩, d2, d3, d4⟩ := shp_cells (s := ⟨5, 3, 3, 5, 8⟩) A.out.x
  dsimp only at c0 c1 c2 c3 c4 d0 d1 d2 d3 d4
  go_wp2_with fail
  refine (CC.out _ A.out.a.bel).mono ?_
  rintro e w8 ⟨rfl, b⟩
  have A := Lib.hid (A.out.next b)
  clear b CC c0 c1 c2 c3 c4 d0 d1 d2 d3 d4
  go_wp2
  go_ret
  exact ⟨rfl, A.out.a.bel⟩
end Go.Proofs.YtjmledfmiljoiaaGreatDoor
set_option linter.unusedVariables false
namespace Go.Proofs.YtjmledfmiljoiaaGreatDoor
open Go.ChangeShapes Go.WideShapes Go.ChangeAt Go.RowKit Go.Joins Go.Deep

theorem array5 {cs : Array Value} (h : cs.size = 5) : ∃ c0 c1 c2 c3 c4, cs = #[c0, c1, c2, c3, c4] := by
  obtain ⟨l⟩ := cs
  match l, h with
  | [c0, c1, c2, c3, c4], _ => exact ⟨c0, c1, c2, c3, c4, rfl⟩
section
variable {H : Type} {enc : TypeId × Value → H} {W : World}
set_option maxRecDepth 100000 in
theorem open_shape {base : Nat} {v : Value} {d : DataW H} {p : List MemPlace}
    (hv : Value.okWide Tryz.prog W .any base 23 v) (h : DataW.Trod enc Tryz.prog W 0 (fun _ => true) true 23 v d p) :
    ∃ s : Shp, v = s.val := by
  obtain ⟨cs, rfl, hsz⟩ := okWide_struct Tryz.underlying23 hv
  obtain ⟨c0, c1, c2, c3, c4, rfl⟩ := array5 (hsz.trans (by kernel_rfl))
  obtain ⟨fuel, hf⟩ := h
  obtain ⟨xs, k, _, _, _, hlen, hx⟩ := DataW.trod_struct Tryz.underlying23 hf
  match xs, hlen with
  | [y0, y1, y2, y3, y4], _ =>
    have ci : Tryz.prog.cellsOf 3 = 1 := by kernel_rfl
    have ec : (Value.agg #[c0, c1, c2, c3, c4]).cells.toList = [c0, c1, c2, c3, c4] := rfl
    have h0 := hx 0 _ rfl
    have h1 := hx 1 _ rfl
    have h2 := hx 2 _ rfl
    have h3 := hx 3 _ rfl
    have h4 := hx 4 _ rfl
    simp only [ec] at h0 h1 h2 h3 h4
    obtain ⟨n0, e0, _, _⟩ := DataW.trod_int (x := y0) Tryz.underlying3 h0
    obtain ⟨n1, e1, _, _⟩ := DataW.trod_int (x := y1) Tryz.underlying3 h1
    obtain ⟨n2, e2, _, _⟩ := DataW.trod_int (x := y2) Tryz.underlying3 h2
    obtain ⟨n3, e3, _, _⟩ := DataW.trod_int (x := y3) Tryz.underlying3 h3
    obtain ⟨n4, e4, _, _⟩ := DataW.trod_int (x := y4) Tryz.underlying3 h4
    simp [ci] at e0 e1 e2 e3 e4
    subst e0 e1 e2 e3 e4
    exact ⟨⟨n0, n1, n2, n3, n4⟩, rfl⟩
end
end Go.Proofs.YtjmledfmiljoiaaGreatDoor
