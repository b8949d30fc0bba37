import Derived.Test.YtlfekmbalgkmeaaGreatDoorYM5
import Derived.Test.YtlfekmbalgkmeaaGreatDoorYM10
import Derived.Test.YtlfekmbalgkmeaaGreatDoorYM9
import Derived.Test.YtlfekmbalgkmeaaGreatDoorYM27
import Derived.Test.YtlfekmbalgkmeaaGreatDoorYM26
set_option linter.unusedSimpArgs false
set_option linter.unnecessarySimpa false
set_option linter.unusedVariables false
set_option maxRecDepth 100000
set_option maxHeartbeats 32000000
namespace Go.Proofs.YtlfekmbalgkmeaaGreatDoor
open Go Go.RowKit
theorem Rwk.set5 {w0 w: World} {L: List (TypeId × List Value)} (h: Rwk w0 L w) (i: Nat) {t: TypeId} {a b c d e: Value} (hi: L[i]? = some (t,[a,b,c,d,e])) (u v x y z: Value) :
  Rwk w0 (L.set i (t,[u,v,x,y,z])) (((((w.setCell ⟨w0.heap.size + i,0,none⟩ u).setCell ⟨w0.heap.size + i,1,none⟩ v).setCell ⟨w0.heap.size + i,2,none⟩ x).setCell ⟨w0.heap.size + i,3,none⟩ y).setCell ⟨w0.heap.size + i,4,none⟩ z):=by
 have hl: i < L.length:=(List.getElem?_eq_some_iff.mp hi).1
 have h1:=h.set i 0 hi u
 have h2:=h1.set i 1 (List.getElem?_set_self hl) v
 rw [List.set_set] at h2
 have h3:=h2.set i 2 (List.getElem?_set_self hl) x
 rw [List.set_set] at h3
 have h4:=h3.set i 3 (List.getElem?_set_self hl) y
 rw [List.set_set] at h4
 have h5:=h4.set i 4 (List.getElem?_set_self hl) z
 rw [List.set_set] at h5
 exact h5
structure BxShp (wf: World) (L: List (TypeId × List Value)) (g: Nat) (A: Option Addr) (n c: Nat) (F: Option Addr) (m d: Nat) (vR: Value) (W: List Int) (E: List (Int × Int)) (w: World): Prop where
 b: Rwk wf L w
 r: RowV g 91 [.slice A n c,.slice F m d,vR] w
 l: IsG w A n c F m d W E
theorem BxShp.next {wf: World} {L: List (TypeId × List Value)} {g: Nat} {A: Option Addr} {n c: Nat} {F: Option Addr} {m d: Nat} {vR: Value} {W: List Int} {E: List (Int × Int)} {w w': World} (h: BxShp wf L g A n c F m d vR W E w) (hb: Below w.heap.size w w'): BxShp wf L g A n c F m d vR W E w' :=
 ⟨h.b.next hb,h.r.below hb h.r.lt,h.l.below hb⟩
def PhiSp (wf: World) (g: Nat) (A: Option Addr) (n c: Nat) (F: Option Addr) (m d: Nat) (tot lg mx D P: Int): Nat -> Value -> World -> Prop
 | 0,v,w => v = .pointer (some ⟨g,0,none⟩)
 | 1,v,w => v = .agg #[.slice A n c,.slice F m d]
 | 2,v,w => v = .int .i64 tot
 | 3,v,w => v = .pointer (some ⟨g,0,none⟩)
 | 4,v,w => v = .agg #[.slice A n c,.slice F m d]
 | 5,v,w => v = .int .i64 lg
 | 6,v,w => v = .pointer (some ⟨g,0,none⟩)
 | 7,v,w => v = .pointer (some ⟨g,0,none⟩)
 | 8,v,w => v = .slice A n c
 | 9,v,w => v = .int .i64 mx
 | 10,v,w => v = .pointer (some ⟨wf.heap.size,1,none⟩)
 | 11,v,w => v = .int .i64 D
 | 12,v,w => v = .pointer (some ⟨wf.heap.size,0,none⟩)
 | 13,v,w => v = .int .i64 P
 | 14,v,w => v = .agg #[.int .i64 tot,.int .i64 lg,.int .i64 mx,.int .i64 D,.int .i64 P]
 | _,_,_ => True
theorem phiSp_below {wf: World} {g: Nat} {A: Option Addr} {n c: Nat} {F: Option Addr} {m d: Nat} {tot lg mx D P: Int}: ∀ kq v w w',PhiSp wf g A n c F m d tot lg mx D P kq v w -> Below w.heap.size w w' -> PhiSp wf g A n c F m d tot lg mx D P kq v w':=by
 intro kq v w w' h hb
 match kq,h with
 | 0,h => exact h
 | 1,h => exact h
 | 2,h => exact h
 | 3,h => exact h
 | 4,h => exact h
 | 5,h => exact h
 | 6,h => exact h
 | 7,h => exact h
 | 8,h => exact h
 | 9,h => exact h
 | 10,h => exact h
 | 11,h => exact h
 | 12,h => exact h
 | 13,h => exact h
 | 14,h => exact h
 | kq + 15,h => exact trivial
def ThtSp (wf: World) (dv: List Value) (g: Nat) (A: Option Addr) (n c: Nat) (F: Option Addr) (m d: Nat) (vR: Value) (W: List Int) (E: List (Int × Int)) (tot lg mx D P: Int) (t: Nat) (f: Nat -> Value) (w: World): Prop :=
 15 <= t /\ t <= 17 /\ f 29 = .agg #[.int .i64 tot,.int .i64 lg,.int .i64 mx,.int .i64 D,.int .i64 P] /\ (t <= 15 -> BxShp wf [(57,dv),(44,[.int .i64 0,.int .i64 0,.int .i64 0,.int .i64 0,.int .i64 0])] g A n c F m d vR W E w) /\ (16 <= t -> Rwk wf [(57,dv),(44,[.int .i64 tot,.int .i64 lg,.int .i64 mx,.int .i64 D,.int .i64 P])] w) /\ (t = 17 -> f 3 = .int .i64 0)
theorem load_shape {w: World} {q: Nat} {a b c d e: Value} (h: RowV q 44 [a,b,c,d,e] w): (loadVar 44 ⟨q,0,none⟩).run Tryz.prog w = .ok (.agg #[a,b,c,d,e]) w :=
 run_loadVar_row _ q _ _ _ _ _ h Tryz.underlying44 rfl (by kernel_rfl)
theorem ret_shape {fn: Func} {p u: Tmp} (h: fn.results = #[.cell p 44,.tmp u]) {tmps: Array Value} {w: World} {q: Nat} {a b c d e x: Value} (hp: tmps.getD p undef = .pointer (some ⟨q,0,none⟩)) (hu: tmps.getD u undef = x) (h1: RowV q 44 [a,b,c,d,e] w) :
  (results fn tmps).run Tryz.prog w = .ok (.tuple #[.agg #[a,b,c,d,e],x]) w:=by
 rw [results_cell_tmp h,hp,hu]
 simp [asAddr,load_shape h1,Result.andThen]
open Classical in
noncomputable def shapeT (T: Task): Shp:=if LowOk T then ⟨totalV (lowWv T) (lowEv T),longV (lowWv T) (lowEv T),maxL (lowWv T),T.deadline,T.period⟩ else ⟨0,0,0,0,0⟩
theorem low_work {T: Task} (h: LowOk T): 1 <= (lowWv T).length /\ ∀ z ∈ lowWv T,0 <= z /\ z <= 1000000:=by
 have hM:=h.2
 have e:=(low_yes h).1
 rw [e]
 refine ⟨?_,fun z hz => by have:=hM.work z hz; omega⟩
 rw [lowW_len h.1]
 have:=h.1.few
 unfold ManyT at this
 omega
theorem cshape_any (s : Sh) (T : Task) (wf : World) (hD : IsD wf s T) : Calls Tryz.prog 29 #[s.arg T.period T.deadline] wf
    fun e w' => e = .returned (.tuple #[(shapeT T).val, .int .i64 (lowX T)]) /\ Below wf.heap.size wf w' := by
  have HLW := Lib.hid (fun W (b : Below wf.heap.size wf W) => lower_got s T W (hD.below b))
  have hsz := lows_few (T := T)
  obtain ⟨sP, np, pc, sE, ne, ec, sF, nf, fc, sR, nr, rc⟩ := s
  clear hD
  by_cases hX : lowX T = 0
  · have hOK := lowX_zero.mp hX
    obtain ⟨hw1, hw2⟩ := low_work hOK
    have hw3 := hsz hX
    have hsv : shapeT T = ⟨totalV (lowWv T) (lowEv T), longV (lowWv T) (lowEv T), maxL (lowWv T), T.deadline, T.period⟩ := if_pos hOK
    rw [hX] at HLW
    rw [hsv, hX]
    unfold Shp.val
    obtain ⟨P, hP⟩ : ∃ P, P = T.period := ⟨_, rfl⟩
    obtain ⟨D, hDe⟩ : ∃ P, P = T.deadline := ⟨_, rfl⟩
    obtain ⟨tot, htot⟩ : ∃ P, P = totalV (lowWv T) (lowEv T) := ⟨_, rfl⟩
    obtain ⟨lg, hlg⟩ : ∃ P, P = longV (lowWv T) (lowEv T) := ⟨_, rfl⟩
    obtain ⟨mx, hmx⟩ : ∃ P, P = maxL (lowWv T) := ⟨_, rfl⟩
    obtain ⟨n, hn⟩ : ∃ n, n = (lowWv T).length := ⟨_, rfl⟩
    obtain ⟨m, hm⟩ : ∃ n, n = (lowEv T).length := ⟨_, rfl⟩
    obtain ⟨z, hz⟩ : ∃ n, n = (lowPv T).length := ⟨_, rfl⟩
    obtain ⟨W, hW⟩ : ∃ W, W = lowWv T := ⟨_, rfl⟩
    obtain ⟨E, hE⟩ : ∃ W, W = lowEv T := ⟨_, rfl⟩
    obtain ⟨Q, hQ⟩ : ∃ W, W = lowPv T := ⟨_, rfl⟩
    dsimp only
    rw [<- hP, <- hDe, <- hn, <- hm, <- hz, <- hW, <- hE, <- hQ] at HLW
    rw [<- hn] at hw1 hw3
    rw [<- hP, <- hDe, <- htot, <- hlg, <- hmx]
    rw [<- hW] at hw2 hn hmx
    rw [<- hW, <- hE] at htot hlg
    have HTO : ∀ {A c F d} (w : World), IsG w A n c F m d W E -> Calls Tryz.prog 58 #[.agg #[.slice A n c, .slice F m d]] w fun e w' => e = .returned (.int .i64 tot) /\ Below w.heap.size w w' := fun {A c F d} w h => by rw [htot]; exact total_done w h
    have HLO : ∀ {A c F d} (w : World), IsG w A n c F m d W E -> Calls Tryz.prog 59 #[.agg #[.slice A n c, .slice F m d]] w fun e w' => e = .returned (.int .i64 lg) /\ Below w.heap.size w w' := fun {A c F d} w h => by rw [hlg]; exact long_done w h
    have HMX : ∀ {A c F d} (w : World), IsG w A n c F m d W E -> Calls Tryz.prog 60 #[.slice A n c] w fun e w' => e = .returned (.int .i64 mx) /\ w = w' := fun {A c F d} w h => by rw [hmx]; exact smax_any A n c W w hn.symm hw1 (by omega) hw2 h.ints
    clear hm htot hlg hmx hsv hOK hw2 hX hsz hP hDe hz hW hE hQ
    have B0 := Lib.hid (Rwk.start wf [(57, [.int .i64 P, .int .i64 D, .slice sP np pc, .slice sE ne ec, .slice sF nf fc, .slice sR nr rc]), (44, [.int .i64 0, .int .i64 0, .int .i64 0, .int .i64 0, .int .i64 0])])
    obtain ⟨dv, hdv⟩ : ∃ dv : List Value, dv = [.int .i64 P, .int .i64 D, .slice sP np pc, .slice sE ne ec, .slice sF nf fc, .slice sR nr rc] := ⟨_, rfl⟩
    dsimp only [Sh.arg] at HLW ⊢
    have HTO' := @HTO
    have HLO' := @HLO
    have HMX' := @HMX
    clear HTO HLO HMX
    have HN := Lib.hid hn
    clear hn
    go_enter Tryz.func29, Tryz.ntmps29
    go_wp2_with fail
    refine (HLW.out _ B0.out.bel).mono ?_
    rintro e w1 ⟨A, c, F, d, R, k, rfl, hL, b⟩
    have HTO := Lib.hid (fun w h => HTO' (A := A) (c := c) (F := F) (d := d) w h)
    have HLO := Lib.hid (fun w h => HLO' (A := A) (c := c) (F := F) (d := d) w h)
    have HMX := Lib.hid (fun w h => HMX' (A := A) (c := c) (F := F) (d := d) w h)
    clear HTO' HLO' HMX' HLW
    have HB := Lib.hid (show BxShp wf _ w1.heap.size A n c F m d (.slice R z k) W E (w1.alloc (.cells #[.slice A n c, .slice F m d, .slice R z k] 91)) from ⟨(B0.out.next b).next (below_alloc _), RowV.new _ _ _, hL.g.below (below_alloc _)⟩)
    clear b hL B0
    rw [<- hdv] at HB
    go_wp2_with fail
    obtain ⟨g, hg⟩ : ∃ g, g = w1.heap.size := ⟨_, rfl⟩
    obtain ⟨w2, hw2⟩ : ∃ w2, w2 = w1.alloc (.cells #[.slice A n c, .slice F m d, .slice R z k] 91) := ⟨_, rfl⟩
    rw [<- hw2, <- hg] at HB
    rw [<- hw2, <- hg]
    clear hw2 hg
    refine wp_region_tail 15 [15, 16, 17, 18, 19, 20, 21, 22, 23, 24, 25, 26, 27, 28, 29, 1000, 3] [] (by kernel_rfl) (by kernel_rfl) (by intro d hd; simp at hd ⊢; omega) (BxShp wf [(57, dv), (44, [.int .i64 0, .int .i64 0, .int .i64 0, .int .i64 0, .int .i64 0])] g A n c F m d (.slice R z k) W E) (PhiSp wf g A n c F m d tot lg mx D P) (fun _ _ => True) (ThtSp wf dv g A n c F m d (.slice R z k) W E tot lg mx D P)
      (fun y y' h hb => h.next hb) phiSp_below (HB.out.next (Below.refl _ _).drew) ?hstep ?hloose ?hmid ?htail ?hcon ?hend
    case hstep =>
      intro kq o hkm hkF ho a1 w hI hA hd K hK
      obtain ⟨ρ, hρ⟩ : ∃ ρ, a1.eval = ρ := ⟨_, rfl⟩
      rw [hρ] at hA hd
      match kq, hkm, hkF, ho with
      | 0, _, _, ho =>
        have hoo := Option.some.inj ho
        subst hoo
        exact fx_val hK hρ (.pointer (some ⟨g, 0, none⟩)) (by have h := hA.tmp 4 (by decide); simp [execOp, h, go_sem]) rfl
      | 1, _, _, ho =>
        have hoo := Option.some.inj ho
        subst hoo
        have f0 : ρ (.tmp 15) = .pointer (some ⟨g, 0, none⟩) := hd ⟨0, .data⟩ (by simp) (by rfl) (by decide)
        have q0 := hI.r.cell (j := 0) rfl
        have q1 := hI.r.cell (j := 1) rfl
        exact fx_val hK hρ (.agg #[.slice A n c, .slice F m d]) (by simp [execOp, f0, q0, q1, go_sem]) rfl
      | 2, _, _, ho =>
        have hoo := Option.some.inj ho
        subst hoo
        have f1 : ρ (.tmp 16) = .agg #[.slice A n c, .slice F m d] := hd ⟨1, .data⟩ (by simp) (by rfl) (by decide)
        exact fx_call hK hρ 58 _ _ #[.agg #[.slice A n c, .slice F m d]] rfl (by simp only [List.map_toArray, List.map_cons, List.map_nil, hA.const, f1]) (eg_of Tryz.func58 (by kernel_rfl) rfl) ((HTO.out w hI.l).mono fun e w' ⟨he, hb⟩ => ⟨_, he, rfl, hb⟩)
      | 3, _, _, ho =>
        have hoo := Option.some.inj ho
        subst hoo
        exact fx_val hK hρ (.pointer (some ⟨g, 0, none⟩)) (by have h := hA.tmp 4 (by decide); simp [execOp, h, go_sem]) rfl
      | 4, _, _, ho =>
        have hoo := Option.some.inj ho
        subst hoo
        have f3 : ρ (.tmp 18) = .pointer (some ⟨g, 0, none⟩) := hd ⟨3, .data⟩ (by simp) (by rfl) (by decide)
        have q0 := hI.r.cell (j := 0) rfl
        have q1 := hI.r.cell (j := 1) rfl
        exact fx_val hK hρ (.agg #[.slice A n c, .slice F m d]) (by simp [execOp, f3, q0, q1, go_sem]) rfl
      | 5, _, _, ho =>
        have hoo := Option.some.inj ho
        subst hoo
        have f4 : ρ (.tmp 19) = .agg #[.slice A n c, .slice F m d] := hd ⟨4, .data⟩ (by simp) (by rfl) (by decide)
        exact fx_call hK hρ 59 _ _ #[.agg #[.slice A n c, .slice F m d]] rfl (by simp only [List.map_toArray, List.map_cons, List.map_nil, hA.const, f4]) (eg_of Tryz.func59 (by kernel_rfl) rfl) ((HLO.out w hI.l).mono fun e w' ⟨he, hb⟩ => ⟨_, he, rfl, hb⟩)
      | 6, _, _, ho =>
        have hoo := Option.some.inj ho
        subst hoo
        exact fx_val hK hρ (.pointer (some ⟨g, 0, none⟩)) (by have h := hA.tmp 4 (by decide); simp [execOp, h, go_sem]) rfl
      | 7, _, _, ho =>
        have hoo := Option.some.inj ho
        subst hoo
        have f6 : ρ (.tmp 21) = .pointer (some ⟨g, 0, none⟩) := hd ⟨6, .data⟩ (by simp) (by rfl) (by decide)
        exact fx_val hK hρ (.pointer (some ⟨g, 0, none⟩)) (by simp [execOp, f6, go_sem]) rfl
      | 8, _, _, ho =>
        have hoo := Option.some.inj ho
        subst hoo
        have f7 : ρ (.tmp 22) = .pointer (some ⟨g, 0, none⟩) := hd ⟨7, .data⟩ (by simp) (by rfl) (by decide)
        have q0 := hI.r.cell (j := 0) rfl
        exact fx_val hK hρ (.slice A n c) (by simp [execOp, f7, q0, go_sem]) rfl
      | 9, _, _, ho =>
        have hoo := Option.some.inj ho
        subst hoo
        have f8 : ρ (.tmp 23) = .slice A n c := hd ⟨8, .data⟩ (by simp) (by rfl) (by decide)
        exact fx_call hK hρ 60 _ _ #[.slice A n c] rfl (by simp only [List.map_toArray, List.map_cons, List.map_nil, hA.const, f8]) (eg_of Tryz.func60 (by kernel_rfl) rfl) ((HMX.out w hI.l).mono fun e w' ⟨he, hb⟩ => ⟨_, he, rfl, hb ▸ Below.refl _ _⟩)
      | 10, _, _, ho =>
        have hoo := Option.some.inj ho
        subst hoo
        exact fx_val hK hρ (.pointer (some ⟨wf.heap.size, 1, none⟩)) (by have h := hA.tmp 1 (by decide); simp [execOp, h, go_sem]) rfl
      | 11, _, _, ho =>
        have hoo := Option.some.inj ho
        subst hoo
        have f10 : ρ (.tmp 25) = .pointer (some ⟨wf.heap.size, 1, none⟩) := hd ⟨10, .data⟩ (by simp) (by rfl) (by decide)
        have q0 := hI.b.cell 0 1 rfl (by rw [hdv]; rfl)
        simp only [Nat.add_zero] at q0
        exact fx_val hK hρ (.int .i64 D) (by simp [execOp, f10, q0, go_sem]) rfl
      | 12, _, _, ho =>
        have hoo := Option.some.inj ho
        subst hoo
        exact fx_val hK hρ (.pointer (some ⟨wf.heap.size, 0, none⟩)) (by have h := hA.tmp 1 (by decide); simp [execOp, h, go_sem]) rfl
      | 13, _, _, ho =>
        have hoo := Option.some.inj ho
        subst hoo
        have f12 : ρ (.tmp 27) = .pointer (some ⟨wf.heap.size, 0, none⟩) := hd ⟨12, .data⟩ (by simp) (by rfl) (by decide)
        have q0 := hI.b.cell 0 0 rfl (by rw [hdv]; rfl)
        simp only [Nat.add_zero] at q0
        exact fx_val hK hρ (.int .i64 P) (by simp [execOp, f12, q0, go_sem]) rfl
      | 14, _, _, ho =>
        have hoo := Option.some.inj ho
        subst hoo
        have f2 : ρ (.tmp 17) = .int .i64 tot := hd ⟨2, .data⟩ (by simp) (by rfl) (by decide)
        have f5 : ρ (.tmp 20) = .int .i64 lg := hd ⟨5, .data⟩ (by simp) (by rfl) (by decide)
        have f9 : ρ (.tmp 24) = .int .i64 mx := hd ⟨9, .data⟩ (by simp) (by rfl) (by decide)
        have f11 : ρ (.tmp 26) = .int .i64 D := hd ⟨11, .data⟩ (by simp) (by rfl) (by decide)
        have f13 : ρ (.tmp 28) = .int .i64 P := hd ⟨13, .data⟩ (by simp) (by rfl) (by decide)
        exact fx_val hK hρ (.agg #[.int .i64 tot, .int .i64 lg, .int .i64 mx, .int .i64 D, .int .i64 P]) (by simp [execOp, f2, f5, f9, f11, f13, hA.const, go_sem]) rfl
      | kq + 15, h, _, _ => exact absurd h (by omega)
    case hloose =>
      intro kq o hkF ho ρ w hA hd
      exact absurd hkF (by simp)
    case hmid =>
      intro vals w hI hF
      exact ⟨by decide, by decide, hF 14 (by decide) (by decide), fun _ => hI, fun h => absurd h (by decide), fun h => absurd h (by decide)⟩
    case htail =>
      intro t o htm ho a1 w hA hT hL K hK
      have htl : t < 17 := (Array.getElem?_eq_some_iff.1 ho).1
      obtain ⟨ρ, hρ⟩ : ∃ ρ, a1.eval = ρ := ⟨_, rfl⟩
      rw [hρ] at hA
      obtain rfl | rfl : t = 15 \/ t = 16 := by omega
      · have hoo := Option.some.inj ho
        subst hoo
        obtain ⟨t1, t2, g29, hb, -, -⟩ := hT
        simp only [hρ] at g29
        have hb := hb (by decide)
        have hs := hA.tmp 2 (by decide)
        have e0 := hb.b.frozen 1 0 rfl
        have e1 := hb.b.frozen 1 1 rfl
        have e2 := hb.b.frozen 1 2 rfl
        have e3 := hb.b.frozen 1 3 rfl
        have e4 := hb.b.frozen 1 4 rfl
        have q0 := hb.b.cell 1 0 rfl rfl
        have q1 := hb.b.cell 1 1 rfl rfl
        have q2 := hb.b.cell 1 2 rfl rfl
        have q3 := hb.b.cell 1 3 rfl rfl
        have q4 := hb.b.cell 1 4 rfl rfl
        unfold Oper.wp
        rw [show (execOp a1.eval _).run Tryz.prog w = .ok .skip (((((w.setCell ⟨wf.heap.size + 1, 0, none⟩ (.int .i64 tot)).setCell ⟨wf.heap.size + 1, 1, none⟩ (.int .i64 lg)).setCell ⟨wf.heap.size + 1, 2, none⟩ (.int .i64 mx)).setCell ⟨wf.heap.size + 1, 3, none⟩ (.int .i64 D)).setCell ⟨wf.heap.size + 1, 4, none⟩ (.int .i64 P)) from by rw [hρ]; simp [execOp, hs, g29, e0, e1, e2, e3, e4, q0, q1, q2, q3, q4, go_sem], Oper.upon_skip]
        refine hK undef _ ⟨by decide, by decide, ?_⟩
        simp only [reduceCtorEq, if_false, hρ]
        exact ⟨g29, fun h => absurd h (by decide), fun _ => hb.b.set5 1 rfl _ _ _ _ _, fun h => absurd h (by decide)⟩
      · have hoo := Option.some.inj ho
        subst hoo
        obtain ⟨t1, t2, g29, -, hb, -⟩ := hT
        simp only [hρ] at g29
        have hb := hb (by decide)
        unfold Oper.wp
        rw [show (execOp a1.eval _).run Tryz.prog w = .ok (.value (.int .i64 0)) w from by rw [hρ]; simp [execOp, hA.const, go_sem], Oper.upon_value]
        refine hK _ _ ⟨by decide, by decide, ?_⟩
        simp only [Option.some.injEq, Nat.reduceEqDiff, if_false, if_true, hρ]
        exact ⟨g29, fun h => absurd h (by decide), fun _ => hb, fun _ => if_pos rfl⟩
    case hcon =>
      intro t f g w h hT
      obtain ⟨t1, t2, g29, hb, hb2, h3⟩ := hT
      have q14 := h 14 (by omega) (by simp)
      simp only [List.getD_cons_zero, List.getD_cons_succ] at q14
      refine ⟨t1, t2, q14 ▸ g29, hb, hb2, fun e => ?_⟩
      have q16 := h 16 (by omega) (by simp)
      simp only [List.getD_cons_zero, List.getD_cons_succ] at q16
      exact q16 ▸ h3 e
    case hend =>
      intro vals w3 hT
      obtain ⟨_, _, _, _, hb2, h3⟩ := hT
      have B4 := Lib.hid (hb2 (by decide))
      have h3 := h3 rfl
      clear hb2
      simp only [fillA, fillL, List.contains_cons, List.contains_nil, Nat.reduceBEq, Bool.or_false, Bool.false_or, Bool.or_true, Bool.true_or, cond_true, cond_false, Nat.zero_add, Nat.reduceAdd, h3]
      go_wp2
      refine bodyPost_ret (ret_shape rfl rfl rfl (B4.out.row 1 _ _ rfl)) rfl ?_
      exact ⟨rfl, B4.out.bel⟩
  · have hN : ¬ LowOk T := fun h => hX (lowX_zero.mpr h)
    have hsv : shapeT T = ⟨0, 0, 0, 0, 0⟩ := if_neg hN
    rw [hsv]
    unfold Shp.val
    dsimp only
    obtain ⟨P, hP⟩ : ∃ P, P = T.period := ⟨_, rfl⟩
    obtain ⟨D, hDe⟩ : ∃ P, P = T.deadline := ⟨_, rfl⟩
    obtain ⟨n, hn⟩ : ∃ n, n = (lowWv T).length := ⟨_, rfl⟩
    obtain ⟨m, hm⟩ : ∃ n, n = (lowEv T).length := ⟨_, rfl⟩
    obtain ⟨z, hz⟩ : ∃ n, n = (lowPv T).length := ⟨_, rfl⟩
    obtain ⟨x, hx⟩ : ∃ n, n = lowX T := ⟨_, rfl⟩
    rw [<- hP, <- hDe, <- hn, <- hm, <- hz, <- hx] at HLW
    rw [<- hx] at hX
    rw [<- hP, <- hDe, <- hx]
    have hb : (x != 0) = true := bne_iff_ne.mpr hX
    clear hsv hN hsz hP hDe hn hm hz hx hX
    have B0 := Lib.hid (Rwk.start wf [(57, [.int .i64 P, .int .i64 D, .slice sP np pc, .slice sE ne ec, .slice sF nf fc, .slice sR nr rc]), (44, [.int .i64 0, .int .i64 0, .int .i64 0, .int .i64 0, .int .i64 0])])
    dsimp only [Sh.arg] at HLW ⊢
    go_enter Tryz.func29, Tryz.ntmps29
    go_wp2_with fail
    refine (HLW.out _ B0.out.bel).mono ?_
    rintro e w1 ⟨A, c, F, d, R, k, rfl, hL, b⟩
    have B1 := Lib.hid ((B0.out.next b).alloc (.cells #[.slice A n c, .slice F m d, .slice R z k] 91))
    clear b hL B0 HLW
    have c10 := B1.out.cell 1 0 rfl rfl
    have c11 := B1.out.cell 1 1 rfl rfl
    have c12 := B1.out.cell 1 2 rfl rfl
    have c13 := B1.out.cell 1 3 rfl rfl
    have c14 := B1.out.cell 1 4 rfl rfl
    have z10 := B1.out.frozen 1 0 rfl
    have z11 := B1.out.frozen 1 1 rfl
    have z12 := B1.out.frozen 1 2 rfl
    have z13 := B1.out.frozen 1 3 rfl
    have z14 := B1.out.frozen 1 4 rfl
    go_upto_region 3 with (fail)
    obtain ⟨w2, hw2⟩ : ∃ w2, w2 = w1.alloc (.cells #[.slice A n c, .slice F m d, .slice R z k] 91) := ⟨_, rfl⟩
    rw [<- hw2] at B1 c10 c11 c12 c13 c14 z10 z11 z12 z13 z14
    rw [<- hw2]
    clear hw2
    go_wp2
    have B2 := B1.out.set5 1 rfl (.int .i64 0) (.int .i64 0) (.int .i64 0) (.int .i64 0) (.int .i64 0)
    refine bodyPost_ret (ret_shape rfl rfl rfl (B2.row 1 _ _ rfl)) rfl ?_
    exact ⟨rfl, B2.bel⟩
end Go.Proofs.YtlfekmbalgkmeaaGreatDoor
namespace Go.Proofs.YtlfekmbalgkmeaaGreatDoor
end Go.Proofs.YtlfekmbalgkmeaaGreatDoor
namespace Go.Proofs.YtlfekmbalgkmeaaGreatDoor
open Go Go.RowKit
end Go.Proofs.YtlfekmbalgkmeaaGreatDoor
