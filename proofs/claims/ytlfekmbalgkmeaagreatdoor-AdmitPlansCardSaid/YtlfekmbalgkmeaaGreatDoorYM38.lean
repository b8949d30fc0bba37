import Derived.Test.YtlfekmbalgkmeaaGreatDoorYM37
import Derived.Test.YtlfekmbalgkmeaaGreatDoorYM29
set_option linter.unusedSimpArgs false
set_option linter.unnecessarySimpa false
set_option linter.unusedVariables false
set_option maxRecDepth 100000
set_option maxHeartbeats 16000000
namespace Go.Proofs.YtlfekmbalgkmeaaGreatDoor
open Go Go.RowKit
theorem fresh_int17 {w: World} {base e: Nat} (he: w.heap[e]? = some (.cells #[] 3 (0,0))) (hbe: base <= e) (hbw: base <= w.heap.size) {A: Option Addr} {n c: Nat} {zs: List Int} (hn: zs.length = n) (hl: n <= 1000) {B: Nat} (hI: Ints w B A zs) (hA: A = none -> n = 0 /\ c = 0) :
  ∃ A1 c1 w',(Builtin.append_ #[40,40] 40 #[.slice (some ⟨e,0,none⟩) 0 0,.slice A n c]).run Tryz.prog w = .ok (.slice A1 n c1) w' /\ OwnI w' base (.slice A1 n c1) zs /\ Below w.heap.size w w':=by
 obtain ⟨i0,hi,hz0,hz1,hz2⟩:=int_info
 subst hn
 obtain ⟨v',w',hr,ho,hb⟩:=fresh_append (P:=Tryz.prog) w 40 40 3 i0 (.int .i64 0) 1 8 Tryz.underlying40 hi hz0 hz1 hz2 rfl (by decide) base e he hbe hbw A zs.length c (zs.map (Value.int .i64)) (by simp) hA (fun ad e => by subst e; exact hI.cells) (oneCell_ints zs) (by unfold maxLen; omega) (by omega)
 have ho2: OwnI w' base v' zs:=ho
 obtain ⟨A1,c1,rfl,_⟩:=ho2.slice
 exact ⟨A1,c1,w',hr,ho2,hb⟩
theorem OwnC.lol {w: World} {B j k: Nat} {F: Option Addr} {L: List Value} {C: List (List Int)} (h: OwnC w B (.slice F j k) L) (hL: L.length = j) (hE: EachC w B L C) (hC: C.length = j): Lol w w.heap.size F C /\ (F = none -> j = 0 /\ k = 0):=by
 refine ⟨fun hp => ?_,fun e => ?_⟩
 ·obtain ⟨g,cap,hv,hc,hlt⟩:=World.ownsRow.form h (by omega)
  injection hv with a1 a2 a3
  subst a1
  refine ⟨g,0,rfl,hlt,fun x r hx => ?_⟩
  have hxl: x < L.length:=by have:=(List.getElem?_eq_some_iff.1 hx).1; omega
  have hl: L[x]? = some L[x]:=List.getElem?_eq_getElem hxl
  obtain ⟨F1,d1,e,hO⟩:=hE x _ r hl hx
  obtain ⟨A1,c1,e2,hI,hz⟩:=Ints.cap hO
  refine ⟨A1,c1,?_,hI,hz⟩
  have:=World.ownsRow.cells h (g:=g) rfl x _ hl
  rw [e2] at this
  rw [addr_add] at this
  exact this
 ·subst e
  rcases h.2 with ⟨e,h0⟩ | ⟨g',cap,cur,e,_⟩
  ·injection e with _ e2 e3
   exact ⟨by omega,e3⟩
  ·injection e with e1 _ _; cases e1
theorem plan17_any {A : Option Addr} {n c : Nat} {G : Option Addr} {m d : Nat} {S : List Shp} {C : List (List Int)} (wf : World) (h : IsPl wf A n c G m d S C) (hf : FewP S C) :
    Calls Tryz.prog 17 #[.agg #[.slice A n c, .slice G m d]] wf fun e w' => ∃ A1 c1 G1 d1, e = .returned (.agg #[.slice A1 n c1, .slice G1 m d1]) /\ IsPl w' A1 n c1 G1 m d1 S C /\ Below wf.heap.size wf w' := by
  obtain ⟨g, hg⟩ : ∃ g, g = wf.heap.size := ⟨_, rfl⟩
  obtain ⟨w0, hw0⟩ : ∃ w0, w0 = (wf.alloc (.cells #[.slice A n c, .slice G m d] 28)).alloc (.cells #[.slice none 0 0, .slice none 0 0] 28) := ⟨_, rfl⟩
  have b0 : Below wf.heap.size wf w0 := by rw [hw0]; exact (below_alloc _).trans ((below_alloc _).mono (by simp))
  have r1 : RowV g 28 [.slice A n c, .slice G m d] w0 := by rw [hw0, hg]; exact (RowV.new wf _ _).alloc _
  have r2 : RowV (g + 1) 28 [.slice none 0 0, .slice none 0 0] w0 := by
    have := RowV.new (wf.alloc (.cells #[.slice A n c, .slice G m d] 28)) 28 [.slice none 0 0, .slice none 0 0]
    rw [hw0, hg]
    simpa using this
  have bE : Below w0.heap.size w0 (w0.alloc (.cells #[] 44)) := below_alloc _
  obtain ⟨FS, kS, w1, hr, hO, b1⟩ := fresh_shps (w := w0.alloc (.cells #[] 44)) (base := w0.heap.size) ⟨w0.heap.size, rfl, heap_alloc_new w0 _, Nat.le_refl _⟩ (by simp) (c := c) h.l1 (by have := hf.f1; rw [h.l1] at this; omega) ((h.shp.via b0).via bE) h.z1
  have hs : w0.heap.size = wf.heap.size + 1 + 1 := by rw [hw0]; simp
  have hw1 : w0.heap.size < w1.heap.size := by have := b1.size; simp at this; omega
  have B1 := Lib.hid (show Below wf.heap.size wf w1 from b0.trans ((bE.trans (b1.mono bE.size)).mono b0.size))
  have B01 := bE.trans (b1.mono bE.size)
  have R1 := Lib.hid (show RowV g 28 [.slice A n c, .slice G m d] w1 from r1.below B01 (by rw [hg, hs]; omega))
  have R2 := Lib.hid (show RowV (g + 1) 28 [.slice none 0 0, .slice none 0 0] w1 from r2.below B01 (by rw [hg, hs]; omega))
  have OS := Lib.hid (show OwnS w1 g (.slice FS n kS) S from hO.down (by rw [hg, hs]; omega))
  have HG := Lib.hid (show g = wf.heap.size /\ g + 2 < w1.heap.size from ⟨hg, by rw [hg]; omega⟩)
  have HP := Lib.hid (fun W (b : Below wf.heap.size wf W) => h.via b)
  have HL := Lib.hid (show C.length = m /\ m <= 20 from ⟨h.l2, by have := hf.f2; rw [h.l2] at this; exact this⟩)
  have HF := Lib.hid hf
  have HSl := Lib.hid h.l1
  rw [hs, hw0] at hr
  have HR := Lib.hid hr
  obtain ⟨q, hq⟩ : ∃ q, q = w1.heap.size := ⟨_, rfl⟩
  have HQ := Lib.hid hq
  obtain ⟨w2, hw2⟩ : ∃ w2, w2 = w1.alloc (.cells #[.slice FS n kS, .slice none 0 0] 28) := ⟨_, rfl⟩
  have HW2 := Lib.hid hw2
  have b2 : Below w1.heap.size w1 w2 := by rw [hw2]; exact below_alloc _
  have R3 := Lib.hid (show RowV q 28 [.slice FS n kS, .slice none 0 0] w2 from by rw [hq, hw2]; exact RowV.new w1 _ _)
  have I0 := Lib.hid (show IPn wf g g (.slice A n c) (.slice G m d) (.slice FS n kS) S [] C w2 from ⟨by rw [HG.out.1]; exact B1.out.trans (b2.mono B1.out.size), R1.out.below b2 (by have := HG.out.2; omega), OwnS.below OS.out b2, fun k x r hx => by simp at hx⟩)
  have R2 := Lib.hid (R2.out.below b2 (by have := HG.out.2; omega))
  have HQg := Lib.hid (show g < q /\ g + 1 < q from by have := HG.out.2; omega)
  clear b0 r1 r2 bE b1 hO h hf hs hw1 B01 hw0 hr R1 OS hq hw2 b2
  go_enter Tryz.func17, Tryz.ntmps17
  go_wp2_with (at_builtin; refine wpList_append_plainS rfl _ _ 25 _ _ rfl rfl rfl HR.out ?_)
  go_loopw [4] (fun i wr => ∃ (j : Nat) (F : Option Addr) (k : Nat) (L : List Value), j <= m /\ i = .int .i64 j /\ Hid (L.length = j) /\ Hid (IPn wf g g (.slice A n c) (.slice G m d) (.slice FS n kS) S L C wr) /\ Hid (RowV q 28 [.slice FS n kS, .slice F j k] wr) /\ Hid (OwnC wr g (.slice F j k) L) /\ Hid (RowV (g + 1) 28 [.slice none 0 0, .slice none 0 0] wr)) (fun i _ => m - (intOf i).toNat)
  case atStart => exact ⟨0, none, 0, [], Nat.zero_le _, rfl, Lib.hid rfl, Lib.hid (by rw [<- HW2.out]; exact I0.out), Lib.hid (by rw [<- HW2.out]; exact R3.out), Lib.hid ⟨rfl, .inl ⟨rfl, rfl⟩⟩, Lib.hid (by rw [<- HW2.out]; exact R2.out)⟩
  case round =>
    obtain ⟨j, F, k, L, hj, rfl, HLn, HI, HRq, HOC, HRr⟩ := hrel
    clear I0 R3 R2
    by_cases hlt : j < m
    · have hsrc := HI.out.src
      have p0 := hsrc.cell (j := 0) rfl
      have p1 := hsrc.cell (j := 1) rfl
      rw [HG.out.1] at p0 p1
      have HBl := Lib.hid (show Below wf.heap.size wf wr from by rw [<- HG.out.1]; exact HI.out.bel)
      obtain ⟨b, off, cj, A1, n1, c1, rfl, hbl, hcj, hn1, x1, i1, z1⟩ := (HP.out wr HBl.out).lol.at_ (k := j) (by rw [HL.out.1]; exact hlt)
      have HCJ := Lib.hid hcj
      have HN1 := Lib.hid (show cj.length = n1 /\ n1 <= 12 from ⟨hn1, by have := HF.out.f3 _ (List.mem_of_getElem? hcj); omega⟩)
      have HI1 := Lib.hid (fun W (b' : Below wr.heap.size wr W) => (i1.below b').more b'.size)
      have HZ1 := Lib.hid z1
      have hbw : b < wf.heap.size := by
        obtain ⟨b', off', e, hb', _⟩ := (HP.out wf (Below.refl _ _)).lol (by rw [HL.out.1]; omega)
        injection e with e
        injection e with e1 e2
        omega
      have HX := Lib.hid (fun W (b' : Below g wf W) => show W.cell? ⟨b, off + j, none⟩ = some (.slice A1 n1 c1) from by
        have h1 := HBl.out.cell (p := ⟨b, off + j, none⟩) hbw
        have h2 : W.cell? ⟨b, off + j, none⟩ = wf.cell? ⟨b, off + j, none⟩ := b'.cell (by show b < g; rw [HG.out.1]; exact hbw)
        rw [h2, <- h1]
        exact x1)
      have HIW := Lib.hid (fun W (b' : Below g wf W) => show Ints W g A1 cj from fun hp => by
        obtain ⟨b2, off2, r2, A2, n2, c2, e2, hb2, hr2, hn2, x2, i2, z2⟩ := (HP.out wf (Below.refl _ _)).lol.at_ (k := j) (by rw [HL.out.1]; exact hlt)
        injection e2 with e2
        injection e2 with e3 e4
        subst e3 e4
        have h1 := HBl.out.cell (p := ⟨b, off + j, none⟩) hbw
        rw [x1, x2] at h1
        injection h1 with h1
        injection h1 with a1 a2 a3
        subst a1
        rw [hcj] at hr2
        obtain rfl := Option.some.inj hr2
        rw [HG.out.1]
        exact (i2.below (by rw [<- HG.out.1]; exact b')) hp)
      obtain ⟨vG, hvG⟩ : ∃ v, v = Value.slice F j k := ⟨_, rfl⟩
      obtain ⟨vS, hvS⟩ : ∃ v, v = Value.slice FS n kS := ⟨_, rfl⟩
      have HGv := Lib.hid (show ∀ e, vG.ownBlock = some e -> e ≠ g from fun e he e2 => by
        rw [hvG] at he
        subst e2
        exact own_ne HOC.out HI.out.src plan_ne1 he)
      have hgl : ∀ e, vG.ownBlock = some e -> e < wr.heap.size := fun e he => by
        rw [hvG] at he
        obtain ⟨_, cur, hh⟩ := own_at HOC.out he
        exact (Array.getElem?_eq_some_iff.1 hh).1
      have HGl := Lib.hid hgl
      rw [<- hvG] at HRq HOC
      rw [<- hvS] at HRq HI
      have HVS := Lib.hid hvS
      have hgr : g <= wr.heap.size := by rw [HG.out.1]; exact HBl.out.size
      have HGR := Lib.hid hgr
      clear hsrc hcj hn1 x1 i1 z1 hvG hvS hgl hbl hbw hgr
      go_wp2_with fail
      refine wp_region_univ2 [17, 18, 19, 20, 21, 22, 23, 24, 25, 26, 27, 28, 1000] [] (by kernel_rfl) (by kernel_rfl) (by intro d hd; simp at hd ⊢; omega) (by simp) (fun w => IPn wf g g (.slice A n c) (.slice (some ⟨b, off, none⟩) m d) vS S L C w /\ wr.heap.size <= w.heap.size /\ RowV (g + 1) 28 [.slice none 0 0, .slice none 0 0] w) (PhiPn g g q j vS vG (some ⟨b, off, none⟩) m d b off A1 n1 c1 cj L) (PrePn g q vS vG L) (RPn g q vS vG L) ?hI ?hΦ ?hP ?h0 ?hp0 ?hW ?hskip ?hstep ?hend
      case hI =>
        rintro i w w' ⟨h1, h2, h3⟩ hr
        obtain ⟨row, hg, hrow⟩ := rPn_grown (g := g) (by have := HQg.out; omega) (by have := HQg.out; omega) HGv.out hr
        refine ⟨h1.grown hg (Nat.le_trans HGR.out h2) hrow, Nat.le_trans h2 hg.size, ?_⟩
        rcases rPn_ways hr with ⟨_, hO, hg2⟩ | ⟨_, hR, x, rfl⟩ | ⟨_, _, hb⟩
        · exact heap_grown hg2 h3 (own_ne hO h3 plan_ne1)
        · exact heap_grown (grown_set x) h3 (fun e => by injection e with e; have := HQg.out; omega)
        · exact heap_below hb h3
      case hΦ =>
        intro i x v w w' hki hnw h hr
        refine phiPn_keep hki ?_ ?_ ?_ h hr
        · rintro ⟨rfl, rfl⟩
          have := hnw _ rfl
          simp [Region.binds] at this
        · rintro ⟨rfl, rfl⟩
          have := hnw _ rfl
          simp [Region.binds] at this
        · rintro ⟨rfl, rfl⟩
          exact hki rfl
      case hP =>
        intro i x w w' hki hnw h hr
        have key : ∀ y : Value, RowV q 28 [vS, vG] w -> i ≠ 12 -> RowV q 28 [vS, vG] w' := fun y h hi => by
          rcases rPn_ways hr with ⟨_, hO, hg⟩ | ⟨e, _, _⟩ | ⟨_, _, hb⟩
          · exact heap_grown hg h (own_ne hO h plan_ne1)
          · exact absurd e hi
          · exact heap_below hb h
        match x, hki, h with
        | 0, _, _ => exact trivial
        | 1, _, h =>
          refine key vG h fun e => ?_
          subst e
          have := hnw _ rfl
          simp [Region.binds] at this
        | 2, _, _ => exact trivial
        | 3, _, _ => exact trivial
        | 4, _, _ => exact trivial
        | 5, _, _ => exact trivial
        | 6, _, _ => exact trivial
        | 7, _, _ => exact trivial
        | 8, _, _ => exact trivial
        | 9, _, _ => exact trivial
        | 10, hki, h =>
          rcases rPn_ways hr with ⟨e, _, _⟩ | ⟨e, hR, x, rfl⟩ | ⟨_, _, hb⟩
          · exact absurd e.symm hki
          · subst e
            have := hnw _ rfl
            simp [Region.binds] at this
          · exact own_below h hb
        | 11, _, _ => exact trivial
        | 12, hki, h => exact key vG h (fun e => hki e.symm)
        | x + 13, _, _ => exact trivial
      case h0 => exact ⟨HI.out.grown (grown_below (Below.refl _ _).drew) HGR.out (fun e he => by cases he), Nat.le_refl _, heap_below (Below.refl _ _).drew HRr.out⟩
      case hp0 =>
        intro x
        match x with
        | 0 => exact trivial
        | 1 => exact heap_below (Below.refl _ _).drew HRq.out
        | 2 => exact trivial
        | 3 => exact trivial
        | 4 => exact trivial
        | 5 => exact trivial
        | 6 => exact trivial
        | 7 => exact trivial
        | 8 => exact trivial
        | 9 => exact trivial
        | 10 => exact own_below HOC.out (Below.refl _ _).drew
        | 11 => exact trivial
        | 12 => exact heap_below (Below.refl _ _).drew HRq.out
        | x + 13 => exact trivial
      case hW =>
        intro x o g' b' ho hg
        exfalso
        match x, ho with
        | 0, ho => cases Option.some.inj ho; cases hg
        | 1, ho => cases Option.some.inj ho; cases hg
        | 2, ho => cases Option.some.inj ho; cases hg
        | 3, ho => cases Option.some.inj ho; cases hg
        | 4, ho => cases Option.some.inj ho; cases hg
        | 5, ho => cases Option.some.inj ho; cases hg
        | 6, ho => cases Option.some.inj ho; cases hg
        | 7, ho => cases Option.some.inj ho; cases hg
        | 8, ho => cases Option.some.inj ho; cases hg
        | 9, ho => cases Option.some.inj ho; cases hg
        | 10, ho => cases Option.some.inj ho; cases hg
        | 11, ho => cases Option.some.inj ho; cases hg
        | 12, ho => cases Option.some.inj ho; cases hg
        | x + 13, ho => simp at ho
      case hskip => intro x h; simp at h
      case hstep =>
        rintro x o ho - a w ⟨hI, hsz, hRr⟩ hPre hA hd hl K hK
        obtain ⟨ρ, hρ⟩ : ∃ ρ, a.eval = ρ := ⟨_, rfl⟩
        rw [hρ] at hA hd hl
        have hgw : g <= w.heap.size := Nat.le_trans HGR.out hsz
        match x, ho, hPre, hK with
        | 0, ho, hPre, hK =>
          have hoo := Option.some.inj ho
          subst hoo
          have f3 : ρ (.tmp 3) = .pointer (some ⟨q, 0, none⟩) := (hA.tmp 3 (by decide)).trans (by rw [HQ.out]; rfl)
          exact ux_val hK hρ (by decide) (.pointer (some ⟨q, 1, none⟩)) w (by simp [execOp, f3, go_sem]) rfl (Below.refl _ _)
        | 1, ho, hPre, hK =>
          have hoo := Option.some.inj ho
          subst hoo
          have f0 : ρ (.tmp 17) = .pointer (some ⟨q, 1, none⟩) := hd ⟨0, .data⟩ (by simp) (by rfl)
          have q1 := RowV.cell hPre (j := 1) rfl
          exact ux_val hK hρ (by decide) vG w (by simp [execOp, f0, q1, go_sem]) rfl (Below.refl _ _)
        | 2, ho, hPre, hK =>
          have hoo := Option.some.inj ho
          subst hoo
          exact ux_val hK hρ (by decide) (.slice (some ⟨w.heap.size, 0, none⟩) 0 0) (w.alloc (.cells #[] 3)) (by simp [execOp, go_sem]) ⟨_, rfl, heap_alloc_new w _, hgw⟩ (below_alloc _)
        | 3, ho, hPre, hK =>
          have hoo := Option.some.inj ho
          subst hoo
          have f1 : ρ (.tmp 1) = .pointer (some ⟨g, 0, none⟩) := (hA.tmp 1 (by decide)).trans (by rw [HG.out.1]; rfl)
          exact ux_val hK hρ (by decide) (.pointer (some ⟨g, 1, none⟩)) w (by simp [execOp, f1, go_sem]) rfl (Below.refl _ _)
        | 4, ho, hPre, hK =>
          have hoo := Option.some.inj ho
          subst hoo
          have f3 : ρ (.tmp 20) = .pointer (some ⟨g, 1, none⟩) := hd ⟨3, .data⟩ (by simp) (by rfl)
          have q1 := RowV.cell hI.src (j := 1) rfl
          exact ux_val hK hρ (by decide) (.slice (some ⟨b, off, none⟩) m d) w (by simp [execOp, f3, q1, go_sem]) rfl (Below.refl _ _)
        | 5, ho, hPre, hK =>
          have hoo := Option.some.inj ho
          subst hoo
          have h4 : ρ (.tmp 4) = .int .i64 j := hA.tmp 4 (by decide)
          exact ux_val hK hρ (by decide) (.int .i64 j) w (by simp [execOp, h4, go_sem]) rfl (Below.refl _ _)
        | 6, ho, hPre, hK =>
          have hoo := Option.some.inj ho
          subst hoo
          have f4 : ρ (.tmp 21) = .slice (some ⟨b, off, none⟩) m d := hd ⟨4, .data⟩ (by simp) (by rfl)
          have f5 : ρ (.tmp 22) = .int .i64 j := hd ⟨5, .data⟩ (by simp) (by rfl)
          exact ux_val hK hρ (by decide) (.pointer (some ⟨b, off + j, none⟩)) w (by simp [execOp, f4, f5, hlt, go_sem]) rfl (Below.refl _ _)
        | 7, ho, hPre, hK =>
          have hoo := Option.some.inj ho
          subst hoo
          have f6 : ρ (.tmp 23) = .pointer (some ⟨b, off + j, none⟩) := hd ⟨6, .data⟩ (by simp) (by rfl)
          have q1 := HX.out w hI.bel
          exact ux_val hK hρ (by decide) (.slice A1 n1 c1) w (by simp [execOp, f6, q1, go_sem]) rfl (Below.refl _ _)
        | 8, ho, hPre, hK =>
          have hoo := Option.some.inj ho
          subst hoo
          obtain ⟨e, f2, he, hbe⟩ : PhiPn g g q j vS vG (some ⟨b, off, none⟩) m d b off A1 n1 c1 cj L 2 (ρ (.tmp 19)) w := hd ⟨2, .data⟩ (by simp) (by rfl)
          have f7 : ρ (.tmp 24) = .slice A1 n1 c1 := hd ⟨7, .data⟩ (by simp) (by rfl)
          obtain ⟨F2, k2, w', hr, hO, hb⟩ := fresh_int17 he hbe hgw HN1.out.1 (by have := HN1.out.2; omega) (HIW.out w hI.bel) HZ1.out
          exact ux_val hK hρ (by decide) (.slice F2 n1 k2) w' (exec_append16 (.tmp 19) (.tmp 24) 40 _ _ rfl f2 f7 hr) ⟨F2, k2, rfl, hO⟩ hb
        | 9, ho, hPre, hK =>
          have hoo := Option.some.inj ho
          subst hoo
          obtain ⟨F2, k2, f8, hO⟩ : PhiPn g g q j vS vG (some ⟨b, off, none⟩) m d b off A1 n1 c1 cj L 8 (ρ (.tmp 25)) w := hd ⟨8, .data⟩ (by simp) (by rfl)
          refine ux_val hK hρ (by decide) (.slice (some ⟨w.heap.size, 0, none⟩) 1 1) (w.alloc (.cells #[.slice F2 n1 k2] 40)) (by simp [execOp, f8, go_sem]) ⟨_, F2, k2, rfl, heap_alloc_new w _, fun e => ?_, own_below hO (below_alloc _)⟩ (below_alloc _)
          have := HGl.out _ e
          omega
        | 10, ho, hPre, hK =>
          have hoo := Option.some.inj ho
          subst hoo
          have f1 : ρ (.tmp 18) = vG := hd ⟨1, .data⟩ (by simp) (by rfl)
          obtain ⟨e, F2, k2, f9, he, hne, hO⟩ : PhiPn g g q j vS vG (some ⟨b, off, none⟩) m d b off A1 n1 c1 cj L 9 (ρ (.tmp 26)) w := hd ⟨9, .data⟩ (by simp) (by rfl)
          obtain ⟨F3, k3, w', hr, hO3, hg3⟩ := push_list HLn.out hPre he rfl (by have := HL.out.2; omega) hgw
          exact ux_val hK hρ (by decide) (.slice F3 (j + 1) k3) w' (exec_append16 (.tmp 18) (.tmp 26) 26 _ _ rfl f1 f9 hr) ⟨F3, k3, F2, k2, rfl, hO3, own_grown hO hg3 (fun y hy => own_apart hO hPre ints_ne y hy)⟩ ⟨hPre, hg3⟩
        | 11, ho, hPre, hK =>
          have hoo := Option.some.inj ho
          subst hoo
          have f3 : ρ (.tmp 3) = .pointer (some ⟨q, 0, none⟩) := (hA.tmp 3 (by decide)).trans (by rw [HQ.out]; rfl)
          exact ux_val hK hρ (by decide) (.pointer (some ⟨q, 1, none⟩)) w (by simp [execOp, f3, go_sem]) rfl (Below.refl _ _)
        | 12, ho, hPre, hK =>
          have hoo := Option.some.inj ho
          subst hoo
          have f11 : ρ (.tmp 28) = .pointer (some ⟨q, 1, none⟩) := hd ⟨11, .data⟩ (by simp) (by rfl)
          obtain ⟨F3, k3, F2, k2, f10, hO3, hO2⟩ : PhiPn g g q j vS vG (some ⟨b, off, none⟩) m d b off A1 n1 c1 cj L 10 (ρ (.tmp 27)) w := hd ⟨10, .data⟩ (by simp) (by rfl)
          have q1 := RowV.cell hPre (j := 1) rfl
          have fz := RowV.frozen hPre 1
          have hne : ∀ {ty : TypeId} {sz n : Nat} {v : Value} {xs : List Value}, w.ownsRow g ty sz v n xs -> ty ≠ 28 -> (w.setCell ⟨q, 1, none⟩ (.slice F3 (j + 1) k3)).ownsRow g ty sz v n xs := fun hO hty => own_grown hO (grown_set _) fun y hv e => by
            injection e with e
            subst e
            exact own_ne hO hPre hty hv
          exact ux_skip hK hρ (by decide) (w.setCell ⟨q, 1, none⟩ (.slice F3 (j + 1) k3)) (by simp [execOp, f11, f10, q1, fz, go_sem]) (fun u => ⟨F3, k3, F2, k2, RowV.set hPre 1 _, hne hO3 plan_ne1, hne hO2 plan_ne2⟩) ⟨hPre, _, rfl⟩
        | x + 13, ho, _, _ => simp at ho
      case hend =>
        rintro vals w2 ⟨hI, hsz, hRr⟩ hF
        obtain ⟨F3, k3, F2, k2, hR, hO3, hO2⟩ : PhiPn g g q j vS vG (some ⟨b, off, none⟩) m d b off A1 n1 c1 cj L 12 (vals 1000) w2 := hF 12 (by decide)
        have HE := Lib.hid (show EachC w2 g (L ++ [.slice F2 n1 k2]) C from fun x y r hx hc => by
          by_cases hxj : x < j
          · rw [List.getElem?_append_left (by rw [HLn.out]; exact hxj)] at hx
            exact hI.each x y r hx hc
          · by_cases e : x = j
            · subst e
              rw [List.getElem?_append_right (by rw [HLn.out]; exact Nat.le_refl _), HLn.out, Nat.sub_self] at hx
              obtain rfl : _ = y := by simpa using hx
              rw [HCJ.out] at hc
              obtain rfl := Option.some.inj hc
              exact ⟨F2, k2, by rw [HN1.out.1], hO2⟩
            · rw [List.getElem?_eq_none (by rw [List.length_append, HLn.out]; simp; omega)] at hx
              cases hx)
        have HI3 := Lib.hid (show IPn wf g g (.slice A n c) (.slice (some ⟨b, off, none⟩) m d) vS S (L ++ [.slice F2 n1 k2]) C w2 from ⟨hI.bel, hI.src, hI.shp, HE.out⟩)
        rw [HVS.out] at HI3 hR
        have HR3 := Lib.hid hR
        have HO3 := Lib.hid hO3
        have HRr3 := Lib.hid hRr
        have hj20 : j <= 20 := by have := HL.out.2; omega
        clear hI hsz hRr hF hR hO3 hO2 HI HRq HOC HRr p0 p1 HVS HE HGv HGl
        simp only [fillA, fillL, List.contains_cons, List.contains_nil, Nat.reduceBEq, Bool.or_false, Bool.false_or, Bool.or_true, Bool.true_or, cond_true, cond_false, Nat.zero_add, Nat.reduceAdd]
        go_wp2
        go_roundw
        case rel => exact ⟨j + 1, F3, k3, _, by omega, by go_num, Lib.hid (by rw [List.length_append, HLn.out]; rfl), HI3, HR3, HO3, HRr3⟩
        case measure => simp [intOf]; omega
    · obtain rfl : j = m := by omega
      have hsrc := HI.out.src
      have p1 := hsrc.cell (j := 1) rfl
      rw [HG.out.1] at p1
      have q0 := RowV.cell HRq.out (j := 0) rfl
      have q1 := RowV.cell HRq.out (j := 1) rfl
      rw [HQ.out] at q0 q1
      have r0 := RowV.cell HRr.out (j := 0) rfl
      have r1 := RowV.cell HRr.out (j := 1) rfl
      have z0 := RowV.frozen HRr.out 0
      have z1 := RowV.frozen HRr.out 1
      rw [HG.out.1] at r0 r1 z0 z1
      clear hsrc
      go_wp2_with fail
      refine bodyPost_ret (v := .agg #[.slice FS n kS, .slice F j k]) ?_ rfl ?_
      · refine results_cell_row rfl _ _ (wf.heap.size + 1) 28 #[.slice FS n kS, .slice F j k] (0, 0) _ rfl ?_ Tryz.underlying28 rfl (by kernel_rfl)
        have h1 := (RowV.set HRr.out 0 (.slice FS n kS)).set 1 (.slice F j k)
        rw [HG.out.1] at h1
        exact h1
      · have key : ∀ {ty : TypeId} {sz n1 : Nat} {v : Value} {xs : List Value}, wr.ownsRow g ty sz v n1 xs -> ty ≠ 28 -> ((wr.setCell ⟨g + 1, 0, none⟩ (.slice FS n kS)).setCell ⟨g + 1, 1, none⟩ (.slice F j k)).ownsRow g ty sz v n1 xs := fun hO hty => by
          have o1 := own_grown hO (grown_set (q := g + 1) (k := 0) (.slice FS n kS)) (fun y hv e => by
            injection e with e
            subst e
            exact own_ne hO HRr.out hty hv)
          exact own_grown o1 (grown_set (q := g + 1) (k := 1) (.slice F j k)) (fun y hv e => by
            injection e with e
            subst e
            exact own_ne o1 (RowV.set HRr.out 0 (.slice FS n kS)) hty hv)
        have o1 := key HI.out.shp plan_ne3
        have o2 := key HOC.out plan_ne1
        have o3 : EachC ((wr.setCell ⟨g + 1, 0, none⟩ (.slice FS n kS)).setCell ⟨g + 1, 1, none⟩ (.slice F j k)) g L C := fun x y r hx hc => by
          obtain ⟨F1, d1, e, hO⟩ := HI.out.each x y r hx hc
          exact ⟨F1, d1, e, key hO plan_ne2⟩
        have hb : Below g wf ((wr.setCell ⟨g + 1, 0, none⟩ (.slice FS n kS)).setCell ⟨g + 1, 1, none⟩ (.slice F j k)) := (HI.out.bel.setCell (p := ⟨g + 1, _, none⟩) (Nat.le_succ g) _).setCell (p := ⟨g + 1, _, none⟩) (Nat.le_succ g) _
        obtain ⟨l1, l2⟩ := OwnC.lol o2 HLn.out o3 HL.out.1
        obtain ⟨A', c', e, s1, s2⟩ := OwnS.slice o1
        injection e with e1 e2 e3
        rw [<- HG.out.1]
        exact ⟨FS, kS, F, k, rfl, ⟨HSl.out, HL.out.1, by have s1' := s1; rw [<- e1] at s1'; exact s1', l1, fun z => by rw [e1] at z; have := s2 z; exact ⟨by omega, by omega⟩, l2⟩, hb⟩
section
variable {B q b off n c b4 off4 ns ds j idx: Nat} {vL: Value} {es: List Shp} {s: Shp}
def PhiSg (B q b off n c b4 off4 ns ds j idx: Nat) (vL: Value) (es: List Shp) (s: Shp): Nat -> Value -> World -> Prop
 | 0,v,w => v = vL
 | 1,v,w => v = .pointer (some ⟨q,0,none⟩)
 | 2,v,w => v = .slice (some ⟨b,off,none⟩) n c
 | 3,v,w => v = .slice (some ⟨b4,off4,none⟩) ns ds
 | 4,v,w => v = .int .i64 j
 | 5,v,w => v = .pointer (some ⟨b4,off4 + j,none⟩)
 | 6,v,w => v = .int .i64 idx
 | 7,v,w => v = .pointer (some ⟨b,off + idx * 5,none⟩)
 | 8,v,w => v = .agg #[.int .i64 s.t,.int .i64 s.l,.int .i64 s.m,.int .i64 s.d,.int .i64 s.p]
 | 9,v,w => ∃ e,v = .slice (some ⟨e,0,none⟩) 1 1 /\ w.heap[e]? = some (.cells (shpC s).toArray 44 (0,0)) /\ vL.ownBlock ≠ some e
 | 10,v,w => ∃ F d,v = .slice F (j + 1) d /\ OwnS w B (.slice F (j + 1) d) (es ++ [s])
 | 11,v,w => ∃ F d,v = .slice F (j + 1) d /\ OwnS w B (.slice F (j + 1) d) (es ++ [s])
 | _,_,_ => True
def PreSg (B: Nat) (vL: Value) (es: List Shp): Nat -> World -> Prop
 | 10,w => OwnS w B vL es
 | _,_ => True
def RSg (B: Nat) (vL: Value) (es: List Shp): Nat -> World -> World -> Prop
 | 10,w,w' => OwnS w B vL es /\ w.grownBy w' vL.ownBlock
 | _,w,w' => Below w.heap.size w w'
theorem rSg_ways {i: Nat} {w w': World} (h: RSg B vL es i w w'): (i = 10 /\ OwnS w B vL es /\ w.grownBy w' vL.ownBlock) \/ (i ≠ 10 /\ Below w.heap.size w w'):=by
 by_cases h10: i = 10
 ·subst h10; exact .inl ⟨rfl,h⟩
 ·refine .inr ⟨h10,?_⟩
  unfold RSg at h
  split at h
  ·exact absurd rfl h10
  ·exact h
theorem phiSg_keep {i k : Nat} {v : Value} {w w' : World} (hki : k ≠ i) (hx : ¬ (k = 11 /\ i = 10)) (h : PhiSg B q b off n c b4 off4 ns ds j idx vL es s k v w) (hr : RSg B vL es i w w') : PhiSg B q b off n c b4 off4 ns ds j idx vL es s k v w' := by
  match k, h with
  | 0, h => exact h
  | 1, h => exact h
  | 2, h => exact h
  | 3, h => exact h
  | 4, h => exact h
  | 5, h => exact h
  | 6, h => exact h
  | 7, h => exact h
  | 8, h => exact h
  | 9, ⟨e, h1, h2, h3⟩ =>
    rcases rSg_ways hr with ⟨_, _, hg⟩ | ⟨_, hb⟩
    · exact ⟨e, h1, heap_grown hg h2 h3, h3⟩
    · exact ⟨e, h1, heap_below hb h2, h3⟩
  | 10, ⟨F, d, h1, h2⟩ =>
    rcases rSg_ways hr with ⟨rfl, _, _⟩ | ⟨_, hb⟩
    · exact absurd rfl hki
    · exact ⟨F, d, h1, own_below h2 hb⟩
  | 11, ⟨F, d, h1, h2⟩ =>
    rcases rSg_ways hr with ⟨rfl, _, _⟩ | ⟨_, hb⟩
    · exact absurd ⟨rfl, rfl⟩ hx
    · exact ⟨F, d, h1, own_below h2 hb⟩
  | k + 12, h => exact trivial
end
theorem AdmOk.core {Ts: List Task} {m: Int} {S: List Shp} {C: List (List Int)} {L: List Int} (h: AdmOk Ts m S C L) {x: Int} (h0: 0 <= x) (h1: x < m) :
  (0 < (lightQ S C x).length -> usedP S <= x) /\ FitE (shpsL S (lightQ S C x)) /\ (∀ (j y: Nat),(lightQ S C x)[j]? = some y -> ∃ s,S[y]? = some s /\ shpsL S ((lightQ S C x).take (j + 1)) = shpsL S ((lightQ S C x).take j) ++ [s]):=by
 have e: shpsL S (lightQ S C x) = onL S C x:=by
  have h2:=light_is S C x (min S.length C.length) (Nat.min_le_left ..) (Nat.min_le_right ..)
  rw [onL_min] at h2
  exact h2
 have hl: (shpsL S (lightQ S C x)).length = (lightQ S C x).length:=light_len S C x _ (Nat.min_le_left ..)
 refine ⟨fun hp => h.behind (k:=x) fun q => ?_,by rw [e]; exact (h.right.enough x h0 h1).2.2,fun j y hj => ?_⟩
 ·rw [e,q] at hl
  simp at hl
  omega
 ·have hy: y < S.length:=by
   have hm:=List.mem_of_getElem? hj
   have:=ownT_lt (List.mem_filter.mp hm).1
   omega
  refine ⟨S[y],List.getElem?_eq_getElem hy,?_⟩
  rw [take_one hj]
  unfold shpsL
  rw [List.filterMap_append]
  congr 1
  simp [List.filterMap_cons,List.getElem?_eq_getElem hy]
theorem shpsL_len {S : List Shp} : ∀ {l : List Nat}, (∀ i ∈ l, i < S.length) -> (shpsL S l).length = l.length
  | [], _ => rfl
  | i :: l, h => by
    have ih := shpsL_len (l := l) fun x hx => h x (List.mem_cons_of_mem _ hx)
    unfold shpsL at ih ⊢
    rw [List.filterMap_cons, List.getElem?_eq_getElem (h i (by simp))]
    simp [ih]
theorem lightQ_lt17 {S: List Shp} {C: List (List Int)} {x: Int}: ∀ i ∈ lightQ S C x,i < S.length:=fun i hi => by
 have:=ownT_lt (List.mem_filter.mp hi).1
 omega
theorem lightQ_le (S: List Shp) (C: List (List Int)) (x: Int): (lightQ S C x).length <= S.length:=by
 have h1:=List.length_filter_le (ltT S) (owns S C x)
 have h2:=ownT_len C x (min S.length C.length)
 unfold lightQ
 unfold owns at h1 ⊢
 omega
theorem nums_at17 {l: List Nat} {j: Nat} {z: Int} (h: (nums l)[j]? = some z): ∃ y: Nat,l[j]? = some y /\ z = (y: Int):=by
 unfold nums at h
 rw [List.getElem?_map] at h
 cases hl: l[j]? with
 | none => rw [hl] at h; cases h
 | some y => rw [hl] at h; exact ⟨y,rfl,(Option.some.inj h).symm⟩
end Go.Proofs.YtlfekmbalgkmeaaGreatDoor
