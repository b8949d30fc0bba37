import Derived.Test.YtlfekmbalgkmeaaGreatDoorYAdmRRight
import Derived.Test.YtlfekmbalgkmeaaGreatDoorYAdmMoreWalk
import Derived.Test.YtlfekmbalgkmeaaGreatDoorYAdmRFew
import Derived.Test.YtlfekmbalgkmeaaGreatDoorYM36
set_option linter.unusedSimpArgs false
set_option linter.unnecessarySimpa false
set_option linter.unusedVariables false
set_option maxRecDepth 100000
set_option maxHeartbeats 32000000
namespace Go.Proofs.YtlfekmbalgkmeaaGreatDoor
open Go Go.RowKit
def PhiPq (A: Option Addr) (n c: Nat) (G: Option Addr) (m d: Nat) (S: List Shp) (C: List (List Int)) (A2: Option Addr) (n2 c2: Nat) (G2: Option Addr) (m2 d2: Nat) (S2: List Shp) (C2: List (List Int)) (q k: Int) (r rs: Bool): Nat -> Value -> World -> Prop
 | 0,v,w => v = .agg #[.slice A n c,.slice G m d]
 | 1,v,w => ∃ A3 c3 G3 d3,v = .agg #[.slice A3 n c3,.slice G3 m d3] /\ IsPl w A3 n c3 G3 m d3 S C
 | 2,v,w => v = .int .i64 q
 | 3,v,w => v = .bool r
 | 4,v,w => v = .agg #[.slice A n c,.slice G m d]
 | 5,v,w => v = .int .i64 q
 | 6,v,w => v = .bool r
 | 7,v,w => v = .bool true
 | 8,v,w => v = .bool true
 | 9,v,w => v = .agg #[.slice A n c,.slice G m d]
 | 10,v,w => ∃ A3 c3 G3 d3,v = .agg #[.slice A3 n c3,.slice G3 m d3] /\ IsPl w A3 n c3 G3 m d3 S C
 | 11,v,w => v = .int .i64 k
 | 12,v,w => v = .int .i64 (heavyQ S C k)
 | 13,v,w => v = .agg #[.slice A n c,.slice G m d]
 | 14,v,w => v = .int .i64 k
 | 15,v,w => v = .int .i64 (heavyQ S C k)
 | 16,v,w => v = .bool true
 | 17,v,w => v = .bool true
 | 18,v,w => v = .bool true
 | 19,v,w => v = .agg #[.slice A n c,.slice G m d]
 | 20,v,w => ∃ A3 c3 G3 d3,v = .agg #[.slice A3 n c3,.slice G3 m d3] /\ IsPl w A3 n c3 G3 m d3 S C
 | 21,v,w => v = .int .i64 k
 | 22,v,w => ∃ F x y,v = .slice F x y /\ (lightQ S C k).length = x /\ Ints w w.heap.size F (nums (lightQ S C k))
 | 23,v,w => v = .agg #[.slice A n c,.slice G m d]
 | 24,v,w => v = .int .i64 k
 | 25,v,w => ∃ F x y,v = .slice F x y /\ (lightQ S C k).length = x /\ Ints w w.heap.size F (nums (lightQ S C k))
 | 26,v,w => v = .bool true
 | 27,v,w => v = .bool true
 | 28,v,w => v = .bool true
 | 29,v,w => v = .agg #[.slice A n c,.slice G m d]
 | 30,v,w => ∃ A3 c3 G3 d3,v = .agg #[.slice A3 n c3,.slice G3 m d3] /\ IsPl w A3 n c3 G3 m d3 S C
 | 31,v,w => v = .agg #[.slice A2 n2 c2,.slice G2 m2 d2]
 | 32,v,w => ∃ A3 c3 G3 d3,v = .agg #[.slice A3 n2 c3,.slice G3 m2 d3] /\ IsPl w A3 n2 c3 G3 m2 d3 S2 C2
 | 33,v,w => v = .bool rs
 | 34,v,w => v = .agg #[.slice A n c,.slice G m d]
 | 35,v,w => v = .agg #[.slice A2 n2 c2,.slice G2 m2 d2]
 | 36,v,w => v = .bool rs
 | 37,v,w => v = .bool true
 | 38,v,w => v = .bool true
 | 39,v,w => v = .bool true
 | _,_,_ => True
theorem phiPq_keep {A: Option Addr} {n c: Nat} {G: Option Addr} {m d: Nat} {S: List Shp} {C: List (List Int)} {A2: Option Addr} {n2 c2: Nat} {G2: Option Addr} {m2 d2: Nat} {S2: List Shp} {C2: List (List Int)} {q k: Int} {r rs: Bool}: ∀ kq v w w',PhiPq A n c G m d S C A2 n2 c2 G2 m2 d2 S2 C2 q k r rs kq v w -> Below w.heap.size w w' -> PhiPq A n c G m d S C A2 n2 c2 G2 m2 d2 S2 C2 q k r rs kq v w':=by
 intro kq v w w' h hb
 match kq,h with
 | 0,h => exact h
 | 1,⟨A3,c3,G3,d3,h1,h2⟩ => exact ⟨A3,c3,G3,d3,h1,h2.via hb⟩
 | 2,h => exact h
 | 3,h => exact h
 | 4,h => exact h
 | 5,h => exact h
 | 6,h => exact h
 | 7,h => exact h
 | 8,h => exact h
 | 9,h => exact h
 | 10,⟨A3,c3,G3,d3,h1,h2⟩ => exact ⟨A3,c3,G3,d3,h1,h2.via hb⟩
 | 11,h => exact h
 | 12,h => exact h
 | 13,h => exact h
 | 14,h => exact h
 | 15,h => exact h
 | 16,h => exact h
 | 17,h => exact h
 | 18,h => exact h
 | 19,h => exact h
 | 20,⟨A3,c3,G3,d3,h1,h2⟩ => exact ⟨A3,c3,G3,d3,h1,h2.via hb⟩
 | 21,h => exact h
 | 22,⟨F,x,y,h1,h2,h3⟩ => exact ⟨F,x,y,h1,h2,(h3.below hb).more hb.size⟩
 | 23,h => exact h
 | 24,h => exact h
 | 25,⟨F,x,y,h1,h2,h3⟩ => exact ⟨F,x,y,h1,h2,(h3.below hb).more hb.size⟩
 | 26,h => exact h
 | 27,h => exact h
 | 28,h => exact h
 | 29,h => exact h
 | 30,⟨A3,c3,G3,d3,h1,h2⟩ => exact ⟨A3,c3,G3,d3,h1,h2.via hb⟩
 | 31,h => exact h
 | 32,⟨A3,c3,G3,d3,h1,h2⟩ => exact ⟨A3,c3,G3,d3,h1,h2.via hb⟩
 | 33,h => exact h
 | 34,h => exact h
 | 35,h => exact h
 | 36,h => exact h
 | 37,h => exact h
 | 38,h => exact h
 | 39,h => exact h
 | kq + 40,h => exact trivial
theorem law_AdmitPlans {A : Option Addr} {n c : Nat} {G : Option Addr} {m d : Nat} {S : List Shp} {C : List (List Int)} {A2 : Option Addr} {n2 c2 : Nat} {G2 : Option Addr} {m2 d2 : Nat} {S2 : List Shp} {C2 : List (List Int)} (q k : Int) (w : World) (hT : DTab w) (h : IsPl w A n c G m d S C) (h2 : IsPl w A2 n2 c2 G2 m2 d2 S2 C2) :
    Calls Tryz.prog 4 #[.agg #[.slice A n c, .slice G m d], .agg #[.slice A2 n2 c2, .slice G2 m2 d2], .int .i64 q, .int .i64 k] w fun e w' => e = .returned (.bool true) /\ Below w.heap.size w w' := by
  obtain ⟨g1, hg1⟩ : ∃ g, g = w.heap.size := ⟨_, rfl⟩
  obtain ⟨u1, hu1⟩ : ∃ u, u = w.alloc (.cells #[.slice A n c, .slice G m d] 28) := ⟨_, rfl⟩
  obtain ⟨g2, hg2⟩ : ∃ g, g = g1 + 1 := ⟨_, rfl⟩
  have hs1 : u1.heap.size = g2 := by rw [hg2, hg1, hu1]; simp
  obtain ⟨w0, hw0⟩ : ∃ u, u = u1.alloc (.cells #[.slice A2 n2 c2, .slice G2 m2 d2] 28) := ⟨_, rfl⟩
  have hb1 : Below w.heap.size w u1 := by rw [hu1]; exact below_alloc _
  have hb2 : Below u1.heap.size u1 w0 := by rw [hw0]; exact below_alloc _
  have hb0 : Below w.heap.size w w0 := hb1.trans (hb2.mono hb1.size)
  have hr1 : RowV g1 28 [.slice A n c, .slice G m d] w0 := by
    have h1 : RowV g1 28 [.slice A n c, .slice G m d] u1 := by rw [hg1, hu1]; exact RowV.new _ _ _
    exact h1.below hb2 h1.lt
  have hr2 : RowV g2 28 [.slice A2 n2 c2, .slice G2 m2 d2] w0 := by rw [<- hs1, hw0]; exact RowV.new _ _ _
  have HP := Lib.hid (fun W (b : Below w0.heap.size w0 W) => (h.via (hb0.trans (b.mono hb0.size)) : IsPl W A n c G m d S C))
  have HP2 := Lib.hid (fun W (b : Below w0.heap.size w0 W) => (h2.via (hb0.trans (b.mono hb0.size)) : IsPl W A2 n2 c2 G2 m2 d2 S2 C2))
  have HT := Lib.hid (fun W (b : Below w0.heap.size w0 W) => (hT.via (hb0.trans (b.mono hb0.size)) : DTab W))
  have HIF := Lib.hid (fun W (b : Below w0.heap.size w0 W) => (hb0.trans (b.mono hb0.size) : Below w.heap.size w W))
  have HC1 := Lib.hid (fun W (b : Below w0.heap.size w0 W) => hr1.below b hr1.lt)
  have HC2 := Lib.hid (fun W (b : Below w0.heap.size w0 W) => hr2.below b hr2.lt)
  have HG1 := Lib.hid hg1
  have HG2 := Lib.hid hg2
  have HW0 := Lib.hid hw0
  have HU1 := Lib.hid hu1
  have HI := Lib.hid (show Below w0.heap.size w0 w0 from Below.refl _ _)
  clear h h2 hT hb1 hb2 hb0 hr1 hr2 hg1 hg2 hu1 hw0 hs1
  go_enter Tryz.func4, Tryz.ntmps4
  go_wp2_with fail
  rw [<- HU1.out]
  rw [<- HW0.out, <- HG1.out, <- HG2.out]
  refine (awake17_any _ (HT.out _ HI.out)).mono ?_
  rintro e v1 ⟨rfl, b⟩
  have HI := Lib.hid (HI.out.trans (b.mono HI.out.size))
  clear b
  by_cases hf : FewP S C
  · have HF := Lib.hid hf
    have a0 := (HC1.out _ HI.out).cell (j := 0) rfl
    have a1 := (HC1.out _ HI.out).cell (j := 1) rfl
    have b0 := (HC2.out _ HI.out).cell (j := 0) rfl
    have b1 := (HC2.out _ HI.out).cell (j := 1) rfl
    go_wp2_with fail
    refine (rfew17_any _ (HP.out _ HI.out) true ⟨fun _ => HF.out, fun _ => rfl⟩).mono ?_
    rintro e v2 ⟨rfl, b⟩
    have HI := Lib.hid (HI.out.trans (b.mono HI.out.size))
    clear b a0 a1 b0 b1
    clear hf
    by_cases hf2 : FewP S2 C2
    · have HF2 := Lib.hid hf2
      have a0 := (HC1.out _ HI.out).cell (j := 0) rfl
      have a1 := (HC1.out _ HI.out).cell (j := 1) rfl
      have b0 := (HC2.out _ HI.out).cell (j := 0) rfl
      have b1 := (HC2.out _ HI.out).cell (j := 1) rfl
      go_wp2_with fail
      refine (rfew17_any _ (HP2.out _ HI.out) true ⟨fun _ => HF2.out, fun _ => rfl⟩).mono ?_
      rintro e v3 ⟨rfl, b⟩
      have HI := Lib.hid (HI.out.trans (b.mono HI.out.size))
      clear b a0 a1 b0 b1
      clear hf2
      obtain ⟨r, hr⟩ : ∃ r : Bool, r = true ↔ RightQ S C q := by
        by_cases z : RightQ S C q
        · exact ⟨true, fun _ => z, fun _ => rfl⟩
        · exact ⟨false, fun y => Bool.noConfusion y, fun y => absurd y z⟩
      have HR := Lib.hid hr
      obtain ⟨rs, hrs⟩ : ∃ rs : Bool, rs = decide (S = S2 /\ C = C2) := ⟨_, rfl⟩
      have HRS := Lib.hid hrs
      have HI3 := HI
      clear hr hrs HI
      go_wp2_with fail
      refine wp_region_univ [22, 23, 24, 25, 26, 27, 28, 29, 30, 31, 32, 33, 34, 35, 36, 37, 38, 39, 40, 41, 42, 43, 44, 45, 46, 47, 48, 49, 50, 51, 52, 53, 54, 55, 56, 57, 58, 59, 60, 8] [] (by kernel_rfl) (by kernel_rfl) (by intro d hd; simp at hd ⊢; omega) (by simp) (fun W => Below w0.heap.size w0 W) (PhiPq A n c G m d S C A2 n2 c2 G2 m2 d2 S2 C2 q k r rs) (fun _ _ => True) RBel ?hI ?hΦ ?hP ?h0 ?hp0 ?hW ?hskip ?hstep ?hend
      case hI => exact fun i w w' h hr => h.trans (Below.mono hr h.size)
      case hΦ => exact fun i k v w w' _ _ h hr => phiPq_keep k v w w' h hr
      case hP => exact fun _ _ _ _ _ _ _ => trivial
      case h0 => exact HI3.out.drew
      case hp0 => exact fun _ => trivial
      case hW =>
        intro x o gq bq ho hg v w hv
        match x, ho with
        | 0, ho => obtain rfl := Option.some.inj ho; cases hg
        | 1, ho => obtain rfl := Option.some.inj ho; cases hg
        | 2, ho => obtain rfl := Option.some.inj ho; cases hg
        | 3, ho => obtain rfl := Option.some.inj ho; cases hg
        | 4, ho => obtain rfl := Option.some.inj ho; cases hg
        | 5, ho => obtain rfl := Option.some.inj ho; cases hg
        | 6, ho => obtain rfl := Option.some.inj ho; cases hg
        | 7, ho => obtain rfl := Option.some.inj ho; cases hg
        | 8, ho => obtain rfl := Option.some.inj ho; cases hg
        | 9, ho => obtain rfl := Option.some.inj ho; injection hg with hg; injection hg with e1 e2; subst e1 e2; exact hv
        | 10, ho => obtain rfl := Option.some.inj ho; injection hg with hg; injection hg with e1 e2; subst e1 e2; exact hv
        | 11, ho => obtain rfl := Option.some.inj ho; injection hg with hg; injection hg with e1 e2; subst e1 e2; exact hv
        | 12, ho => obtain rfl := Option.some.inj ho; injection hg with hg; injection hg with e1 e2; subst e1 e2; exact hv
        | 13, ho => obtain rfl := Option.some.inj ho; injection hg with hg; injection hg with e1 e2; subst e1 e2; exact hv
        | 14, ho => obtain rfl := Option.some.inj ho; injection hg with hg; injection hg with e1 e2; subst e1 e2; exact hv
        | 15, ho => obtain rfl := Option.some.inj ho; injection hg with hg; injection hg with e1 e2; subst e1 e2; exact hv
        | 16, ho => obtain rfl := Option.some.inj ho; injection hg with hg; injection hg with e1 e2; subst e1 e2; exact hv
        | 17, ho => obtain rfl := Option.some.inj ho; cases hg
        | 18, ho => obtain rfl := Option.some.inj ho; cases hg
        | 19, ho => obtain rfl := Option.some.inj ho; injection hg with hg; injection hg with e1 e2; subst e1 e2; exact hv
        | 20, ho => obtain rfl := Option.some.inj ho; injection hg with hg; injection hg with e1 e2; subst e1 e2; exact hv
        | 21, ho => obtain rfl := Option.some.inj ho; injection hg with hg; injection hg with e1 e2; subst e1 e2; exact hv
        | 22, ho => obtain rfl := Option.some.inj ho; injection hg with hg; injection hg with e1 e2; subst e1 e2; exact hv
        | 23, ho => obtain rfl := Option.some.inj ho; injection hg with hg; injection hg with e1 e2; subst e1 e2; exact hv
        | 24, ho => obtain rfl := Option.some.inj ho; injection hg with hg; injection hg with e1 e2; subst e1 e2; exact hv
        | 25, ho => obtain rfl := Option.some.inj ho; injection hg with hg; injection hg with e1 e2; subst e1 e2; exact hv
        | 26, ho => obtain rfl := Option.some.inj ho; injection hg with hg; injection hg with e1 e2; subst e1 e2; exact hv
        | 27, ho => obtain rfl := Option.some.inj ho; cases hg
        | 28, ho => obtain rfl := Option.some.inj ho; cases hg
        | 29, ho => obtain rfl := Option.some.inj ho; injection hg with hg; injection hg with e1 e2; subst e1 e2; exact hv
        | 30, ho => obtain rfl := Option.some.inj ho; injection hg with hg; injection hg with e1 e2; subst e1 e2; exact hv
        | 31, ho => obtain rfl := Option.some.inj ho; injection hg with hg; injection hg with e1 e2; subst e1 e2; exact hv
        | 32, ho => obtain rfl := Option.some.inj ho; injection hg with hg; injection hg with e1 e2; subst e1 e2; exact hv
        | 33, ho => obtain rfl := Option.some.inj ho; injection hg with hg; injection hg with e1 e2; subst e1 e2; exact hv
        | 34, ho => obtain rfl := Option.some.inj ho; injection hg with hg; injection hg with e1 e2; subst e1 e2; exact hv
        | 35, ho => obtain rfl := Option.some.inj ho; injection hg with hg; injection hg with e1 e2; subst e1 e2; exact hv
        | 36, ho => obtain rfl := Option.some.inj ho; injection hg with hg; injection hg with e1 e2; subst e1 e2; exact hv
        | 37, ho => obtain rfl := Option.some.inj ho; injection hg with hg; injection hg with e1 e2; subst e1 e2; exact hv
        | 38, ho => obtain rfl := Option.some.inj ho; cases hg
        | 39, ho => obtain rfl := Option.some.inj ho; cases hg
        | x + 40, ho => simp at ho
      case hskip => exact fun x hx => by simp at hx
      case hstep =>
        intro x o ho hwt a w hI hPre hA hd hl K hK
        obtain ⟨ρ, hρ⟩ : ∃ ρ, a.eval = ρ := ⟨_, rfl⟩
        rw [hρ] at hA hd hl
        match x, ho, hK with
        | 0, ho, hK =>
          have hoo := Option.some.inj ho
          subst hoo
          have hp : ρ (.tmp 4) = .pointer (some ⟨g1, 0, none⟩) := hA.tmp 4 (by decide)
          have e0 := (HC1.out w hI).cell (j := 0) rfl
          have e1 := (HC1.out w hI).cell (j := 1) rfl
          exact ux_val hK hρ (by decide) (.agg #[.slice A n c, .slice G m d]) w (by simp [execOp, hp, e0, e1, go_sem]) rfl (Below.refl _ _)
        | 1, ho, hK =>
          have hoo := Option.some.inj ho
          subst hoo
          have f0 : ρ (.tmp 22) = .agg #[.slice A n c, .slice G m d] := hd ⟨0, .data⟩ (by simp) (by rfl)
          exact ux_call hK hρ (by decide) 17 _ _ #[.agg #[.slice A n c, .slice G m d]] rfl (by simp only [List.map_toArray, List.map_cons, List.map_nil, hA.const, f0]) (eg_of Tryz.func17 (by kernel_rfl) rfl) ((plan17_any w (HP.out w hI) HF.out).mono fun e w' ⟨a1, c1, b1, e1, he, hp, hb⟩ => ⟨_, he, ⟨a1, c1, b1, e1, rfl, hp⟩, hb⟩)
        | 2, ho, hK =>
          have hoo := Option.some.inj ho
          subst hoo
          have hp : ρ (.tmp 2) = .int .i64 q := hA.tmp 2 (by decide)
          exact ux_val hK hρ (by decide) (.int .i64 q) w (by simp [execOp, hp, go_sem]) rfl (Below.refl _ _)
        | 3, ho, hK =>
          have hoo := Option.some.inj ho
          subst hoo
          obtain ⟨A1', c1', G1', d1', f1, p1⟩ : PhiPq A n c G m d S C A2 n2 c2 G2 m2 d2 S2 C2 q k r rs 1 (ρ (.tmp 23)) w := hd ⟨1, .data⟩ (by simp) (by rfl)
          have f2 : ρ (.tmp 24) = .int .i64 q := hd ⟨2, .data⟩ (by simp) (by rfl)
          exact ux_call hK hρ (by decide) 16 _ _ #[.agg #[.slice A1' n c1', .slice G1' m d1'], .int .i64 q] rfl (by simp only [List.map_toArray, List.map_cons, List.map_nil, hA.const, f1, f2]) (eg_of Tryz.func16 (by kernel_rfl) rfl) ((aright_any q w p1 HF.out (HT.out w hI) r HR.out).mono fun e w' ⟨he, hb⟩ => ⟨_, he, rfl, hb⟩)
        | 4, ho, hK =>
          have hoo := Option.some.inj ho
          subst hoo
          have hp : ρ (.tmp 4) = .pointer (some ⟨g1, 0, none⟩) := hA.tmp 4 (by decide)
          have e0 := (HC1.out w hI).cell (j := 0) rfl
          have e1 := (HC1.out w hI).cell (j := 1) rfl
          exact ux_val hK hρ (by decide) (.agg #[.slice A n c, .slice G m d]) w (by simp [execOp, hp, e0, e1, go_sem]) rfl (Below.refl _ _)
        | 5, ho, hK =>
          have hoo := Option.some.inj ho
          subst hoo
          have hp : ρ (.tmp 2) = .int .i64 q := hA.tmp 2 (by decide)
          exact ux_val hK hρ (by decide) (.int .i64 q) w (by simp [execOp, hp, go_sem]) rfl (Below.refl _ _)
        | 6, ho, hK =>
          have hoo := Option.some.inj ho
          subst hoo
          have f4 : ρ (.tmp 26) = .agg #[.slice A n c, .slice G m d] := hd ⟨4, .data⟩ (by simp) (by rfl)
          have f5 : ρ (.tmp 27) = .int .i64 q := hd ⟨5, .data⟩ (by simp) (by rfl)
          exact ux_call hK hρ (by decide) 18 _ _ #[.agg #[.slice A n c, .slice G m d], .int .i64 q] rfl (by simp only [List.map_toArray, List.map_cons, List.map_nil, hA.const, f4, f5]) (eg_of Tryz.func18 (by kernel_rfl) rfl) ((rright17_any q w (HP.out w hI) HF.out r HR.out).mono fun e w' ⟨he, hb⟩ => ⟨_, he, rfl, hb⟩)
        | 7, ho, hK =>
          have hoo := Option.some.inj ho
          subst hoo
          have f3 : ρ (.tmp 25) = .bool r := hd ⟨3, .data⟩ (by simp) (by rfl)
          have f6 : ρ (.tmp 28) = .bool r := hd ⟨6, .data⟩ (by simp) (by rfl)
          exact ux_val hK hρ (by decide) (.bool true) w (by simp [execOp, f3, f6, hA.const, go_sem]) rfl (Below.refl _ _)
        | 8, ho, hK =>
          have hoo := Option.some.inj ho
          subst hoo
          have f7 : ρ (.tmp 29) = .bool true := hd ⟨7, .data⟩ (by simp) (by rfl)
          exact ux_val hK hρ (by decide) (.bool true) w (by simp [execOp, f7, hA.const, go_sem]) rfl (Below.refl _ _)
        | 9, ho, hK =>
          have hoo := Option.some.inj ho
          subst hoo
          have hp : ρ (.tmp 4) = .pointer (some ⟨g1, 0, none⟩) := hA.tmp 4 (by decide)
          have e0 := (HC1.out w hI).cell (j := 0) rfl
          have e1 := (HC1.out w hI).cell (j := 1) rfl
          exact ux_val hK hρ (by decide) (.agg #[.slice A n c, .slice G m d]) w (by simp [execOp, hp, e0, e1, go_sem]) rfl (Below.refl _ _)
        | 10, ho, hK =>
          have hoo := Option.some.inj ho
          subst hoo
          have f9 : ρ (.tmp 31) = .agg #[.slice A n c, .slice G m d] := hd ⟨9, .data⟩ (by simp) (by rfl)
          exact ux_call hK hρ (by decide) 17 _ _ #[.agg #[.slice A n c, .slice G m d]] rfl (by simp only [List.map_toArray, List.map_cons, List.map_nil, hA.const, f9]) (eg_of Tryz.func17 (by kernel_rfl) rfl) ((plan17_any w (HP.out w hI) HF.out).mono fun e w' ⟨a1, c1, b1, e1, he, hp, hb⟩ => ⟨_, he, ⟨a1, c1, b1, e1, rfl, hp⟩, hb⟩)
        | 11, ho, hK =>
          have hoo := Option.some.inj ho
          subst hoo
          have hp : ρ (.tmp 3) = .int .i64 k := hA.tmp 3 (by decide)
          exact ux_val hK hρ (by decide) (.int .i64 k) w (by simp [execOp, hp, go_sem]) rfl (Below.refl _ _)
        | 12, ho, hK =>
          have hoo := Option.some.inj ho
          subst hoo
          obtain ⟨A1', c1', G1', d1', f10, p1⟩ : PhiPq A n c G m d S C A2 n2 c2 G2 m2 d2 S2 C2 q k r rs 10 (ρ (.tmp 32)) w := hd ⟨10, .data⟩ (by simp) (by rfl)
          have f11 : ρ (.tmp 33) = .int .i64 k := hd ⟨11, .data⟩ (by simp) (by rfl)
          exact ux_call hK hρ (by decide) 19 _ _ #[.agg #[.slice A1' n c1', .slice G1' m d1'], .int .i64 k] rfl (by simp only [List.map_toArray, List.map_cons, List.map_nil, hA.const, f10, f11]) (eg_of Tryz.func19 (by kernel_rfl) rfl) ((aheavy_any k w p1 HF.out (HT.out w hI)).mono fun e w' ⟨he, hb⟩ => ⟨_, he, rfl, hb⟩)
        | 13, ho, hK =>
          have hoo := Option.some.inj ho
          subst hoo
          have hp : ρ (.tmp 4) = .pointer (some ⟨g1, 0, none⟩) := hA.tmp 4 (by decide)
          have e0 := (HC1.out w hI).cell (j := 0) rfl
          have e1 := (HC1.out w hI).cell (j := 1) rfl
          exact ux_val hK hρ (by decide) (.agg #[.slice A n c, .slice G m d]) w (by simp [execOp, hp, e0, e1, go_sem]) rfl (Below.refl _ _)
        | 14, ho, hK =>
          have hoo := Option.some.inj ho
          subst hoo
          have hp : ρ (.tmp 3) = .int .i64 k := hA.tmp 3 (by decide)
          exact ux_val hK hρ (by decide) (.int .i64 k) w (by simp [execOp, hp, go_sem]) rfl (Below.refl _ _)
        | 15, ho, hK =>
          have hoo := Option.some.inj ho
          subst hoo
          have f13 : ρ (.tmp 35) = .agg #[.slice A n c, .slice G m d] := hd ⟨13, .data⟩ (by simp) (by rfl)
          have f14 : ρ (.tmp 36) = .int .i64 k := hd ⟨14, .data⟩ (by simp) (by rfl)
          exact ux_call hK hρ (by decide) 20 _ _ #[.agg #[.slice A n c, .slice G m d], .int .i64 k] rfl (by simp only [List.map_toArray, List.map_cons, List.map_nil, hA.const, f13, f14]) (eg_of Tryz.func20 (by kernel_rfl) rfl) ((rheavy17_any k w (HP.out w hI) HF.out).mono fun e w' ⟨he, hb⟩ => ⟨_, he, rfl, hb⟩)
        | 16, ho, hK =>
          have hoo := Option.some.inj ho
          subst hoo
          have f12 : ρ (.tmp 34) = .int .i64 (heavyQ S C k) := hd ⟨12, .data⟩ (by simp) (by rfl)
          have f15 : ρ (.tmp 37) = .int .i64 (heavyQ S C k) := hd ⟨15, .data⟩ (by simp) (by rfl)
          exact ux_val hK hρ (by decide) (.bool true) w (by simp [execOp, f12, f15, hA.const, go_sem]) rfl (Below.refl _ _)
        | 17, ho, hK =>
          have hoo := Option.some.inj ho
          subst hoo
          have f8 : ρ (.tmp 30) = .bool true := hd ⟨8, .data⟩ (by simp) (by rfl)
          have f16 : ρ (.tmp 38) = .bool true := hd ⟨16, .data⟩ (by simp) (by rfl)
          exact ux_val hK hρ (by decide) (.bool true) w (by simp [execOp, f8, f16, hA.const, go_sem]) rfl (Below.refl _ _)
        | 18, ho, hK =>
          have hoo := Option.some.inj ho
          subst hoo
          have f17 : ρ (.tmp 39) = .bool true := hd ⟨17, .data⟩ (by simp) (by rfl)
          exact ux_val hK hρ (by decide) (.bool true) w (by simp [execOp, f17, hA.const, go_sem]) rfl (Below.refl _ _)
        | 19, ho, hK =>
          have hoo := Option.some.inj ho
          subst hoo
          have hp : ρ (.tmp 4) = .pointer (some ⟨g1, 0, none⟩) := hA.tmp 4 (by decide)
          have e0 := (HC1.out w hI).cell (j := 0) rfl
          have e1 := (HC1.out w hI).cell (j := 1) rfl
          exact ux_val hK hρ (by decide) (.agg #[.slice A n c, .slice G m d]) w (by simp [execOp, hp, e0, e1, go_sem]) rfl (Below.refl _ _)
        | 20, ho, hK =>
          have hoo := Option.some.inj ho
          subst hoo
          have f19 : ρ (.tmp 41) = .agg #[.slice A n c, .slice G m d] := hd ⟨19, .data⟩ (by simp) (by rfl)
          exact ux_call hK hρ (by decide) 17 _ _ #[.agg #[.slice A n c, .slice G m d]] rfl (by simp only [List.map_toArray, List.map_cons, List.map_nil, hA.const, f19]) (eg_of Tryz.func17 (by kernel_rfl) rfl) ((plan17_any w (HP.out w hI) HF.out).mono fun e w' ⟨a1, c1, b1, e1, he, hp, hb⟩ => ⟨_, he, ⟨a1, c1, b1, e1, rfl, hp⟩, hb⟩)
        | 21, ho, hK =>
          have hoo := Option.some.inj ho
          subst hoo
          have hp : ρ (.tmp 3) = .int .i64 k := hA.tmp 3 (by decide)
          exact ux_val hK hρ (by decide) (.int .i64 k) w (by simp [execOp, hp, go_sem]) rfl (Below.refl _ _)
        | 22, ho, hK =>
          have hoo := Option.some.inj ho
          subst hoo
          obtain ⟨A1', c1', G1', d1', f20, p1⟩ : PhiPq A n c G m d S C A2 n2 c2 G2 m2 d2 S2 C2 q k r rs 20 (ρ (.tmp 42)) w := hd ⟨20, .data⟩ (by simp) (by rfl)
          have f21 : ρ (.tmp 43) = .int .i64 k := hd ⟨21, .data⟩ (by simp) (by rfl)
          exact ux_call hK hρ (by decide) 22 _ _ #[.agg #[.slice A1' n c1', .slice G1' m d1'], .int .i64 k] rfl (by simp only [List.map_toArray, List.map_cons, List.map_nil, hA.const, f20, f21]) (eg_of Tryz.func22 (by kernel_rfl) rfl) ((alight_any k w p1 HF.out (HT.out w hI)).mono fun e w' ⟨F, y, z, he, hb, hn, ho⟩ => ⟨_, he, ⟨F, y, z, rfl, hn, ho.ints⟩, hb⟩)
        | 23, ho, hK =>
          have hoo := Option.some.inj ho
          subst hoo
          have hp : ρ (.tmp 4) = .pointer (some ⟨g1, 0, none⟩) := hA.tmp 4 (by decide)
          have e0 := (HC1.out w hI).cell (j := 0) rfl
          have e1 := (HC1.out w hI).cell (j := 1) rfl
          exact ux_val hK hρ (by decide) (.agg #[.slice A n c, .slice G m d]) w (by simp [execOp, hp, e0, e1, go_sem]) rfl (Below.refl _ _)
        | 24, ho, hK =>
          have hoo := Option.some.inj ho
          subst hoo
          have hp : ρ (.tmp 3) = .int .i64 k := hA.tmp 3 (by decide)
          exact ux_val hK hρ (by decide) (.int .i64 k) w (by simp [execOp, hp, go_sem]) rfl (Below.refl _ _)
        | 25, ho, hK =>
          have hoo := Option.some.inj ho
          subst hoo
          have f23 : ρ (.tmp 45) = .agg #[.slice A n c, .slice G m d] := hd ⟨23, .data⟩ (by simp) (by rfl)
          have f24 : ρ (.tmp 46) = .int .i64 k := hd ⟨24, .data⟩ (by simp) (by rfl)
          exact ux_call hK hρ (by decide) 23 _ _ #[.agg #[.slice A n c, .slice G m d], .int .i64 k] rfl (by simp only [List.map_toArray, List.map_cons, List.map_nil, hA.const, f23, f24]) (eg_of Tryz.func23 (by kernel_rfl) rfl) ((rlight17_any k w (HP.out w hI) HF.out).mono fun e w' ⟨F, y, z, he, hb, hn, ho⟩ => ⟨_, he, ⟨F, y, z, rfl, hn, ho.ints⟩, hb⟩)
        | 26, ho, hK =>
          have hoo := Option.some.inj ho
          subst hoo
          obtain ⟨Fx, lx, dx, f22, nx, ix⟩ : PhiPq A n c G m d S C A2 n2 c2 G2 m2 d2 S2 C2 q k r rs 22 (ρ (.tmp 44)) w := hd ⟨22, .data⟩ (by simp) (by rfl)
          obtain ⟨Fy, ly, dy, f25, ny, iy⟩ : PhiPq A n c G m d S C A2 n2 c2 G2 m2 d2 S2 C2 q k r rs 25 (ρ (.tmp 47)) w := hd ⟨25, .data⟩ (by simp) (by rfl)
          exact ux_call hK hρ (by decide) 21 _ _ #[.slice Fx lx dx, .slice Fy ly dy] rfl (by simp only [List.map_toArray, List.map_cons, List.map_nil, hA.const, f22, f25]) (eg_of Tryz.func21 (by kernel_rfl) rfl) ((rints16 Fx Fy lx dx ly dy (nums (lightQ S C k)) (nums (lightQ S C k)) w (by rw [nums_len]; exact nx) (by rw [nums_len]; exact ny) (by have := lightQ_le S C k; have := HF.out.f1; omega) (by have := lightQ_le S C k; have := HF.out.f1; omega) ix iy).mono fun e w' ⟨he, hb⟩ => ⟨_, he, congrArg Value.bool (decide_eq_true rfl), hb⟩)
        | 27, ho, hK =>
          have hoo := Option.some.inj ho
          subst hoo
          have f18 : ρ (.tmp 40) = .bool true := hd ⟨18, .data⟩ (by simp) (by rfl)
          have f26 : ρ (.tmp 48) = .bool true := hd ⟨26, .data⟩ (by simp) (by rfl)
          exact ux_val hK hρ (by decide) (.bool true) w (by simp [execOp, f18, f26, hA.const, go_sem]) rfl (Below.refl _ _)
        | 28, ho, hK =>
          have hoo := Option.some.inj ho
          subst hoo
          have f27 : ρ (.tmp 49) = .bool true := hd ⟨27, .data⟩ (by simp) (by rfl)
          exact ux_val hK hρ (by decide) (.bool true) w (by simp [execOp, f27, hA.const, go_sem]) rfl (Below.refl _ _)
        | 29, ho, hK =>
          have hoo := Option.some.inj ho
          subst hoo
          have hp : ρ (.tmp 4) = .pointer (some ⟨g1, 0, none⟩) := hA.tmp 4 (by decide)
          have e0 := (HC1.out w hI).cell (j := 0) rfl
          have e1 := (HC1.out w hI).cell (j := 1) rfl
          exact ux_val hK hρ (by decide) (.agg #[.slice A n c, .slice G m d]) w (by simp [execOp, hp, e0, e1, go_sem]) rfl (Below.refl _ _)
        | 30, ho, hK =>
          have hoo := Option.some.inj ho
          subst hoo
          have f29 : ρ (.tmp 51) = .agg #[.slice A n c, .slice G m d] := hd ⟨29, .data⟩ (by simp) (by rfl)
          exact ux_call hK hρ (by decide) 17 _ _ #[.agg #[.slice A n c, .slice G m d]] rfl (by simp only [List.map_toArray, List.map_cons, List.map_nil, hA.const, f29]) (eg_of Tryz.func17 (by kernel_rfl) rfl) ((plan17_any w (HP.out w hI) HF.out).mono fun e w' ⟨a1, c1, b1, e1, he, hp, hb⟩ => ⟨_, he, ⟨a1, c1, b1, e1, rfl, hp⟩, hb⟩)
        | 31, ho, hK =>
          have hoo := Option.some.inj ho
          subst hoo
          have hp : ρ (.tmp 5) = .pointer (some ⟨g2, 0, none⟩) := hA.tmp 5 (by decide)
          have e0 := (HC2.out w hI).cell (j := 0) rfl
          have e1 := (HC2.out w hI).cell (j := 1) rfl
          exact ux_val hK hρ (by decide) (.agg #[.slice A2 n2 c2, .slice G2 m2 d2]) w (by simp [execOp, hp, e0, e1, go_sem]) rfl (Below.refl _ _)
        | 32, ho, hK =>
          have hoo := Option.some.inj ho
          subst hoo
          have f31 : ρ (.tmp 53) = .agg #[.slice A2 n2 c2, .slice G2 m2 d2] := hd ⟨31, .data⟩ (by simp) (by rfl)
          exact ux_call hK hρ (by decide) 17 _ _ #[.agg #[.slice A2 n2 c2, .slice G2 m2 d2]] rfl (by simp only [List.map_toArray, List.map_cons, List.map_nil, hA.const, f31]) (eg_of Tryz.func17 (by kernel_rfl) rfl) ((plan17_any w (HP2.out w hI) HF2.out).mono fun e w' ⟨a1, c1, b1, e1, he, hp, hb⟩ => ⟨_, he, ⟨a1, c1, b1, e1, rfl, hp⟩, hb⟩)
        | 33, ho, hK =>
          have hoo := Option.some.inj ho
          subst hoo
          obtain ⟨A1', c1', G1', d1', f30, p1⟩ : PhiPq A n c G m d S C A2 n2 c2 G2 m2 d2 S2 C2 q k r rs 30 (ρ (.tmp 52)) w := hd ⟨30, .data⟩ (by simp) (by rfl)
          obtain ⟨A2', c2', G2', d2', f32, p2⟩ : PhiPq A n c G m d S C A2 n2 c2 G2 m2 d2 S2 C2 q k r rs 32 (ρ (.tmp 54)) w := hd ⟨32, .data⟩ (by simp) (by rfl)
          exact ux_call hK hρ (by decide) 24 _ _ #[.agg #[.slice A1' n c1', .slice G1' m d1'], .agg #[.slice A2' n2 c2', .slice G2' m2 d2']] rfl (by simp only [List.map_toArray, List.map_cons, List.map_nil, hA.const, f30, f32]) (eg_of Tryz.func24 (by kernel_rfl) rfl) ((asame_any w p1 p2 HF.out HF2.out).mono fun e w' ⟨he, hb⟩ => ⟨_, he, congrArg Value.bool HRS.out.symm, hb⟩)
        | 34, ho, hK =>
          have hoo := Option.some.inj ho
          subst hoo
          have hp : ρ (.tmp 4) = .pointer (some ⟨g1, 0, none⟩) := hA.tmp 4 (by decide)
          have e0 := (HC1.out w hI).cell (j := 0) rfl
          have e1 := (HC1.out w hI).cell (j := 1) rfl
          exact ux_val hK hρ (by decide) (.agg #[.slice A n c, .slice G m d]) w (by simp [execOp, hp, e0, e1, go_sem]) rfl (Below.refl _ _)
        | 35, ho, hK =>
          have hoo := Option.some.inj ho
          subst hoo
          have hp : ρ (.tmp 5) = .pointer (some ⟨g2, 0, none⟩) := hA.tmp 5 (by decide)
          have e0 := (HC2.out w hI).cell (j := 0) rfl
          have e1 := (HC2.out w hI).cell (j := 1) rfl
          exact ux_val hK hρ (by decide) (.agg #[.slice A2 n2 c2, .slice G2 m2 d2]) w (by simp [execOp, hp, e0, e1, go_sem]) rfl (Below.refl _ _)
        | 36, ho, hK =>
          have hoo := Option.some.inj ho
          subst hoo
          have f34 : ρ (.tmp 56) = .agg #[.slice A n c, .slice G m d] := hd ⟨34, .data⟩ (by simp) (by rfl)
          have f35 : ρ (.tmp 57) = .agg #[.slice A2 n2 c2, .slice G2 m2 d2] := hd ⟨35, .data⟩ (by simp) (by rfl)
          exact ux_call hK hρ (by decide) 14 _ _ #[.agg #[.slice A n c, .slice G m d], .agg #[.slice A2 n2 c2, .slice G2 m2 d2]] rfl (by simp only [List.map_toArray, List.map_cons, List.map_nil, hA.const, f34, f35]) (eg_of Tryz.func14 (by kernel_rfl) rfl) ((rsame17_any w (HP.out w hI) (HP2.out w hI) HF.out HF2.out).mono fun e w' ⟨he, hb⟩ => ⟨_, he, congrArg Value.bool HRS.out.symm, hb⟩)
        | 37, ho, hK =>
          have hoo := Option.some.inj ho
          subst hoo
          have f33 : ρ (.tmp 55) = .bool rs := hd ⟨33, .data⟩ (by simp) (by rfl)
          have f36 : ρ (.tmp 58) = .bool rs := hd ⟨36, .data⟩ (by simp) (by rfl)
          exact ux_val hK hρ (by decide) (.bool true) w (by simp [execOp, f33, f36, hA.const, go_sem]) rfl (Below.refl _ _)
        | 38, ho, hK =>
          have hoo := Option.some.inj ho
          subst hoo
          have f28 : ρ (.tmp 50) = .bool true := hd ⟨28, .data⟩ (by simp) (by rfl)
          have f37 : ρ (.tmp 59) = .bool true := hd ⟨37, .data⟩ (by simp) (by rfl)
          exact ux_val hK hρ (by decide) (.bool true) w (by simp [execOp, f28, f37, hA.const, go_sem]) rfl (Below.refl _ _)
        | 39, ho, hK =>
          have hoo := Option.some.inj ho
          subst hoo
          have f38 : ρ (.tmp 60) = .bool true := hd ⟨38, .data⟩ (by simp) (by rfl)
          exact ux_val hK hρ (by decide) (.bool true) w (by simp [execOp, f38, hA.const, go_sem]) rfl (Below.refl _ _)
        | x + 40, ho, _ => simp at ho
      case hend =>
        intro vals w3 hI hF
        have e39 : vals 8 = .bool true := hF 39 (by decide)
        have HI := Lib.hid hI
        clear hI hF
        simp only [fillA, fillL, List.contains_cons, List.contains_nil, Nat.reduceBEq, Bool.or_false, Bool.false_or, Bool.or_true, Bool.true_or, cond_true, cond_false, Nat.zero_add, Nat.reduceAdd, e39]
        clear e39
        go_wp2
        go_ret
        exact ⟨rfl, HIF.out _ HI.out⟩
    · have HF2 := Lib.hid hf2
      have a0 := (HC1.out _ HI.out).cell (j := 0) rfl
      have a1 := (HC1.out _ HI.out).cell (j := 1) rfl
      have b0 := (HC2.out _ HI.out).cell (j := 0) rfl
      have b1 := (HC2.out _ HI.out).cell (j := 1) rfl
      go_wp2_with fail
      refine (rfew17_any _ (HP2.out _ HI.out) false ⟨fun z => Bool.noConfusion z, fun z => absurd z HF2.out⟩).mono ?_
      rintro e v3 ⟨rfl, b⟩
      have HI := Lib.hid (HI.out.trans (b.mono HI.out.size))
      clear b a0 a1 b0 b1
      clear hf2
      go_wp2_with fail
      refine (awake17_any _ (HT.out _ HI.out)).mono ?_
      rintro e v4 ⟨rfl, b⟩
      have HI := Lib.hid (HI.out.trans (b.mono HI.out.size))
      clear b
      go_wp2
      go_ret
      exact ⟨rfl, HIF.out _ HI.out⟩
  · have HF := Lib.hid hf
    have a0 := (HC1.out _ HI.out).cell (j := 0) rfl
    have a1 := (HC1.out _ HI.out).cell (j := 1) rfl
    have b0 := (HC2.out _ HI.out).cell (j := 0) rfl
    have b1 := (HC2.out _ HI.out).cell (j := 1) rfl
    go_wp2_with fail
    refine (rfew17_any _ (HP.out _ HI.out) false ⟨fun z => Bool.noConfusion z, fun z => absurd z HF.out⟩).mono ?_
    rintro e v2 ⟨rfl, b⟩
    have HI := Lib.hid (HI.out.trans (b.mono HI.out.size))
    clear b a0 a1 b0 b1
    clear hf
    go_wp2_with fail
    refine (awake17_any _ (HT.out _ HI.out)).mono ?_
    rintro e v3 ⟨rfl, b⟩
    have HI := Lib.hid (HI.out.trans (b.mono HI.out.size))
    clear b
    go_wp2
    go_ret
    exact ⟨rfl, HIF.out _ HI.out⟩
end Go.Proofs.YtlfekmbalgkmeaaGreatDoor
