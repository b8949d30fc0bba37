/- The contract of awake of trefoillaw11 in the seat YtmmogdccjiagnaaDoor (printed by list/mk_awake.py). No statement is proved here. -/
import Derived.Test.YtmmogdccjiagnaaDoorZM20
import Derived.Test.YtmmogdccjiagnaaDoorZM15
import Derived.Test.YtmmogdccjiagnaaDoorZM16
set_option linter.unusedSimpArgs false
set_option linter.unusedVariables false
set_option linter.unusedSimpArgs false
namespace Go.Proofs.YtmmogdccjiagnaaDoor
open Go Go.RowKit

theorem cell_sameC {w w' : World} {p : Addr} (h : w'.heap[p.block]? = w.heap[p.block]?) : w'.cell? p = w.cell? p := by
  unfold World.cell?
  rw [h]
theorem cell_neC {w : World} {g b o : Nat} {t : TypeId} {cs : Array Value} {fr : Nat × Nat} {v : Value} (h : w.heap[g]? = some (.cells cs t fr)) (hc : w.cell? ⟨b, o, none⟩ = some v) (hn : ∀ u ∈ cs, u ≠ v) : b ≠ g := fun e => by
  subst e
  rw [cell_of_row _ _ _ _ _ _ h] at hc
  exact hn v (Array.mem_of_getElem? hc) rfl
/-- Lists stay when a variable of slices is written. -/
theorem ints_farC {w w' : World} {g B : Nat} {t : TypeId} {u v : Value} {A1 A2 : Option Addr} {n1 c1 n2 c2 : Nat} (hg : w.heap[g]? = some (.cells #[.slice A1 n1 c1, .slice A2 n2 c2] t (0, 0))) (hf : ∀ k, k ≠ g → w'.heap[k]? = w.heap[k]?) {A : Option Addr} {zs : List Int} (h : Ints w B A zs) : Ints w' B A zs := fun hp => by
  obtain ⟨b, off, e, hb, hc⟩ := h hp
  exact ⟨b, off, e, hb, fun k hk => (cell_sameC (hf b (cell_neC hg (hc k hk) (fun u hu e => by subst e; simp at hu)))).trans (hc k hk)⟩
/-- What a store of a crew leaves as it was. -/
def KeepI (w w' : World) : Prop := w'.heap.size = w.heap.size ∧ ∀ (B : Nat) (A : Option Addr) (zs : List Int), Ints w B A zs → Ints w' B A zs
theorem KeepI.isC {w w' : World} (k : KeepI w w') {A n c F m d O L} (h : IsC w A n c F m d O L) : IsC w' A n c F m d O L :=
  ⟨h.hn, h.hm, h.ln, h.lm, by rw [k.1]; exact k.2 _ _ _ h.on, by rw [k.1]; exact k.2 _ _ _ h.left, h.hA, h.hF, h.cA⟩
/-- Behind the store of a crew into a new variable, whose address lies in a slot. -/
def ThX (wd : World) (slot : Nat) (O L : List Int) (f : Nat → Value) (w : World) : Prop := ∃ g A n c F m d, f slot = .pointer (some ⟨g, 0, none⟩) ∧ Below wd.heap.size wd w ∧ wd.heap.size ≤ g ∧ w.heap[g]? = some (.cells #[.slice A n c, .slice F m d] 27 (0, 0)) ∧ IsC w A n c F m d O L
theorem ThX.slot {wd w : World} {slot : Nat} {O L : List Int} {f f' : Nat → Value} (h : ThX wd slot O L f w) (e : f slot = f' slot) : ThX wd slot O L f' w := by
  obtain ⟨g, A, n, c, F, m, d, h1, h2⟩ := h
  exact ⟨g, A, n, c, F, m, d, e ▸ h1, h2⟩
theorem ThX.below {wd w w' : World} {slot : Nat} {O L : List Int} {f : Nat → Value} (h : ThX wd slot O L f w) (hb : Below w.heap.size w w') : ThX wd slot O L f w' := by
  obtain ⟨g, A, n, c, F, m, d, h1, h2, h3, h4, h5⟩ := h
  exact ⟨g, A, n, c, F, m, d, h1, h2.trans (hb.mono h2.size), h3, by rw [hb.block _ (Array.getElem?_eq_some_iff.1 h4).1]; exact h4, h5.below hb⟩
theorem stX {o : Oper} {a : Act} {w wd : World} {K : Act → World → Prop} {Q : Exit → Act → World → Prop} {slot : Nat} {s y : Operand} {O L : List Int} (hop : o.op = .store 27 s y) (hdst : o.dst = none)
    (hs : a.eval s = a.eval (.tmp slot)) (h9 : GNc wd.heap.size (a.eval (.tmp slot)) w) (h7 : GotCrew O L (a.eval y) w) (hb : Below wd.heap.size wd w) (hK : ∀ w', ThX wd slot O L (fun t => a.eval (.tmp t)) w' → wd.heap.size ≤ w'.heap.size → KeepI w w' → K a w') : o.wp Tryd.prog a w K Q := by
  obtain ⟨g, q9, hg1, hg2⟩ := h9
  obtain ⟨A1, n1, c1, F1, m1, d1, q7, h7⟩ := h7
  have hk : KeepI w ((w.setCell ⟨g, 0, none⟩ (.slice A1 n1 c1)).setCell ⟨g, 1, none⟩ (.slice F1 m1 d1)) := ⟨size_setC _ _ _ _, fun B A zs h => ints_farC (u := .slice A1 n1 c1) (v := .slice F1 m1 d1) hg2 (other_setC w g _ _) h⟩
  exact ox_storeC (g := g) (u := .slice A1 n1 c1) (v := .slice F1 m1 d1) hop hdst (hs.trans q9) q7 ⟨_, _, _, _, _, _, rfl, rfl⟩ hg2 (hK _ ⟨g, A1, n1, c1, F1, m1, d1, q9, hb.trans (below_setC hg1 _ _), hg1, row_setC hg2 _ _, hk.isC h7⟩ (by rw [size_setC]; exact hb.size) hk)
theorem ints_newA (w : World) (zs : List Int) : Ints (w.alloc (.cells (zs.map (Value.int .i64)).toArray 3)) (w.alloc (.cells (zs.map (Value.int .i64)).toArray 3)).heap.size (some ⟨w.heap.size, 0, none⟩) zs := fun _ =>
  ⟨_, _, rfl, by simp, fun k hk => by
    rw [World.cell?_alloc_at _ _ _ _ rfl]
    simp [List.getElem?_map, hk]⟩
theorem trc_newA (w : World) (a b c : Addr) (h1 : Ints w w.heap.size (some a) [0, 1]) (h2 : Ints w w.heap.size (some b) [0, 2]) (h3 : Ints w w.heap.size (some c) [0, -1]) : Trc (w.alloc (.cells #[.slice (some a) 2 2, .slice (some b) 2 2, .slice (some c) 2 2] 22)) (w.alloc (.cells #[.slice (some a) 2 2, .slice (some b) 2 2, .slice (some c) 2 2] 22)).heap.size (some ⟨w.heap.size, 0, none⟩) lxT := fun _ => by
  refine ⟨_, _, rfl, by simp, fun k r hr => ?_⟩
  rw [World.cell?_alloc_at _ _ _ _ rfl]
  match k, hr with
  | 0, hr =>
    obtain rfl : [0, 1] = r := by simpa [lxT] using hr
    exact ⟨some a, 2, rfl, (h1.below (below_alloc _)).more (by simp), fun e => (by cases e), by simp⟩
  | 1, hr =>
    obtain rfl : [0, 2] = r := by simpa [lxT] using hr
    exact ⟨some b, 2, rfl, (h2.below (below_alloc _)).more (by simp), fun e => (by cases e), by simp⟩
  | 2, hr =>
    obtain rfl : [0, -1] = r := by simpa [lxT] using hr
    exact ⟨some c, 2, rfl, (h3.below (below_alloc _)).more (by simp), fun e => (by cases e), by simp⟩
/-- A new list. -/
def GAq (n : Nat) (zs : List Int) (v : Value) (w : World) : Prop := ∃ a, v = .slice (some a) n n ∧ Ints w w.heap.size (some a) zs
def GTq (v : Value) (w : World) : Prop := ∃ a, v = .slice (some a) 3 3 ∧ Trc w w.heap.size (some a) lxT
def GXc (O L : List Int) (v : Value) (w : World) : Prop := ∃ A c F d, v = .agg #[.slice A 2 c, .slice F 3 d] ∧ IsC w A 2 c F 3 d O L
def GPc (O L : List Int) (v : Value) (w : World) : Prop := ∃ A c F d, v = .tuple #[.agg #[.slice A 2 c, .slice F 3 d], .int .i64 0] ∧ IsC w A 2 c F 3 d O L
def GOne (v : Value) (w : World) : Prop := ∃ A c, v = .slice A 1 c ∧ Ints w w.heap.size A [1]
def GTwo (v : Value) (w : World) : Prop := ∃ A c, v = .slice A 1 c ∧ Ints w w.heap.size A [2]
def GTc (v : Value) (w : World) : Prop := ∃ A c F d A' c', v = .tuple #[.agg #[.slice A 2 c, .slice F 3 d], .slice A' 1 c', .int .i64 0] ∧ IsC w A 2 c F 3 d [0, -1] [2, 0, 1] ∧ Ints w w.heap.size A' [1]
section
variable {w w' : World} {v : Value} {O L : List Int} {n : Nat} {zs : List Int}
theorem GAq.below (h : GAq n zs v w) (hb : Below w.heap.size w w') : GAq n zs v w' := by
  obtain ⟨a, h1, h2⟩ := h
  exact ⟨a, h1, (h2.below hb).more hb.size⟩
theorem GTq.below (h : GTq v w) (hb : Below w.heap.size w w') : GTq v w' := by
  obtain ⟨a, h1, h2⟩ := h
  exact ⟨a, h1, (h2.below hb).more hb.size⟩
theorem GXc.below (h : GXc O L v w) (hb : Below w.heap.size w w') : GXc O L v w' := by
  obtain ⟨A, c, F, d, h1, h2⟩ := h
  exact ⟨A, c, F, d, h1, h2.below hb⟩
theorem GPc.below (h : GPc O L v w) (hb : Below w.heap.size w w') : GPc O L v w' := by
  obtain ⟨A, c, F, d, h1, h2⟩ := h
  exact ⟨A, c, F, d, h1, h2.below hb⟩
theorem GOne.below (h : GOne v w) (hb : Below w.heap.size w w') : GOne v w' := by
  obtain ⟨A, c, h1, h2⟩ := h
  exact ⟨A, c, h1, (h2.below hb).more hb.size⟩
theorem GTwo.below (h : GTwo v w) (hb : Below w.heap.size w w') : GTwo v w' := by
  obtain ⟨A, c, h1, h2⟩ := h
  exact ⟨A, c, h1, (h2.below hb).more hb.size⟩
theorem GTc.below (h : GTc v w) (hb : Below w.heap.size w w') : GTc v w' := by
  obtain ⟨A, c, F, d, A', c', h1, h2, h3⟩ := h
  exact ⟨A, c, F, d, A', c', h1, h2.below hb, (h3.below hb).more hb.size⟩
theorem GXc.got (h : GXc O L v w) : GotCrew O L v w := by
  obtain ⟨A, c, F, d, h1, h2⟩ := h
  exact ⟨A, 2, c, F, 3, d, h1, h2⟩
theorem KeepI.gtc (k : KeepI w w') (h : GTc v w) : GTc v w' := by
  obtain ⟨A, c, F, d, A', c', h1, h2, h3⟩ := h
  exact ⟨A, c, F, d, A', c', h1, k.isC h2, by rw [k.1]; exact k.2 _ _ _ h3⟩
theorem KeepI.gone (k : KeepI w w') (h : GOne v w) : GOne v w' := by
  obtain ⟨A, c, h1, h2⟩ := h
  exact ⟨A, c, h1, by rw [k.1]; exact k.2 _ _ _ h2⟩
end
/-- The example's graph and its variable. -/
structure AwL (w0 x : World) : Prop where
  bel : Below w0.heap.size w0 x
  d : x.heap[w0.heap.size + 1]? = some (.cells #[.slice (some ⟨w0.heap.size, 0, none⟩) 3 3, .slice none 0 0] 25 (0, 0))
  g : IsG x (some ⟨w0.heap.size, 0, none⟩) 3 3 none 0 0 lxW []
theorem AwL.next {w0 x y : World} (h : AwL w0 x) (hb : Below x.heap.size x y) : AwL w0 y :=
  ⟨h.bel.trans (hb.mono h.bel.size), by rw [hb.block _ (Array.getElem?_eq_some_iff.1 h.d).1]; exact h.d, h.g.below hb⟩
theorem AwL.d0 {w0 x : World} (h : AwL w0 x) : x.cell? ⟨w0.heap.size + 1, 0, none⟩ = some (.slice (some ⟨w0.heap.size, 0, none⟩) 3 3) := by rw [cell_of_row _ _ _ _ _ _ h.d]; rfl
theorem AwL.d1 {w0 x : World} (h : AwL w0 x) : x.cell? ⟨w0.heap.size + 1, 1, none⟩ = some (.slice none 0 0) := by rw [cell_of_row _ _ _ _ _ _ h.d]; rfl
theorem AwL.start (w : World) (hT : Tab64 w) : AwL w ((w.alloc (.cells #[.int .i64 9, .int .i64 9, .int .i64 9] 3)).alloc (.cells #[.slice (some ⟨w.heap.size, 0, none⟩) 3 3, .slice none 0 0] 25)) := by
  have i1 := ints_newA w lxW
  obtain ⟨w1, h1⟩ : ∃ w1, w1 = w.alloc (.cells #[.int .i64 9, .int .i64 9, .int .i64 9] 3) := ⟨_, rfl⟩
  have i2 : Ints w1 w1.heap.size (some ⟨w.heap.size, 0, none⟩) lxW := by rw [h1]; exact i1
  have s1 : w1.heap.size = w.heap.size + 1 := by rw [h1]; simp
  have b1 : Below w.heap.size w w1 := by rw [h1]; exact below_alloc _
  rw [← h1]
  have b2 := b1.trans ((below_alloc (w := w1) (.cells #[.slice (some ⟨w.heap.size, 0, none⟩) 3 3, .slice none 0 0] 25)).mono b1.size)
  exact ⟨b2, by rw [← s1]; exact heap_alloc_new w1 _, rfl, rfl, by decide, by decide, (i2.below (below_alloc _)).more (by simp), (fun h => absurd h (by simp)), (fun e => by cases e), (fun _ => ⟨rfl, rfl⟩), hT.via b2⟩
/-- A crew in a variable. -/
structure CrV (g : Nat) (A : Option Addr) (c : Nat) (F : Option Addr) (d : Nat) (O L : List Int) (x : World) : Prop where
  h : x.heap[g]? = some (.cells #[.slice A 2 c, .slice F 3 d] 27 (0, 0))
  c : IsC x A 2 c F 3 d O L
section
variable {g : Nat} {A : Option Addr} {cA : Nat} {F : Option Addr} {d : Nat} {O L : List Int} {x y : World}
theorem CrV.next (h : CrV g A cA F d O L x) (hb : Below x.heap.size x y) : CrV g A cA F d O L y := ⟨by rw [hb.block _ (Array.getElem?_eq_some_iff.1 h.h).1]; exact h.h, h.c.below hb⟩
theorem CrV.c0 (h : CrV g A cA F d O L x) : x.cell? ⟨g, 0, none⟩ = some (.slice A 2 cA) := by rw [cell_of_row _ _ _ _ _ _ h.h]; rfl
theorem CrV.c1 (h : CrV g A cA F d O L x) : x.cell? ⟨g, 1, none⟩ = some (.slice F 3 d) := by rw [cell_of_row _ _ _ _ _ _ h.h]; rfl
end
theorem ThX.crv {wd w : World} {slot : Nat} {O L : List Int} {f : Nat → Value} (h : ThX wd slot O L f w) (h2 : O.length = 2) (h3 : L.length = 3) : ∃ g A c F d, f slot = .pointer (some ⟨g, 0, none⟩) ∧ Below wd.heap.size wd w ∧ CrV g A c F d O L w := by
  obtain ⟨g, A, n, c, F, m, d, e1, e2, e3, e4, e5⟩ := h
  obtain rfl : n = 2 := e5.hn.symm.trans h2
  obtain rfl : m = 3 := e5.hm.symm.trans h3
  exact ⟨g, A, c, F, d, e1, e2, e4, e5⟩
/-- All of the example, told. -/
structure AwY (w0 : World) (gx : Nat) (Ax : Option Addr) (cx : Nat) (Fx : Option Addr) (dx : Nat) (gy : Nat) (Ay : Option Addr) (cy : Nat) (Fy : Option Addr) (dy : Nat) (T : Option Addr) (tc : Nat) (Al : Option Addr) (cl : Nat) (x : World) : Prop where
  l : AwL w0 x
  kx : CrV gx Ax cx Fx dx [0, 1] lxN x
  ky : CrV gy Ay cy Fy dy [0, -1] [2, 0, 1] x
  t : Trc x x.heap.size T lxT
  z : Ints x x.heap.size Al [1]
theorem AwY.next {w0 x y : World} {gx : Nat} {Ax : Option Addr} {cx : Nat} {Fx : Option Addr} {dx : Nat} {gy : Nat} {Ay : Option Addr} {cy : Nat} {Fy : Option Addr} {dy : Nat} {T : Option Addr} {tc : Nat} {Al : Option Addr} {cl : Nat} (h : AwY w0 gx Ax cx Fx dx gy Ay cy Fy dy T tc Al cl x) (hb : Below x.heap.size x y) : AwY w0 gx Ax cx Fx dx gy Ay cy Fy dy T tc Al cl y :=
  ⟨h.l.next hb, h.kx.next hb, h.ky.next hb, (h.t.below hb).more hb.size, (h.z.below hb).more hb.size⟩

theorem aw_trace {w0 x : World} {gx : Nat} {Ax : Option Addr} {cx : Nat} {Fx : Option Addr} {dx : Nat} {gy : Nat} {Ay : Option Addr} {cy : Nat} {Fy : Option Addr} {dy : Nat} {T : Option Addr} {tc : Nat} {Al : Option Addr} {cl : Nat} (h : AwY w0 gx Ax cx Fx dx gy Ay cy Fy dy T tc Al cl x) :
    Calls Tryd.prog 30 #[.slice T 3 tc, .slice (some ⟨x.heap.size + 1 + 1 + 1, 0, none⟩) 3 3] ((((x.alloc (.cells #[.int .i64 0, .int .i64 1] 3)).alloc (.cells #[.int .i64 0, .int .i64 2] 3)).alloc (.cells #[.int .i64 0, .int .i64 (-1)] 3)).alloc (.cells #[.slice (some ⟨x.heap.size, 0, none⟩) 2 2, .slice (some ⟨x.heap.size + 1, 0, none⟩) 2 2, .slice (some ⟨x.heap.size + 1 + 1, 0, none⟩) 2 2] 22)) fun e y => e = .returned (.bool true) ∧ AwY w0 gx Ax cx Fx dx gy Ay cy Fy dy T tc Al cl y := by
  obtain ⟨x1, h1⟩ : ∃ x1, x1 = x.alloc (.cells #[.int .i64 0, .int .i64 1] 3) := ⟨_, rfl⟩
  obtain ⟨x2, h2⟩ : ∃ x2, x2 = x1.alloc (.cells #[.int .i64 0, .int .i64 2] 3) := ⟨_, rfl⟩
  obtain ⟨x3, h3⟩ : ∃ x3, x3 = x2.alloc (.cells #[.int .i64 0, .int .i64 (-1)] 3) := ⟨_, rfl⟩
  have s1 : x1.heap.size = x.heap.size + 1 := by rw [h1]; simp
  have s2 : x2.heap.size = x.heap.size + 1 + 1 := by rw [h2]; simp [s1]
  have s3 : x3.heap.size = x.heap.size + 1 + 1 + 1 := by rw [h3]; simp [s2]
  have b1 : Below x.heap.size x x1 := by rw [h1]; exact below_alloc _
  have b2 : Below x1.heap.size x1 x2 := by rw [h2]; exact below_alloc _
  have b3 : Below x2.heap.size x2 x3 := by rw [h3]; exact below_alloc _
  have i1 : Ints x1 x1.heap.size (some ⟨x.heap.size, 0, none⟩) [0, 1] := by rw [h1]; exact ints_newA x [0, 1]
  have i2 : Ints x2 x2.heap.size (some ⟨x.heap.size + 1, 0, none⟩) [0, 2] := by rw [h2, ← s1]; exact ints_newA x1 [0, 2]
  have i3 : Ints x3 x3.heap.size (some ⟨x.heap.size + 1 + 1, 0, none⟩) [0, -1] := by rw [h3, ← s2]; exact ints_newA x2 [0, -1]
  rw [← h1, ← h2, ← h3]
  have j1 := (((i1.below b2).more b2.size).below b3).more b3.size
  have j2 := (i2.below b3).more b3.size
  have t4 := trc_newA x3 ⟨x.heap.size, 0, none⟩ ⟨x.heap.size + 1, 0, none⟩ ⟨x.heap.size + 1 + 1, 0, none⟩ j1 j2 i3
  rw [s3] at t4
  have bb : Below x.heap.size x (x3.alloc (.cells #[.slice (some ⟨x.heap.size, 0, none⟩) 2 2, .slice (some ⟨x.heap.size + 1, 0, none⟩) 2 2, .slice (some ⟨x.heap.size + 1 + 1, 0, none⟩) 2 2] 22)) := b1.trans ((b2.trans ((b3.trans ((below_alloc _).mono b3.size)).mono b2.size)).mono b1.size)
  have hn := h.next bb
  exact (rtrace_any (t := lxT) (t' := lxT) (tn := 3) (tn' := 3) (tc := tc) (tc' := 3) _ hn.t rfl (by decide) (by decide) t4 rfl (by decide) (by decide)).mono fun e y hy => ⟨by rw [hy.1]; rfl, hn.next hy.2⟩
theorem aw_ints {w0 x : World} {gx : Nat} {Ax : Option Addr} {cx : Nat} {Fx : Option Addr} {dx : Nat} {gy : Nat} {Ay : Option Addr} {cy : Nat} {Fy : Option Addr} {dy : Nat} {T : Option Addr} {tc : Nat} {Al : Option Addr} {cl : Nat} (A : Option Addr) (c : Nat) (zs : List Int) (h : AwY w0 gx Ax cx Fx dx gy Ay cy Fy dy T tc Al cl x) (hl : zs.length ≤ 1000) (hI : Ints x x.heap.size A zs) :
    Calls Tryd.prog 22 #[.slice A zs.length c, .slice (some ⟨x.heap.size, 0, none⟩) zs.length zs.length] (x.alloc (.cells (zs.map (Value.int .i64)).toArray 3)) fun e y => e = .returned (.bool true) ∧ AwY w0 gx Ax cx Fx dx gy Ay cy Fy dy T tc Al cl y :=
  (ints_any (x.alloc (.cells (zs.map (Value.int .i64)).toArray 3)).heap.size A (some ⟨x.heap.size, 0, none⟩) c zs.length zs zs (x.alloc (.cells (zs.map (Value.int .i64)).toArray 3)) hl hl ((hI.below (below_alloc _)).more (by simp)) (ints_newA x zs)).mono fun e y hy => by
    obtain ⟨e1, k, rfl⟩ := hy
    exact ⟨by rw [e1]; simp, h.next ((below_alloc _).trans (below_drewN (Below.refl _ _) k))⟩

set_option maxRecDepth 100000 in
set_option maxHeartbeats 16000000 in
theorem awakeC_any (HK0 : ListOk) (wf : World) (hT : Tab64 wf) : Calls Tryd.prog 9 #[] wf fun e w' => e = .returned (.bool true) ∧ Below wf.heap.size wf w' := by
  have HK := Lib.hid HK0
  clear HK0
  have B0 := Lib.hid (AwL.start wf hT)
  have C1 := Lib.hid (fun x (h : AwL wf x) => (HK.out.run (W := lxW) (E := []) (need := lxN) (nn := 3) (nc := 3) 2 (x.alloc (.cells #[.int .i64 3, .int .i64 1, .int .i64 1] 3)) (by decide) (by decide) (h.g.below (below_alloc _)) rfl (by decide) (ints_newA x lxN) (fun e => by cases e) (fun _ => by decide)).mono fun e y hy => (by
    obtain ⟨v, he, hg, hb⟩ := hy
    rw [lxNew] at he
    rw [lxRun] at hg
    obtain ⟨T, tc, rfl, h1, _⟩ := hg
    exact ⟨T, tc, he, h1, h.next ((below_alloc _).trans (hb.mono (by simp)))⟩ : ∃ T tc, e = .returned (.tuple #[.slice T 3 tc, .int .i64 0]) ∧ Trc y y.heap.size T lxT ∧ AwL wf y))
  clear hT
  have K1 := Lib.hid (by
    have h := C1.out _ B0.out
    simp only [World.size_alloc] at h
    exact h)
  have SZ := Lib.hid B0.out.bel.size
  clear B0
  go_enter Tryd.func9, Tryd.ntmps9
  go_wp2_with fail
  refine K1.out.mono ?_
  rintro e w1 ⟨T, tc, rfl, hT1, hst⟩
  have B1 := Lib.hid hst
  have HT1 := Lib.hid hT1
  clear hst hT1 K1 C1 SZ
  have p0 := B1.out.d0
  have p1 := B1.out.d1
  go_wp2_with fail
  refine (HK.out.new (W := lxW) (E := []) (need := lxN) (nn := 3) (nc := 3) 2 (w1.alloc (.cells #[.int .i64 3, .int .i64 1, .int .i64 1] 3)) (by decide) (by decide) (B1.out.g.below (below_alloc _)) rfl (by decide) (ints_newA w1 lxN) (fun e => by cases e)).mono ?_
  rintro e w2 ⟨v, he, hg, hb⟩
  rw [lxNew] at he
  rw [lxNewO, lxNewL] at hg
  obtain ⟨Aq, n4, cq, Fq, m4, dq, rfl, h4⟩ := hg
  obtain rfl : 2 = n4 := h4.hn
  obtain rfl : 3 = m4 := h4.hm
  subst he
  have hb2 := (below_alloc (w := w1) (.cells #[.int .i64 3, .int .i64 1, .int .i64 1] 3)).trans (hb.mono (by simp))
  have B2 : Hid (AwL wf w2 ∧ IsC w2 Aq 2 cq Fq 3 dq [-1, -1] lxN ∧ Trc w2 w2.heap.size T lxT) := Lib.hid ⟨B1.out.next hb2, h4, (HT1.out.below hb2).more hb2.size⟩
  clear hb hb2 h4 p0 p1 HT1 B1
  obtain ⟨gq, hgq⟩ : ∃ g, g = w2.heap.size := ⟨_, rfl⟩
  have hq1 : wf.heap.size + 1 < w2.heap.size := (Array.getElem?_eq_some_iff.1 (B2.out.1).d).1
  obtain ⟨w3, hw3⟩ : ∃ w3, w3 = w2.alloc (.cells #[.slice Aq 2 cq, .slice Fq 3 dq] 27) := ⟨_, rfl⟩
  have hba := below_alloc (w := w2) (.cells #[.slice Aq 2 cq, .slice Fq 3 dq] 27)
  have hna := heap_alloc_new w2 (.cells #[.slice Aq 2 cq, .slice Fq 3 dq] 27)
  rw [← hw3] at hba hna
  rw [← hgq] at hna
  have HW := Lib.hid hw3
  have HG := Lib.hid hgq
  have p0 := (B2.out.1).d0
  have p1 := (B2.out.1).d1
  have B3 : Hid (AwL wf w3 ∧ CrV gq Aq cq Fq dq [-1, -1] lxN w3 ∧ Trc w3 w3.heap.size T lxT) := Lib.hid ⟨B2.out.1.next hba, ⟨hna, B2.out.2.1.below hba⟩, (B2.out.2.2.below hba).more hba.size⟩
  clear hba hna hw3 hgq B2
  go_wp2_with fail
  rw [← HW.out, ← HG.out]
  clear p0 p1 hq1 HW HG
  refine (HK.out.fill (W := lxW) (E := []) (O := [-1, -1]) (L := lxN) w3 B3.out.1.g B3.out.2.1.c).mono ?_
  rintro e w4 ⟨v, he, hg, hb⟩
  rw [lxE0] at he
  rw [lxFillO, lxFillL] at hg
  obtain ⟨Ax, n4, cx, Fx, m4, dx, rfl, h4⟩ := hg
  obtain rfl : 2 = n4 := h4.hn
  obtain rfl : 3 = m4 := h4.hm
  subst he
  have B4 : Hid (AwL wf w4 ∧ IsC w4 Ax 2 cx Fx 3 dx [0, 1] lxN ∧ Trc w4 w4.heap.size T lxT) := Lib.hid ⟨B3.out.1.next hb, h4, (B3.out.2.2.below hb).more hb.size⟩
  clear hb h4 B3
  obtain ⟨gx, hgx⟩ : ∃ g, g = w4.heap.size := ⟨_, rfl⟩
  have hq1 : wf.heap.size + 1 < w4.heap.size := (Array.getElem?_eq_some_iff.1 (B4.out.1).d).1
  obtain ⟨w5, hw5⟩ : ∃ w3, w3 = w4.alloc (.cells #[.slice Ax 2 cx, .slice Fx 3 dx] 27) := ⟨_, rfl⟩
  have hba := below_alloc (w := w4) (.cells #[.slice Ax 2 cx, .slice Fx 3 dx] 27)
  have hna := heap_alloc_new w4 (.cells #[.slice Ax 2 cx, .slice Fx 3 dx] 27)
  rw [← hw5] at hba hna
  rw [← hgx] at hna
  have HW := Lib.hid hw5
  have HG := Lib.hid hgx
  have p0 := (B4.out.1).d0
  have p1 := (B4.out.1).d1
  have B5 : Hid (AwL wf w5 ∧ CrV gx Ax cx Fx dx [0, 1] lxN w5 ∧ Trc w5 w5.heap.size T lxT) := Lib.hid ⟨B4.out.1.next hba, ⟨hna, B4.out.2.1.below hba⟩, (B4.out.2.2.below hba).more hba.size⟩
  clear hba hna hw5 hgx B4
  go_wp2_with fail
  rw [← HW.out, ← HG.out]
  clear p0 p1 hq1 HW HG
  refine (HK.out.tick (W := lxW) (E := []) (O := [0, 1]) (L := lxN) w5 B5.out.1.g B5.out.2.1.c).mono ?_
  rintro e w6 ⟨v, u, he, hg, hu, hb⟩
  rw [lxTickD] at hu
  obtain ⟨Al, cl, rfl, hz⟩ := hu
  rw [lxE1] at he
  rw [lxTickO, lxTickL] at hg
  obtain ⟨Ay, n4, cy, Fy, m4, dy, rfl, h4⟩ := hg
  obtain rfl : 2 = n4 := h4.hn
  obtain rfl : 3 = m4 := h4.hm
  subst he
  have B6 : Hid (AwL wf w6 ∧ CrV gx Ax cx Fx dx [0, 1] lxN w6 ∧ IsC w6 Ay 2 cy Fy 3 dy [0, -1] [2, 0, 1] ∧ Trc w6 w6.heap.size T lxT ∧ Ints w6 w6.heap.size Al [1]) := Lib.hid ⟨B5.out.1.next hb, B5.out.2.1.next hb, h4, (B5.out.2.2.below hb).more hb.size, hz⟩
  clear hb h4 hz B5
  obtain ⟨gy, hgy⟩ : ∃ g, g = w6.heap.size := ⟨_, rfl⟩
  have hq1 : wf.heap.size + 1 < w6.heap.size := (Array.getElem?_eq_some_iff.1 (B6.out.1).d).1
  obtain ⟨w7, hw7⟩ : ∃ w3, w3 = w6.alloc (.cells #[.slice Ay 2 cy, .slice Fy 3 dy] 27) := ⟨_, rfl⟩
  have hba := below_alloc (w := w6) (.cells #[.slice Ay 2 cy, .slice Fy 3 dy] 27)
  have hna := heap_alloc_new w6 (.cells #[.slice Ay 2 cy, .slice Fy 3 dy] 27)
  rw [← hw7] at hba hna
  rw [← hgy] at hna
  have HW := Lib.hid hw7
  have HG := Lib.hid hgy
  have p0 := (B6.out.1).d0
  have p1 := (B6.out.1).d1
  have B7 : Hid (AwY wf gx Ax cx Fx dx gy Ay cy Fy dy T tc Al cl w7) := Lib.hid ⟨B6.out.1.next hba, B6.out.2.1.next hba, ⟨hna, B6.out.2.2.1.below hba⟩, (B6.out.2.2.2.1.below hba).more hba.size, (B6.out.2.2.2.2.below hba).more hba.size⟩
  have HS : gy + 1 = w7.heap.size := by rw [hw7, hgy]; simp
  clear hba hna hw7 hgy B6
  go_wp2_with fail
  rw [← HW.out, ← HG.out, HS]
  clear p0 p1 hq1 HW HG HS
  refine (aw_trace B7.out).mono ?_
  rintro e w8 ⟨rfl, hst⟩
  have B8 := Lib.hid hst
  clear hst B7
  have q0 := B8.out.kx.c0
  go_wp2_with fail
  refine (aw_ints Ax cx [0, 1] B8.out (by decide) B8.out.kx.c.on).mono ?_
  clear q0
  rintro e w9 ⟨rfl, hst⟩
  have B9 := Lib.hid hst
  clear hst B8
  go_wp2_with fail
  refine (aw_ints Al cl [1] B9.out (by decide) B9.out.z).mono ?_
  rintro e w10 ⟨rfl, hst⟩
  have B10 := Lib.hid hst
  clear hst B9
  have q1 := B10.out.ky.c1
  go_wp2_with fail
  refine (aw_ints Fy dy [2, 0, 1] B10.out (by decide) B10.out.ky.c.left).mono ?_
  clear q1
  rintro e w11 ⟨rfl, hst⟩
  have B11 := Lib.hid hst
  clear hst B10
  have p0 := B11.out.l.d0
  have p1 := B11.out.l.d1
  have q0 := B11.out.ky.c0
  have q1 := B11.out.ky.c1
  go_wp2_with fail
  refine (HK.out.ready (W := lxW) (E := []) (O := [0, -1]) (L := [2, 0, 1]) w11 B11.out.l.g B11.out.ky.c).mono ?_
  rintro e w12 ⟨v, he, hu, hb⟩
  rw [lxReady] at hu
  obtain ⟨Ar, cr, rfl, hz⟩ := hu
  subst he
  have B12 := Lib.hid (B11.out.next hb)
  have HZ := Lib.hid hz
  clear hb hz B11 p0 p1 q0 q1
  go_wp2_with fail
  refine (aw_ints Ar cr [2] B12.out (by decide) HZ.out).mono ?_
  rintro e w13 ⟨rfl, hst⟩
  have B13 := Lib.hid hst
  clear hst B12 HZ
  have p0 := B13.out.l.d0
  have p1 := B13.out.l.d1
  have q0 := B13.out.ky.c0
  have q1 := B13.out.ky.c1
  go_wp2_with fail
  refine (HK.out.check (W := lxW) (E := []) (O := [0, -1]) (L := [2, 0, 1]) w13 B13.out.l.g B13.out.ky.c).mono ?_
  rintro e w14 ⟨he, hb⟩
  rw [lxE2] at he
  subst he
  have B14 := Lib.hid (B13.out.next hb)
  clear hb B13 p0 p1 q0 q1
  have q0 := B14.out.ky.c0
  have q1 := B14.out.ky.c1
  go_wp2_with fail
  refine (HK.out.same (O := [0, -1]) (L := [2, 0, 1]) (O' := [0, -1]) (L' := [2, 0, 1]) w14 B14.out.ky.c B14.out.ky.c).mono ?_
  rintro e w15 ⟨he, hb⟩
  rw [show decide ((([0, -1] : List Int) = [0, -1]) ∧ (([2, 0, 1] : List Int) = [2, 0, 1])) = true by decide] at he
  subst he
  have B15 := Lib.hid (B14.out.next hb)
  clear hb B14 q0 q1
  have p0 := B15.out.kx.c0
  have p1 := B15.out.kx.c1
  have q0 := B15.out.ky.c0
  have q1 := B15.out.ky.c1
  go_wp2_with fail
  refine (HK.out.same (O := [0, 1]) (L := lxN) (O' := [0, -1]) (L' := [2, 0, 1]) w15 B15.out.kx.c B15.out.ky.c).mono ?_
  rintro e w16 ⟨he, hb⟩
  rw [show decide ((([0, 1] : List Int) = [0, -1]) ∧ (lxN = [2, 0, 1])) = false by decide] at he
  subst he
  have B16 := Lib.hid (B15.out.next hb)
  clear hb B15 p0 p1 q0 q1
  go_wp2
  go_ret
  exact ⟨rfl, B16.out.l.bel⟩

end Go.Proofs.YtmmogdccjiagnaaDoor
