/- eval.read in the seat YtkmajhbfmdoamaaGreatDoor: its contract. No statement is proved here. -/
import Derived.Test.YtkmajhbfmdoamaaGreatDoorZM27
import Derived.Test.YtkmajhbfmdoamaaGreatDoorZM28
import Derived.Laws.ResultCell
set_option linter.unusedSimpArgs false
set_option linter.unusedVariables false
namespace Go.Proofs.YtkmajhbfmdoamaaGreatDoor
open Go.RowKit

theorem results_row_tmp2 {fn : Func} {p u v : Tmp} {ty : TypeId} (h : fn.results = #[.cell p ty, .tmp u, .tmp v]) (tmps : Array Value) (w : World) (g : Nat) (cs : Array Value)
    (hp : tmps.getD p undef = .pointer (some ⟨g, 0, none⟩)) (hl : (loadVar ty ⟨g, 0, none⟩).run Tryz.prog w = .ok (.agg cs) w) :
    (results fn tmps).run Tryz.prog w = .ok (.tuple #[.agg cs, tmps.getD u undef, tmps.getD v undef]) w := by
  have hp' : tmps[p]?.getD undef = .pointer (some ⟨g, 0, none⟩) := by simpa using hp
  simp [results, h, hp', asAddr, hl]
theorem results_row_tmp1 {fn : Func} {p u : Tmp} {ty : TypeId} (h : fn.results = #[.cell p ty, .tmp u]) (tmps : Array Value) (w : World) (g : Nat) (cs : Array Value)
    (hp : tmps.getD p undef = .pointer (some ⟨g, 0, none⟩)) (hl : (loadVar ty ⟨g, 0, none⟩).run Tryz.prog w = .ok (.agg cs) w) :
    (results fn tmps).run Tryz.prog w = .ok (.tuple #[.agg cs, tmps.getD u undef]) w := by
  have hp' : tmps[p]?.getD undef = .pointer (some ⟨g, 0, none⟩) := by simpa using hp
  simp [results, h, hp', asAddr, hl]
theorem load_low {w : World} {g : Nat} {a b c : Value} (h : w.heap[g]? = some (.cells #[a, b, c] 60 (0, 0))) : (loadVar 60 ⟨g, 0, none⟩).run Tryz.prog w = .ok (.agg #[a, b, c]) w := run_loadVar_row w g _ _ _ _ _ h Tryz.underlying60 rfl (by kernel_rfl)
theorem load_mem {w : World} {g : Nat} {a b : Value} (h : w.heap[g]? = some (.cells #[a, b] 31 (0, 0))) : (loadVar 31 ⟨g, 0, none⟩).run Tryz.prog w = .ok (.agg #[a, b]) w := run_loadVar_row w g _ _ _ _ _ h Tryz.underlying31 rfl (by kernel_rfl)
/-- Three cells written. -/
theorem row_set3 {w : World} {g : Nat} {t : TypeId} {x y z : Value} (h : w.heap[g]? = some (.cells #[x, y, z] t (0, 0))) (a b c : Value) : (((w.setCell ⟨g, 0, none⟩ a).setCell ⟨g, 1, none⟩ b).setCell ⟨g, 2, none⟩ c).heap[g]? = some (.cells #[a, b, c] t (0, 0)) := by
  have h1 := heap_setCell_same w g 0 _ _ a h
  have h2 := heap_setCell_same _ g 1 _ _ b h1
  have h3 := heap_setCell_same _ g 2 _ _ c h2
  simpa using h3
theorem row_set2 {w : World} {g : Nat} {t : TypeId} {x y : Value} (h : w.heap[g]? = some (.cells #[x, y] t (0, 0))) (a b : Value) : ((w.setCell ⟨g, 0, none⟩ a).setCell ⟨g, 1, none⟩ b).heap[g]? = some (.cells #[a, b] t (0, 0)) := by
  have h1 := heap_setCell_same w g 0 _ _ a h
  have h2 := heap_setCell_same _ g 1 _ _ b h1
  simpa using h2
theorem row_end3 {w : World} {g : Nat} {t : TypeId} {x y z : Value} (h : w.heap[g]? = some (.cells #[x, y, z] t (0, 0))) (a b c : Value) (o : Obj) : ((((w.setCell ⟨g, 0, none⟩ a).setCell ⟨g, 1, none⟩ b).setCell ⟨g, 2, none⟩ c).alloc o).heap[g]? = some (.cells #[a, b, c] t (0, 0)) := by
  have h1 := row_set3 h a b c
  rw [Below.heap_alloc _ o g (Array.getElem?_eq_some_iff.1 h1).1]
  exact h1
theorem row_end2 {w : World} {g : Nat} {t : TypeId} {x y : Value} (h : w.heap[g]? = some (.cells #[x, y] t (0, 0))) (a b : Value) (o : Obj) : (((w.setCell ⟨g, 0, none⟩ a).setCell ⟨g, 1, none⟩ b).alloc o).heap[g]? = some (.cells #[a, b] t (0, 0)) := by
  have h1 := row_set2 h a b
  rw [Below.heap_alloc _ o g (Array.getElem?_eq_some_iff.1 h1).1]
  exact h1
theorem size_set3 (w : World) (g : Nat) (a b c : Value) : (((w.setCell ⟨g, 0, none⟩ a).setCell ⟨g, 1, none⟩ b).setCell ⟨g, 2, none⟩ c).heap.size = w.heap.size := by simp [World.setCell]
theorem size_set2 (w : World) (g : Nat) (a b : Value) : ((w.setCell ⟨g, 0, none⟩ a).setCell ⟨g, 1, none⟩ b).heap.size = w.heap.size := by simp [World.setCell]
theorem below_set3 {w : World} {B g : Nat} (hg : B ≤ g) (a b c : Value) : Below B w (((w.setCell ⟨g, 0, none⟩ a).setCell ⟨g, 1, none⟩ b).setCell ⟨g, 2, none⟩ c) := (((Below.refl B w).setCell hg a).setCell hg b).setCell hg c
theorem below_set2 {w : World} {B g : Nat} (hg : B ≤ g) (a b : Value) : Below B w ((w.setCell ⟨g, 0, none⟩ a).setCell ⟨g, 1, none⟩ b) := ((Below.refl B w).setCell hg a).setCell hg b
theorem far_set3 {w : World} {g k : Nat} (hk : k ≠ g) (a b c : Value) : (((w.setCell ⟨g, 0, none⟩ a).setCell ⟨g, 1, none⟩ b).setCell ⟨g, 2, none⟩ c).heap[k]? = w.heap[k]? := by
  rw [heap_setCell_other _ _ _ _ hk, heap_setCell_other _ _ _ _ hk, heap_setCell_other _ _ _ _ hk]

/-! What lies elsewhere stays when a variable of nothing is written -/
theorem cell_same {w w' : World} {p : Addr} (h : w'.heap[p.block]? = w.heap[p.block]?) : w'.cell? p = w.cell? p := by
  unfold World.cell?
  rw [h]
theorem cell_ne {w : World} {g b o : Nat} {t : TypeId} {cs : Array Value} {fr : Nat × Nat} {v : Value} (h : w.heap[g]? = some (.cells cs t fr)) (hc : w.cell? ⟨b, o, none⟩ = some v) (hn : ∀ u ∈ cs, u ≠ v) : b ≠ g := fun e => by
  subst e
  rw [cell_of_row _ _ _ _ _ _ h] at hc
  exact hn v (Array.mem_of_getElem? hc) rfl
theorem nil3_ne {n : Int} : ∀ u ∈ (#[.slice none 0 0, .slice none 0 0, .slice none 0 0] : Array Value), u ≠ .int .i64 n := fun u hu e => by
  subst e
  simp at hu
section
variable {w w' : World} {g B : Nat} {t : TypeId} {cs : Array Value} {fr : Nat × Nat} (hg : w.heap[g]? = some (.cells cs t fr)) (hn : ∀ (n : Int), ∀ u ∈ cs, u ≠ .int .i64 n) (hf : ∀ k, k ≠ g → w'.heap[k]? = w.heap[k]?)
include hg hn hf
theorem Ints.far {A : Option Addr} {zs : List Int} (h : Ints w B A zs) : Ints w' B A zs := fun hp => by
  obtain ⟨b, off, e, hb, hc⟩ := h hp
  exact ⟨b, off, e, hb, fun k hk => (cell_same (hf b (cell_ne hg (hc k hk) (hn _)))).trans (hc k hk)⟩
theorem Pairs.far {A : Option Addr} {zs : List (Int × Int)} (h : Pairs w B A zs) : Pairs w' B A zs := fun hp => by
  obtain ⟨b, off, e, hb, hc⟩ := h hp
  exact ⟨b, off, e, hb, fun k x hx => ⟨(cell_same (hf b (cell_ne hg (hc k x hx).1 (hn _)))).trans (hc k x hx).1, (cell_same (hf b (cell_ne hg (hc k x hx).2 (hn _)))).trans (hc k x hx).2⟩⟩
theorem IsL.far {A : Option Addr} {n c : Nat} {F : Option Addr} {m d : Nat} {R : Option Addr} {k e : Nat} {W : List Int} {E P : List (Int × Int)} (h : IsL w A n c F m d R k e W E P) (hs : w.heap.size ≤ w'.heap.size) (hT : Tab64 w') : IsL w' A n c F m d R k e W E P :=
  ⟨⟨h.g.hn, h.g.hm, h.g.ln, h.g.lm, (h.g.ints.far hg hn hf).more hs, (h.g.pairs.far hg hn hf).more hs, h.g.hA, h.g.hF, hT⟩, h.hk, h.lk, (h.pcs.far hg hn hf).more hs⟩
end
/-- A task and a memory in two boxes of the call's own, and as they came. -/
structure BxM (w : World) (s : Sh) (T : Task) (A : Option Addr) (n c : Nat) (F : Option Addr) (m d : Nat) (D : List Bool) (V : List Int) (w' : World) : Prop where
  bel : Below w.heap.size w w'
  cd : CellsD w' s T.period T.deadline w.heap.size
  m0 : w'.cell? ⟨w.heap.size + 1, 0, none⟩ = some (.slice A n c)
  m1 : w'.cell? ⟨w.heap.size + 1, 1, none⟩ = some (.slice F m d)
  isd : IsD w' s T
  mem : IsM w' A n c F m d D V
section
variable {w w1 w2 : World} {s : Sh} {T : Task} {A : Option Addr} {n c : Nat} {F : Option Addr} {m d : Nat} {D : List Bool} {V : List Int}
theorem BxM.next (h : BxM w s T A n c F m d D V w1) (hb : Below w1.heap.size w1 w2) : BxM w s T A n c F m d D V w2 :=
  ⟨h.bel.trans (hb.mono h.bel.size), h.cd.next hb, (hb.cell (World.block_lt_of_cell? _ _ h.m0)).trans h.m0, (hb.cell (World.block_lt_of_cell? _ _ h.m1)).trans h.m1, h.isd.below hb, h.mem.below hb⟩
theorem BxM.start (hd : IsD w s T) (hm : IsM w A n c F m d D V) :
    BxM w s T A n c F m d D V ((w.alloc (.cells #[.int .i64 T.period, .int .i64 T.deadline, .slice s.P s.np s.pc, .slice s.E s.ne s.ec, .slice s.F s.nf s.fc, .slice s.R s.nr s.rc] 27)).alloc (.cells #[.slice A n c, .slice F m d] 31)) := by
  have h1 := Bx1T.start hd.t
  have hb := below_alloc (w := w) (.cells #[.int .i64 T.period, .int .i64 T.deadline, .slice s.P s.np s.pc, .slice s.E s.ne s.ec, .slice s.F s.nf s.fc, .slice s.R s.nr s.rc] 27)
  obtain ⟨w0, hw0⟩ : ∃ w0, w0 = w.alloc (.cells #[.int .i64 T.period, .int .i64 T.deadline, .slice s.P s.np s.pc, .slice s.E s.ne s.ec, .slice s.F s.nf s.fc, .slice s.R s.nr s.rc] 27) := ⟨_, rfl⟩
  rw [← hw0] at h1 hb ⊢
  have hs : w0.heap.size = w.heap.size + 1 := by rw [hw0]; simp
  have hb2 := below_alloc (w := w0) (.cells #[.slice A n c, .slice F m d] 31)
  refine ⟨hb.trans (hb2.mono hb.size), h1.c.next hb2, ?_, ?_, (hd.below hb).below hb2, (hm.below hb).below hb2⟩ <;> (rw [World.cell?_alloc_at _ _ _ _ hs.symm]; rfl)
end
theorem MemOk.not_low {T : Task} {D : List Bool} {V : List Int} (h : lowX T ≠ 0) : ¬ MemOk T D V ∧ chkM T D V = lowX T := by
  have hN : ¬ LowOk T := fun k => h (lowX_zero.mpr k)
  refine ⟨fun k => hN k.low, ?_⟩
  unfold chkM
  rw [if_neg hN]
theorem MemOk.not_form {T : Task} {D : List Bool} {V : List Int} (hL : LowOk T) (h : ¬ MemOk T D V) : chkM T D V = 80 := by
  unfold chkM
  rw [if_pos hL, if_neg h]
/-- What read hands back. -/
def GotRead (T : Task) (D : List Bool) (V : List Int) (n : Nat) (w : World) (e : Ending) (w' : World) : Prop := Below w.heap.size w w' ∧
  ((MemOk T D V ∧ ∃ A1 c1 F1 d1 R1 e1 g, e = .returned (.tuple #[.agg #[.slice A1 (lowW T).length c1, .slice F1 (lowE T).length d1, .slice R1 (lowP T).length e1], .slice (some ⟨g, 0, none⟩) n n, .int .i64 0]) ∧ IsL w' A1 (lowW T).length c1 F1 (lowE T).length d1 R1 (lowP T).length e1 (lowW T) (lowE T) (lowP T) ∧ w.heap.size ≤ g ∧ RowV g 4 (boolsV (waitL (lowE T) D n)) w') ∨
   (¬ MemOk T D V ∧ e = .returned (.tuple #[.agg #[.slice none 0 0, .slice none 0 0, .slice none 0 0], .slice none 0 0, .int .i64 (chkM T D V)])))
section
variable {s : Sh} {T : Task} {A : Option Addr} {n c : Nat} {F : Option Addr} {m d : Nat} {D : List Bool} {V : List Int}
/-- The boxes, and the variable of the result behind them. -/
structure BxMR (w : World) (s : Sh) (T : Task) (A : Option Addr) (n c : Nat) (F : Option Addr) (m d : Nat) (D : List Bool) (V : List Int) (t : TypeId) (cs : Array Value) (w' : World) : Prop where
  b : BxM w s T A n c F m d D V w'
  r : w'.heap[w.heap.size + 1 + 1]? = some (.cells cs t (0, 0))
theorem BxMR.next {w w1 w2 : World} {t : TypeId} {cs : Array Value} (h : BxMR w s T A n c F m d D V t cs w1) (hb : Below w1.heap.size w1 w2) : BxMR w s T A n c F m d D V t cs w2 :=
  ⟨h.b.next hb, by rw [hb.block _ (Array.getElem?_eq_some_iff.1 h.r).1]; exact h.r⟩
theorem BxMR.lt {w w1 : World} {t : TypeId} {cs : Array Value} (h : BxMR w s T A n c F m d D V t cs w1) : w.heap.size + 1 + 1 < w1.heap.size := (Array.getElem?_eq_some_iff.1 h.r).1
theorem BxMR.start {w : World} (hd : IsD w s T) (hm : IsM w A n c F m d D V) (t : TypeId) (cs : Array Value) :
    BxMR w s T A n c F m d D V t cs (((w.alloc (.cells #[.int .i64 T.period, .int .i64 T.deadline, .slice s.P s.np s.pc, .slice s.E s.ne s.ec, .slice s.F s.nf s.fc, .slice s.R s.nr s.rc] 27)).alloc (.cells #[.slice A n c, .slice F m d] 31)).alloc (.cells cs t)) := by
  refine ⟨(BxM.start hd hm).next (below_alloc _), ?_⟩
  have h := heap_alloc_new ((w.alloc (.cells #[.int .i64 T.period, .int .i64 T.deadline, .slice s.P s.np s.pc, .slice s.E s.ne s.ec, .slice s.F s.nf s.fc, .slice s.R s.nr s.rc] 27)).alloc (.cells #[.slice A n c, .slice F m d] 31)) (.cells cs t)
  simpa using h
set_option maxRecDepth 100000 in
set_option maxHeartbeats 8000000 in
theorem eread_low (w : World) (hD : IsD w s T) (hM : IsM w A n c F m d D V) (hX : lowX T ≠ 0) :
    Calls Tryz.prog 21 #[s.arg T.period T.deadline, .agg #[.slice A n c, .slice F m d]] w (GotRead T D V n w) := by
  have HNO := Lib.hid (MemOk.not_low (D := D) (V := V) hX)
  have HS := Lib.hid (BxMR.start hD hM 60 #[.slice none 0 0, .slice none 0 0, .slice none 0 0])
  obtain ⟨P, np, pc, E, ne, ec, Fu, nf, fc, R, nr, rc⟩ := s
  obtain ⟨nw, hnw⟩ : ∃ n, (lowWv T).length = n := ⟨_, rfl⟩
  obtain ⟨nE, hnE⟩ : ∃ n, (lowEv T).length = n := ⟨_, rfl⟩
  obtain ⟨nP, hnP⟩ : ∃ n, (lowPv T).length = n := ⟨_, rfl⟩
  have CL := Lib.hid (fun W s (h : IsD W s T) => lower_sz hnw hnE hnP h)
  obtain ⟨r, hr⟩ : ∃ r, r = lowX T := ⟨_, rfl⟩
  rw [← hr] at CL hX HNO
  have hb : (r != 0) = true := bne_iff_ne.mpr hX
  obtain ⟨w0, hw0⟩ : ∃ w0, w0 = ((w.alloc (.cells #[.int .i64 T.period, .int .i64 T.deadline, .slice P np pc, .slice E ne ec, .slice Fu nf fc, .slice R nr rc] 27)).alloc (.cells #[.slice A n c, .slice F m d] 31)).alloc (.cells #[.slice none 0 0, .slice none 0 0, .slice none 0 0] 60) := ⟨_, rfl⟩
  simp only at HS
  rw [← hw0] at HS
  have HW := Lib.hid hw0
  clear hD hM hX hr hnw hnE hnP hw0
  go_enter Tryz.func21, Tryz.ntmps21
  go_wp2_with fail
  rw [← HW.out]
  clear HW
  refine (CL.out _ _ HS.out.b.isd).mono ?_
  rintro e w1 ⟨A1, c1, F1, d1, R1, e1, rfl, _, b1⟩
  have S1 := Lib.hid (HS.out.next b1)
  have hr1 := S1.out.r
  have y0 := cell_of_row w1 (w.heap.size + 1 + 1) 0 _ _ _ hr1
  have y1 := cell_of_row w1 (w.heap.size + 1 + 1) 1 _ _ _ hr1
  have y2 := cell_of_row w1 (w.heap.size + 1 + 1) 2 _ _ _ hr1
  simp at y0 y1 y2
  have z0 := frozen_of_row w1 (w.heap.size + 1 + 1) 0 _ _ hr1
  have z1 := frozen_of_row w1 (w.heap.size + 1 + 1) 1 _ _ hr1
  have z2 := frozen_of_row w1 (w.heap.size + 1 + 1) 2 _ _ hr1
  have hlt := S1.out.lt
  clear b1 HS hr1
  go_wp2
  have hend := load_low (row_end3 S1.out.r (.slice none 0 0) (.slice none 0 0) (.slice none 0 0) (.cells #[.slice A1 nw c1, .slice F1 nE d1, .slice R1 nP e1] 60))
  refine bodyPost_ret (v := .tuple #[.agg #[.slice none 0 0, .slice none 0 0, .slice none 0 0], .slice none 0 0, .int .i64 r]) ?_ rfl
    ⟨(S1.out.b.bel.trans (below_set3 (by omega) _ _ _)).alloc (by rw [size_set3]; omega) _, .inr ⟨HNO.out.1, by rw [HNO.out.2]⟩⟩
  rw [results_row_tmp2 (p := 4) (u := 5) (v := 6) rfl _ _ (w.heap.size + 1 + 1) _ rfl hend]
  rfl
/-- The boxes, and the lowered task in a fourth one. -/
structure BxMG (w : World) (s : Sh) (T : Task) (A : Option Addr) (n c : Nat) (F : Option Addr) (m d : Nat) (D : List Bool) (V : List Int) (t : TypeId) (cs : Array Value) (g : Nat) (A1 : Option Addr) (nw c1 : Nat) (F1 : Option Addr) (nE d1 : Nat) (R1 : Option Addr) (nP e1 : Nat) (w' : World) : Prop where
  r : BxMR w s T A n c F m d D V t cs w'
  g0 : w'.cell? ⟨g, 0, none⟩ = some (.slice A1 nw c1)
  g1 : w'.cell? ⟨g, 1, none⟩ = some (.slice F1 nE d1)
  g2 : w'.cell? ⟨g, 2, none⟩ = some (.slice R1 nP e1)
  l : IsL w' A1 nw c1 F1 nE d1 R1 nP e1 (lowW T) (lowE T) (lowP T)
section
variable {t : TypeId} {cs : Array Value} {g : Nat} {A1 : Option Addr} {nw c1 : Nat} {F1 : Option Addr} {nE d1 : Nat} {R1 : Option Addr} {nP e1 : Nat}
theorem BxMG.next {w w1 w2 : World} (h : BxMG w s T A n c F m d D V t cs g A1 nw c1 F1 nE d1 R1 nP e1 w1) (hb : Below w1.heap.size w1 w2) : BxMG w s T A n c F m d D V t cs g A1 nw c1 F1 nE d1 R1 nP e1 w2 :=
  ⟨h.r.next hb, (hb.cell (World.block_lt_of_cell? _ _ h.g0)).trans h.g0, (hb.cell (World.block_lt_of_cell? _ _ h.g1)).trans h.g1, (hb.cell (World.block_lt_of_cell? _ _ h.g2)).trans h.g2, h.l.below hb⟩
theorem BxMG.start {w w1 : World} (h : BxMR w s T A n c F m d D V t cs w1) (hl : IsL w1 A1 nw c1 F1 nE d1 R1 nP e1 (lowW T) (lowE T) (lowP T)) : BxMG w s T A n c F m d D V t cs w1.heap.size A1 nw c1 F1 nE d1 R1 nP e1 (w1.alloc (.cells #[.slice A1 nw c1, .slice F1 nE d1, .slice R1 nP e1] 60)) := by
  refine ⟨h.next (below_alloc _), ?_, ?_, ?_, hl.below (below_alloc _)⟩ <;> (rw [World.cell?_alloc_at _ _ _ _ rfl]; rfl)
end
theorem lower_ok {w : World} (h : LowOk T) (hD : IsD w s T) : Calls Tryz.prog 34 #[s.arg T.period T.deadline] w fun e w' =>
    ∃ A c F d R z, e = .returned (.tuple #[.agg #[.slice A (lowW T).length c, .slice F (lowE T).length d, .slice R (lowP T).length z], .int .i64 0]) ∧ IsL w' A (lowW T).length c F (lowE T).length d R (lowP T).length z (lowW T) (lowE T) (lowP T) ∧ Below w.heap.size w w' := by
  have K := lower_got s T w hD
  obtain ⟨e1, e2, e3⟩ := low_yes h
  rw [e1, e2, e3, lowX_zero.mpr h] at K
  exact K
set_option maxRecDepth 100000 in
set_option maxHeartbeats 8000000 in
theorem eread_ok (w : World) (hD : IsD w s T) (hM : IsM w A n c F m d D V) (hL : LowOk T) :
    Calls Tryz.prog 21 #[s.arg T.period T.deadline, .agg #[.slice A n c, .slice F m d]] w (GotRead T D V n w) := by
  have HNF := Lib.hid (fun h : ¬ MemOk T D V => MemOk.not_form hL h)
  have HYF := Lib.hid (fun h : MemOk T D V => chkM_zero.mpr h)
  have HLOW := Lib.hid hL
  have HTAB := Lib.hid hD.tab
  have HFIT := Lib.hid (low_fits hL)
  have HLEN := Lib.hid (And.intro (lowW_len hL.1) (And.intro (lowP_len hL.1) (low_few hL.1)))
  have HPL := Lib.hid (And.intro hD.t.hp (And.intro hM.hn hM.hm))
  have HS := Lib.hid (BxMR.start hD hM 60 #[.slice none 0 0, .slice none 0 0, .slice none 0 0])
  have CL := Lib.hid (fun W s (h : IsD W s T) => lower_ok hL h)
  have hn4 := hM.ln
  have hm4 := hM.lm
  obtain ⟨P, np, pc, E, ne, ec, Fu, nf, fc, R, nr, rc⟩ := s
  have hnp4 : np ≤ 400 := by have h1 := hD.few.np; have h2 := hD.t.hp; simp only at h2; omega
  obtain ⟨w0, hw0⟩ : ∃ w0, w0 = ((w.alloc (.cells #[.int .i64 T.period, .int .i64 T.deadline, .slice P np pc, .slice E ne ec, .slice Fu nf fc, .slice R nr rc] 27)).alloc (.cells #[.slice A n c, .slice F m d] 31)).alloc (.cells #[.slice none 0 0, .slice none 0 0, .slice none 0 0] 60) := ⟨_, rfl⟩
  simp only at HS HPL
  rw [← hw0] at HS
  have HW := Lib.hid hw0
  obtain ⟨nw, hnw⟩ : ∃ n, (lowW T).length = n := ⟨_, rfl⟩
  obtain ⟨nE, hnE⟩ : ∃ n, (lowE T).length = n := ⟨_, rfl⟩
  obtain ⟨nP, hnP⟩ : ∃ n, (lowP T).length = n := ⟨_, rfl⟩
  unfold GotRead
  rw [hnw, hnE, hnP] at CL HLEN ⊢
  have HNN := Lib.hid (And.intro hnw (And.intro hnE hnP))
  clear hD hM hL hnw hnE hnP hw0
  go_enter Tryz.func21, Tryz.ntmps21
  go_wp2_with fail
  rw [← HW.out]
  clear HW
  refine (CL.out _ _ HS.out.b.isd).mono ?_
  rintro e w1 ⟨A1, c1, F1, d1, R1, e1, rfl, hl, b1⟩
  have S1 := HS.out.next b1
  obtain ⟨w2, hw2⟩ : ∃ w2, w2 = w1.alloc (.cells #[.slice A1 nw c1, .slice F1 nE d1, .slice R1 nP e1] 60) := ⟨_, rfl⟩
  have hS2 := BxMG.start S1 hl
  rw [← hw2] at hS2
  have S2 := Lib.hid hS2
  have HW2 := Lib.hid hw2
  have q0 := S1.b.m0
  have q1 := S1.b.m1
  have q2 := S1.b.cd.2.2.1
  have hlt := S1.lt
  simp only at q2
  have hl0 : w.heap.size < w1.heap.size := by omega
  have hl1 : w.heap.size + 1 < w1.heap.size := by omega
  have hl2 : w.heap.size + 1 + 1 < w1.heap.size := hlt
  have hr1 := S1.r
  have y0 := cell_of_row w1 (w.heap.size + 1 + 1) 0 _ _ _ hr1
  have y1 := cell_of_row w1 (w.heap.size + 1 + 1) 1 _ _ _ hr1
  have y2 := cell_of_row w1 (w.heap.size + 1 + 1) 2 _ _ _ hr1
  simp at y0 y1 y2
  have z0 := frozen_of_row w1 (w.heap.size + 1 + 1) 0 _ _ hr1
  have z1 := frozen_of_row w1 (w.heap.size + 1 + 1) 1 _ _ hr1
  have z2 := frozen_of_row w1 (w.heap.size + 1 + 1) 2 _ _ hr1
  have HR1 := Lib.hid hr1
  have HB1 := Lib.hid S1.b.bel
  clear S1 hl hS2 hw2 b1 HS CL hr1
  by_cases hP : n = nP
  · subst hP
    by_cases hV : m = np
    · subst hV
      have hg1 : ((n : Int) != (n : Int)) = false := by simp
      have hg2 : ((m : Int) != (m : Int)) = false := by simp
      have CW := waits_any A1 nw c1 F1 nE d1 R1 n e1 A n c (lowE T) D w2 HNN.out.2.1 (by have := HLEN.out.2.2.2.1; omega) HPL.out.2.1 (by omega) (by have h := HFIT.out; rw [HNN.out.2.2] at h; exact h) S2.out.l.g.pairs S2.out.r.b.mem.bools
      have HCW := Lib.hid CW
      clear CW
      go_wp2_with fail
      rw [← HW2.out]
      refine HCW.out.mono ?_
      rintro e w3 ⟨g, rfl, hg, hrow, b3⟩
      have hS3 := S2.out.next b3
      have hw12 : w1.heap.size < w2.heap.size := by rw [HW2.out]; simp
      have hgn : g ≠ w.heap.size + 1 + 1 := by omega
      have hgw : w.heap.size ≤ g := by omega
      have HROW := Lib.hid hrow
      have S3 := Lib.hid hS3
      clear q0 q1 q2 y0 y1 y2 z0 z1 z2 b3 HCW hg hrow HR1 HB1 HW2 S2 hl0 hl1 hl2 hlt hw12
      have q0 := hS3.r.b.m0
      have hlt := hS3.r.lt
      have hr3 := hS3.r.r
      have y0 := cell_of_row w3 (w.heap.size + 1 + 1) 0 _ _ _ hr3
      have y1 := cell_of_row w3 (w.heap.size + 1 + 1) 1 _ _ _ hr3
      have y2 := cell_of_row w3 (w.heap.size + 1 + 1) 2 _ _ _ hr3
      simp at y0 y1 y2
      have z0 := frozen_of_row w3 (w.heap.size + 1 + 1) 0 _ _ hr3
      have z1 := frozen_of_row w3 (w.heap.size + 1 + 1) 1 _ _ hr3
      have z2 := frozen_of_row w3 (w.heap.size + 1 + 1) 2 _ _ hr3
      have g0 := hS3.g0
      have g1 := hS3.g1
      have g2 := hS3.g2
      clear hS3 hr3
      go_wp2_with fail
      go_loop [45] (fun i => ∃ j : Nat, j ≤ n ∧ i = .int .i64 j ∧ Hid (∀ k, k < j → D.getD k false = true → waitB (lowE T) D k = false)) (fun i => n - (intOf i).toNat)
      case atStart => exact ⟨0, Nat.zero_le _, rfl, Lib.hid (fun k hk => by omega)⟩
      case round =>
        obtain ⟨j, hj, rfl, HJ⟩ := hrel
        by_cases hlt2 : j < n
        · obtain ⟨bd, od, z, rfl, hbd, hzd, hcd⟩ := S3.out.r.b.mem.bools.at2 (k := j) (by rw [HPL.out.2.1]; exact hlt2)
          have hcw := HROW.out.cell (boolsV_at (l := waitL (lowE T) D n) (j := j) (by rw [waitL_len]; exact hlt2))
          rw [waitL_at hlt2] at hcw
          have hgz : D.getD j false = z := by rw [List.getD_eq_getElem?_getD, hzd]; rfl
          have HGZ := Lib.hid hgz
          obtain ⟨x, hx⟩ : ∃ x, x = waitB (lowE T) D j := ⟨_, rfl⟩
          rw [← hx] at hcw
          have HX := Lib.hid hx
          clear hzd hgz hx hbd
          cases z with
          | false =>
            go_wp2
            go_round
            case rel => exact ⟨j + 1, by omega, by go_num, Lib.hid (fun k hk hd => by
              by_cases e : k = j
              · rw [e, HGZ.out] at hd; cases hd
              · exact HJ.out k (by omega) hd)⟩
            case measure => simp [intOf]; omega
          | true =>
            cases x with
            | false =>
              go_wp2
              go_round
              case rel => exact ⟨j + 1, by omega, by go_num, Lib.hid (fun k hk hd => by
                by_cases e : k = j
                · rw [e]; exact HX.out.symm
                · exact HJ.out k (by omega) hd)⟩
              case measure => simp [intOf]; omega
            | true =>
              have hno : ¬ MemOk T D V := fun h => by
                have := h.done j HGZ.out
                rw [← HX.out] at this
                cases this
              have HNO := Lib.hid hno
              clear hno
              go_wp2
              have hend := load_low (row_set3 S3.out.r.r (.slice none 0 0) (.slice none 0 0) (.slice none 0 0))
              refine bodyPost_ret (v := .tuple #[.agg #[.slice none 0 0, .slice none 0 0, .slice none 0 0], .slice none 0 0, .int .i64 80]) ?_ rfl
                ⟨S3.out.r.b.bel.trans (below_set3 (by omega) _ _ _), .inr ⟨HNO.out, by rw [HNF.out HNO.out]⟩⟩
              rw [results_row_tmp2 (p := 4) (u := 5) (v := 6) rfl _ _ (w.heap.size + 1 + 1) _ rfl hend]
              rfl
        · obtain rfl : j = n := by omega
          have HOK : Hid (MemOk T D V) := Lib.hid ⟨HLOW.out, by rw [HPL.out.2.1, HNN.out.2.2], by rw [HPL.out.2.2, HPL.out.1], fun k hk => by
            by_cases hkj : k < j
            · exact HJ.out k hkj hk
            · rw [List.getD_eq_getElem?_getD, List.getElem?_eq_none (by rw [HPL.out.2.1]; omega)] at hk
              cases hk⟩
          go_wp2
          have hend := load_low (row_set3 S3.out.r.r (.slice A1 nw c1) (.slice F1 nE d1) (.slice R1 j e1))
          have hbel : Below w.heap.size w ((((w3.setCell ⟨w.heap.size + 1 + 1, 0, none⟩ (.slice A1 nw c1)).setCell ⟨w.heap.size + 1 + 1, 1, none⟩ (.slice F1 nE d1)).setCell ⟨w.heap.size + 1 + 1, 2, none⟩ (.slice R1 j e1))) := S3.out.r.b.bel.trans (below_set3 (by omega) _ _ _)
          refine bodyPost_ret (v := .tuple #[.agg #[.slice A1 nw c1, .slice F1 nE d1, .slice R1 j e1], .slice (some ⟨g, 0, none⟩) j j, .int .i64 0]) ?_ rfl
            ⟨hbel, .inl ⟨HOK.out, A1, c1, F1, d1, R1, e1, g, rfl, S3.out.l.far S3.out.r.r (fun n => nil3_ne) (fun k hk => far_set3 hk _ _ _) (by rw [size_set3]; exact Nat.le_refl _) (HTAB.out.via hbel), hgw, by unfold RowV; rw [far_set3 hgn]; exact HROW.out⟩⟩
          rw [results_row_tmp2 (p := 4) (u := 5) (v := 6) rfl _ _ (w.heap.size + 1 + 1) _ rfl hend]
          rfl
    · have hg1 : ((n : Int) != (n : Int)) = false := by simp
      have hg2 : ((m : Int) != (np : Int)) = true := by simp; omega
      have hno : ¬ MemOk T D V := fun h => hV (by rw [← HPL.out.2.2, ← HPL.out.1]; exact h.hV)
      have HNO := Lib.hid hno
      clear hno hV
      go_wp2
      have hend := load_low (row_end3 HR1.out (.slice none 0 0) (.slice none 0 0) (.slice none 0 0) (.cells #[.slice A1 nw c1, .slice F1 nE d1, .slice R1 n e1] 60))
      refine bodyPost_ret (v := .tuple #[.agg #[.slice none 0 0, .slice none 0 0, .slice none 0 0], .slice none 0 0, .int .i64 80]) ?_ rfl
        ⟨(HB1.out.trans (below_set3 (by omega) _ _ _)).alloc (by rw [size_set3]; omega) _, .inr ⟨HNO.out, by rw [HNF.out HNO.out]⟩⟩
      rw [results_row_tmp2 (p := 4) (u := 5) (v := 6) rfl _ _ (w.heap.size + 1 + 1) _ rfl hend]
      rfl
  · have hg1 : ((n : Int) != (nP : Int)) = true := by simp; omega
    have hno : ¬ MemOk T D V := fun h => hP (by rw [← HPL.out.2.1, ← HNN.out.2.2]; exact h.hD)
    have HNO := Lib.hid hno
    clear hno hP
    go_wp2
    have hend := load_low (row_end3 HR1.out (.slice none 0 0) (.slice none 0 0) (.slice none 0 0) (.cells #[.slice A1 nw c1, .slice F1 nE d1, .slice R1 nP e1] 60))
    refine bodyPost_ret (v := .tuple #[.agg #[.slice none 0 0, .slice none 0 0, .slice none 0 0], .slice none 0 0, .int .i64 80]) ?_ rfl
      ⟨(HB1.out.trans (below_set3 (by omega) _ _ _)).alloc (by rw [size_set3]; omega) _, .inr ⟨HNO.out, by rw [HNF.out HNO.out]⟩⟩
    rw [results_row_tmp2 (p := 4) (u := 5) (v := 6) rfl _ _ (w.heap.size + 1 + 1) _ rfl hend]
    rfl
theorem eread_any (w : World) (hD : IsD w s T) (hM : IsM w A n c F m d D V) :
    Calls Tryz.prog 21 #[s.arg T.period T.deadline, .agg #[.slice A n c, .slice F m d]] w (GotRead T D V n w) := by
  by_cases hX : lowX T = 0
  · exact eread_ok w hD hM (lowX_zero.mp hX)
  · exact eread_low w hD hM hX
end
end Go.Proofs.YtkmajhbfmdoamaaGreatDoor
