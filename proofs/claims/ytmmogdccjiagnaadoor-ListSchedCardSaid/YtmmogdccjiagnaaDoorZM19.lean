/- trefoilref11.Tick in the seat YtmmogdccjiagnaaDoor: its contract (printed by list/mk_tick.py).
   ints and Own of trefoillaw10 in the seat YtmmogdccjiagnaaDoor: their contracts.
   No statement is proved here. -/
import Derived.Test.YtmmogdccjiagnaaDoorZM15
import Derived.Test.YtmmogdccjiagnaaDoorZM18
import Derived.Test.YtmmogdccjiagnaaDoorZM16
import Derived.BigRegion
import Derived.StillTailTactics
import Derived.Test.YtmmogdccjiagnaaDoorZM7
import Derived.Test.YtmmogdccjiagnaaDoorZM5
set_option linter.unusedSimpArgs false
set_option linter.unusedVariables false
set_option linter.unusedSimpArgs false
namespace Go.Proofs.YtmmogdccjiagnaaDoor
open Go Go.RowKit

/-- The boxes of Tick. -/
structure BxTk (wf : World) (A : Option Addr) (n c : Nat) (F : Option Addr) (m d : Nat) (O L : List Int) (x : World) : Prop where
  bel : Below wf.heap.size wf x
  s : x.heap[wf.heap.size]? = some (.cells #[.slice A n c, .slice F m d] 27 (0, 0))
  r : x.heap[wf.heap.size + 1]? = some (.cells #[.slice none 0 0, .slice none 0 0] 27 (0, 0))
  k0 : IsC wf A n c F m d O L
section
variable {A : Option Addr} {n c : Nat} {F : Option Addr} {m d : Nat} {O L : List Int} {wf x y : World}
theorem BxTk.k (h : BxTk wf A n c F m d O L x) : IsC x A n c F m d O L := h.k0.below h.bel
theorem BxTk.s0 (h : BxTk wf A n c F m d O L x) : x.cell? ⟨wf.heap.size, 0, none⟩ = some (.slice A n c) := by rw [cell_of_row _ _ _ _ _ _ h.s]; rfl
theorem BxTk.s1 (h : BxTk wf A n c F m d O L x) : x.cell? ⟨wf.heap.size, 1, none⟩ = some (.slice F m d) := by rw [cell_of_row _ _ _ _ _ _ h.s]; rfl
theorem BxTk.later (h : BxTk wf A n c F m d O L x) (hb : Below (wf.heap.size + 1 + 1) x y) : BxTk wf A n c F m d O L y :=
  ⟨h.bel.trans (hb.mono (by omega)), by rw [hb.block _ (by omega)]; exact h.s, by rw [hb.block _ (by omega)]; exact h.r, h.k0⟩
theorem BxTk.lt (h : BxTk wf A n c F m d O L x) : wf.heap.size + 1 + 1 ≤ x.heap.size := (Array.getElem?_eq_some_iff.1 h.r).1
theorem BxTk.next (h : BxTk wf A n c F m d O L x) (hb : Below x.heap.size x y) : BxTk wf A n c F m d O L y := h.later (hb.mono h.lt)
/-- In the middle of a tick: the boxes, the crew that becomes of it, the nodes that are done. -/
structure StTk (wf : World) (A : Option Addr) (n c : Nat) (F : Option Addr) (m d : Nat) (O L : List Int) (hb g gO : Nat) (FL : Option Addr) (cO cL : Nat) (Oc Lc : List Int) (v : Value) (Dc : List Int) (x : World) : Prop where
  bx : BxTk wf A n c F m d O L x
  lo : wf.heap.size + 1 + 1 ≤ hb
  st : StC hb g gO FL n m cO cL Oc Lc x
  dn : OwnI x hb v Dc
  ap : v.ownBlock ≠ some gO ∧ ∀ gL, FL = some ⟨gL, 0, none⟩ → 0 < m → v.ownBlock ≠ some gL
section
variable {hb g gO : Nat} {FL : Option Addr} {cO cL : Nat} {Oc Lc : List Int} {v : Value} {Dc : List Int}
theorem StTk.next (h : StTk wf A n c F m d O L hb g gO FL cO cL Oc Lc v Dc x) (b : Below x.heap.size x y) : StTk wf A n c F m d O L hb g gO FL cO cL Oc Lc v Dc y :=
  ⟨h.bx.next b, h.lo, h.st.next b, own_below h.dn b, h.ap⟩
theorem StTk.setO (h : StTk wf A n c F m d O L hb g gO FL cO cL Oc Lc v Dc x) {j : Nat} (hj : j < n) (hm : 0 < m) (z : Int) : StTk wf A n c F m d O L hb g gO FL cO cL (Oc.set j z) Lc v Dc (x.setCell ⟨gO, j, none⟩ (.int .i64 z)) := by
  obtain ⟨_, _, h1, _⟩ := h.st.rO.blockC
  exact ⟨h.bx.later ((Below.refl _ x).setCell (by have := h.lo; show _ ≤ gO; omega) _), h.lo, h.st.setO hj hm z, own_farC h.dn h.ap.1 fun k hk => heap_setCell_other _ _ _ _ hk, h.ap⟩
theorem StTk.setL {gL : Nat} (h : StTk wf A n c F m d O L hb g gO (some ⟨gL, 0, none⟩) cO cL Oc Lc v Dc x) {j : Nat} (hj : j < m) (z : Int) : StTk wf A n c F m d O L hb g gO (some ⟨gL, 0, none⟩) cO cL Oc (Lc.set j z) v Dc (x.setCell ⟨gL, j, none⟩ (.int .i64 z)) := by
  obtain ⟨_, _, h1, _⟩ := h.st.rL.blockC
  exact ⟨h.bx.later ((Below.refl _ x).setCell (by have := h.lo; show _ ≤ gL; omega) _), h.lo, h.st.setL hj z, own_farC h.dn (h.ap.2 gL rfl (by omega)) fun k hk => heap_setCell_other _ _ _ _ hk, h.ap⟩
theorem RXs.ownFar {t u : TypeId} {base base' : Nat} {row : Option Nat} {w w' : World} (h : RXs u base row w w') {s k : Nat} {v : Value} {xs : List Value} (ho : w.ownsRow base' t s v k xs) (hne : v.ownBlock = none ∨ v.ownBlock ≠ row) : w'.ownsRow base' t s v k xs := by
  rcases h with h | ⟨h, _⟩
  · exact own_below ho h
  · exact ho.kept h hne
/-- One more is done. -/
theorem StTk.push {gL : Nat} (h : StTk wf A n c F m d O L hb g gO (some ⟨gL, 0, none⟩) cO cL Oc Lc v Dc x) (hm : 0 < m) {v' : Value} {Dc' : List Int} (ho : OwnI y hb v' Dc') (hr : RXs 3 hb v.ownBlock x y) (hat : ∀ k, v'.ownBlock = some k → v.ownBlock = some k ∨ x.heap.size ≤ k) (hsz : hb ≤ x.heap.size) : StTk wf A n c F m d O L hb g gO (some ⟨gL, 0, none⟩) cO cL Oc Lc v' Dc' y := by
  have b := hr.below hsz
  have hO := (h.st.rO.blockLt gO rfl).2
  have hL := (h.st.rL.blockLt gL rfl).2
  refine ⟨h.bx.later (b.mono h.lo), h.lo, ⟨hr.heap h.st.x (by decide), hr.ownFar h.st.rO (.inr fun e => h.ap.1 e.symm), hr.ownFar h.st.rL (.inr fun e => h.ap.2 gL rfl hm e.symm), h.st.ne⟩, ho, fun e => ?_, fun gq e1 hm e => ?_⟩
  · rcases hat _ e with h1 | h1
    · exact h.ap.1 h1
    · omega
  · obtain rfl : gL = gq := by simpa using e1
    rcases hat _ e with h1 | h1
    · exact h.ap.2 gL rfl hm h1
    · omega
end
end
theorem tick_cell_info : (Tryd.prog.info? 3).map (fun i => (i.zero, i.size, i.bytes)) = some (some (.int .i64 0), 1, 8) := by kernel_rfl

def PhiTk (sb hb : Nat) (A : Option Addr) (n c : Nat) (F : Option Addr) (m d : Nat) (O L : List Int) : Nat → Value → World → Prop
  | 0, v, w => NewR 3 w hb v
  | 1, v, w => v = .pointer (some ⟨sb, 0, none⟩)
  | 2, v, w => v = .slice A n c
  | 3, v, w => OwnI w hb v O
  | 4, v, w => NewR 3 w hb v
  | 5, v, w => v = .pointer (some ⟨sb, 1, none⟩)
  | 6, v, w => v = .slice F m d
  | 7, v, w => OwnI w hb v L
  | 8, v, w => GBc hb n m O L v w
  | 9, v, w => NewR 3 w hb v
  | 10, v, w => GNc hb v w
  | 11, v, w => True
  | 12, v, w => NewR 3 w hb v
  | _, _, _ => True
theorem phiTk_below (sb hb : Nat) (A : Option Addr) (n c : Nat) (F : Option Addr) (m d : Nat) (O L : List Int) : ∀ kq v w w', PhiTk sb hb A n c F m d O L kq v w → Below w.heap.size w w' → PhiTk sb hb A n c F m d O L kq v w' := by
  intro kq v w w' h hb'
  match kq, h with
  | 0, h => exact NewR.below h hb'
  | 1, h => exact h
  | 2, h => exact h
  | 3, h => exact own_below h hb'
  | 4, h => exact NewR.below h hb'
  | 5, h => exact h
  | 6, h => exact h
  | 7, h => exact own_below h hb'
  | 8, h => exact GBc.below h hb'
  | 9, h => exact NewR.below h hb'
  | 10, h => exact GNc.below h hb'
  | 11, h => exact h
  | 12, h => exact NewR.below h hb'
  | kq + 13, h => exact trivial
section
variable {A : Option Addr} {n c : Nat} {F : Option Addr} {m d : Nat} {O L : List Int}
set_option maxRecDepth 100000 in
set_option maxHeartbeats 16000000 in
theorem rtickC_any (wf : World) (hk : IsC wf A n c F m d O L) (hn0 : 0 < n) (hO : ∀ x ∈ O, x = -1 ∨ (0 ≤ x ∧ x < (L.length : Int))) (ho1 : ∀ x, x ≠ -1 → O.count x ≤ 1) (hL : ∀ z ∈ L, 0 ≤ z ∧ z ≤ 1000) :
    Calls Tryd.prog 20 #[.agg #[.slice A n c, .slice F m d]] wf fun e w' => ∃ A1 c1 F1 d1 A2 c2, e = .returned (.tuple #[.agg #[.slice A1 n c1, .slice F1 m d1], .slice A2 (doneT O L).length c2]) ∧ OwnC w' wf.heap.size A1 n c1 F1 m d1 (onT O L) (leftT O L) ∧ Ints w' w'.heap.size A2 (nums (doneT O L)) ∧ Below wf.heap.size wf w' := by
  obtain ⟨w0, hw0⟩ : ∃ w0, w0 = (wf.alloc (.cells #[.slice A n c, .slice F m d] 27)).alloc (.cells #[.slice none 0 0, .slice none 0 0] 27) := ⟨_, rfl⟩
  have B0 : Hid (BxTk wf A n c F m d O L w0) := Lib.hid (by
    have h1 := heap_alloc_new wf (.cells #[.slice A n c, .slice F m d] 27)
    obtain ⟨v1, hv1⟩ : ∃ v1, v1 = wf.alloc (.cells #[.slice A n c, .slice F m d] 27) := ⟨_, rfl⟩
    have s1 : v1.heap.size = wf.heap.size + 1 := by rw [hv1]; simp
    have hb : Below wf.heap.size wf w0 := by rw [hw0]; exact below_alloc2c _ _
    rw [← hv1] at h1 hw0
    have h2 := heap_alloc_new v1 (.cells #[.slice none 0 0, .slice none 0 0] 27)
    rw [s1, ← hw0] at h2
    have hb1 : Below v1.heap.size v1 w0 := by rw [hw0]; exact below_alloc _
    exact ⟨hb, by rw [hb1.block _ (by omega)]; exact h1, h2, hk⟩)
  have HN := Lib.hid hk.hn
  have HM := Lib.hid hk.hm
  have ln := hk.ln
  have lm := hk.lm
  have HW := Lib.hid hw0
  have HOO := Lib.hid hO
  have HO1 := Lib.hid ho1
  have HLL := Lib.hid hL
  clear hk hw0 hO ho1 hL
  go_enter Tryd.func20, Tryd.ntmps20
  go_wp2_with fail
  rw [← HW.out]
  clear HW
  refine wp_region_stored3 11 [8, 9, 10, 11, 12, 13, 14, 15, 16, 17, 4, 1000, 5] [9, 12] w0.heap.size 3 7 (by kernel_rfl) (by kernel_rfl) (by intro d hd; simp at hd ⊢; omega) (fun x => BxTk wf A n c F m d O L x ∧ Below w0.heap.size w0 x) (PhiTk wf.heap.size w0.heap.size A n c F m d O L) (ThC w0 4 n m O L) (fun u v _ => 0 < m → ApartV u v) (by decide) (fun o ho => by have hoo := Option.some.inj ho; subst hoo; exact ⟨⟨3, .chain⟩, by simp, rfl, by rfl⟩) (fun u v w w' h hb => h)
    (fun x y h hb => ⟨h.1.next hb, h.2.trans (hb.mono h.2.size)⟩) (phiTk_below wf.heap.size w0.heap.size A n c F m d O L) (⟨B0.out.next (Below.refl _ _).drew, (Below.refl _ _).drew⟩) ?hstep ?hside ?hstore ?htheta ?hthetab (Nat.le_refl _) ?hend
  case hstep =>
    intro kq o hkp hkS ho a w hI hA hd hps K hK
    obtain ⟨ρ, hρ⟩ : ∃ ρ, a.eval = ρ := ⟨_, rfl⟩
    rw [hρ] at hA hd hps hK
    match kq, hkp, hkS, ho with
    | 0, _, _, ho =>
      have hoo := Option.some.inj ho
      subst hoo
      have hK := fun v w' h b => hK v w' h b (fun e => absurd e (by decide))
      exact fx_make hK hρ (.slice (some ⟨w.heap.size, 0, none⟩) 0 0) (w.alloc (.cells #[] 3)) (by simp [execOp, go_sem]) (newR_here _ w _ hI.2.size) (below_alloc _)
    | 1, _, _, ho =>
      have hoo := Option.some.inj ho
      subst hoo
      have hK := fun v w' h b => hK v w' h b (fun e => absurd e (by decide))
      exact fx_val hK hρ (.pointer (some ⟨wf.heap.size, 0, none⟩)) (by have h := hA.tmp 1 (by decide); simp [execOp, h, go_sem]) rfl
    | 2, _, _, ho =>
      have hoo := Option.some.inj ho
      subst hoo
      have f1 : (ρ (.tmp 9)) = .pointer (some ⟨wf.heap.size, 0, none⟩) := hd ⟨1, .data⟩ (by simp) (by rfl)
      have hK := fun v w' h b => hK v w' h b (fun e => absurd e (by decide))
      exact fx_val hK hρ _ (by have h0 := hI.1.s0; simp [execOp, f1, h0, go_sem]) rfl
    | 3, _, _, ho =>
      have hoo := Option.some.inj ho
      subst hoo
      have f0 : NewR 3 w w0.heap.size (ρ (.tmp 8)) := hd ⟨0, .data⟩ (by simp) (by rfl)
      have f2 : (ρ (.tmp 10)) = .slice A n c := hd ⟨2, .data⟩ (by simp) (by rfl)
      have hK := fun v w' h b => hK v w' h b (fun e => absurd e (by decide))
      obtain ⟨v', w2, hr, how, hbb⟩ := fresh_ints f0 (hI.1.k).hn hn0 (hI.1.k).ln (hI.1.k).on (hI.1.k).hA
      exact fx_make hK hρ v' w2 (by simp [execOp, resolve, invoke, builtin, f2, hr, Result.andThen]) (how.down hI.2.size) hbb
    | 4, _, _, ho =>
      have hoo := Option.some.inj ho
      subst hoo
      have hK := fun v w' h b => hK v w' h b (fun e => absurd e (by decide))
      exact fx_make hK hρ (.slice (some ⟨w.heap.size, 0, none⟩) 0 0) (w.alloc (.cells #[] 3)) (by simp [execOp, go_sem]) (newR_here _ w _ hI.2.size) (below_alloc _)
    | 5, _, _, ho =>
      have hoo := Option.some.inj ho
      subst hoo
      have hK := fun v w' h b => hK v w' h b (fun e => absurd e (by decide))
      exact fx_val hK hρ (.pointer (some ⟨wf.heap.size, 1, none⟩)) (by have h := hA.tmp 1 (by decide); simp [execOp, h, go_sem]) rfl
    | 6, _, _, ho =>
      have hoo := Option.some.inj ho
      subst hoo
      have f5 : (ρ (.tmp 13)) = .pointer (some ⟨wf.heap.size, 1, none⟩) := hd ⟨5, .data⟩ (by simp) (by rfl)
      have hK := fun v w' h b => hK v w' h b (fun e => absurd e (by decide))
      exact fx_val hK hρ _ (by have h0 := hI.1.s1; simp [execOp, f5, h0, go_sem]) rfl
    | 7, _, _, ho =>
      have hoo := Option.some.inj ho
      subst hoo
      have f4 : NewR 3 w w0.heap.size (ρ (.tmp 12)) := hd ⟨4, .data⟩ (by simp) (by rfl)
      have f6 : (ρ (.tmp 14)) = .slice F m d := hd ⟨6, .data⟩ (by simp) (by rfl)
      have f3 := hd ⟨3, .chain⟩ (by simp) (by rfl)
      obtain ⟨v', w2, hr, how, how2, hbb⟩ := fresh_ints0 f4 (hI.1.k).hm (hI.1.k).lm (hI.1.k).left (hI.1.k).hF hI.2.size
      exact fx_pair (Ψ := fun u v _ => 0 < m → ApartV u v) hK hρ v' w2 (by simp [execOp, resolve, invoke, builtin, f6, hr, Result.andThen]) how (show 0 < m → ApartV _ v' from fun hm b e1 e2 => by have h1 := (OwnI.blockLt f3 b e1).2; have h2 := ((how2 hm).blockLt b e2).1; omega) hbb
    | 8, _, _, ho =>
      have hoo := Option.some.inj ho
      subst hoo
      have f3 : OwnI w w0.heap.size (ρ (.tmp 11)) O := hd ⟨3, .data⟩ (by simp) (by rfl)
      have f7 : OwnI w w0.heap.size (ρ (.tmp 15)) L := hd ⟨7, .data⟩ (by simp) (by rfl)
      have hK := fun v w' h b => hK v w' h b (fun e => absurd e (by decide))
      have hap := hps ⟨7, .data⟩ (by simp) (by rfl) rfl
      obtain ⟨A1, a1, g3, _⟩ := OwnI.slice f3
      obtain ⟨A2, a2, g7, _⟩ := OwnI.slice f7
      rw [(hI.1.k).hn] at g3
      rw [(hI.1.k).hm] at g7
      exact fx_val hK hρ (.agg #[.slice A1 n a1, .slice A2 m a2]) (by simp [execOp, g3, g7, go_sem]) ⟨A1, a1, A2, a2, rfl, g3 ▸ f3, g7 ▸ f7, fun hm => g3 ▸ g7 ▸ hap hm⟩
    | 9, _, hkS, _ => exact absurd (by decide) hkS
    | 10, _, _, ho =>
      have hoo := Option.some.inj ho
      subst hoo
      have hK := fun v w' h b => hK v w' h b (fun e => absurd e (by decide))
      exact fx_make hK hρ (.pointer (some ⟨w.heap.size, 0, none⟩)) (w.alloc (.cells #[.slice none 0 0, .slice none 0 0] 27)) (by simp [execOp, go_sem]) ⟨_, rfl, hI.2.size, heap_alloc_new w _⟩ (below_alloc _)
    | 11, hkp, _, _ => exact absurd rfl hkp
    | 12, _, hkS, _ => exact absurd (by decide) hkS
    | kq + 13, _, _, ho => simp at ho
  case hside =>
    intro kq o hkS ho ρ w hbw hA hd
    simp only [List.mem_cons, List.not_mem_nil, or_false] at hkS
    rcases hkS with rfl | rfl
    · have hoo := Option.some.inj ho
      subst hoo
      exact ⟨.slice (some ⟨w.heap.size, 0, none⟩) 0 0, w.alloc (.cells #[] 3), by simp [execOp, go_sem], newR_here _ w _ hbw, below_alloc _⟩
    · have hoo := Option.some.inj ho
      subst hoo
      obtain ⟨w1, h1, h2⟩ := hd ⟨9, .data⟩ (by simp) (by rfl) (by decide)
      obtain rfl := h2 (by decide)
      exact ⟨ρ (.tmp 17), w1, by simp [execOp, go_sem], h1, Below.refl _ _⟩
  case hstore =>
    intro o ho a w hI hA hF hps K hK
    have hoo := Option.some.inj ho
    subst hoo
    exact stC (slot := 4) rfl rfl rfl (hF 10 (by decide) (by decide) (by decide)) (hF 8 (by decide) (by decide) (by decide)) hn0 hI.2 (fun w' h1 h2 h3 => hK w' h1 h2 (fun k hk v hv => by
      simp only [List.mem_cons, List.not_mem_nil, or_false] at hk
      rcases hk with rfl | rfl <;> exact h3 v hv))
  case htheta =>
    intro f g w h hT
    exact ThC.slot hT (h 10 (by decide) (by decide) (by decide))
  case hthetab =>
    intro f w w' hT hb
    exact ThC.below hT hb
  case hend =>
    intro vals w1 hT hF
    obtain ⟨g, gO, FL, cO, cL, f4, hb1, hg1, hst⟩ := hT
    obtain ⟨w2, ⟨gd, f5, hgd, hbd⟩, h2⟩ : ∃ w', NewR 3 w' w0.heap.size (vals 5) ∧ (12 ∈ [9, 12] → w' = w1) := hF 12 (by decide) (by decide)
    obtain rfl := h2 (by decide)
    simp only [fillA, fillL, List.contains_cons, List.contains_nil, Nat.reduceBEq, Bool.or_false, Bool.false_or, Bool.or_true, Bool.true_or, cond_true, cond_false, Nat.zero_add, Nat.reduceAdd]
    rw [f4, f5]
    have B1 : Hid (StTk wf A n c F m d O L w0.heap.size g gO FL cO cL O L (.slice (some ⟨gd, 0, none⟩) 0 0) [] w2) := Lib.hid (by
      have own : OwnI w2 w0.heap.size (.slice (some ⟨gd, 0, none⟩) 0 0) [] := ⟨rfl, .inr ⟨gd, 0, #[], rfl, hbd, hgd, Nat.le_refl _, by simp [maxLen], rfl, rfl⟩⟩
      refine ⟨B0.out.later (hb1.mono B0.out.lt), B0.out.lt, hst, own, fun e => ?_, fun gL eL hm0 e => ?_⟩
      · obtain ⟨cur, h1, _, h3, h4⟩ := hst.rO.blockC
        obtain rfl : gd = gO := by simpa [Value.ownBlock] using e
        rw [hgd] at h1
        injection h1 with h1
        injection h1 with h1 _ _
        rw [← h1] at h4
        simp at h4
        omega
      · subst eL
        obtain ⟨cur, h1, _, h3, h4⟩ := hst.rL.blockC
        obtain rfl : gd = gL := by simpa [Value.ownBlock] using e
        rw [hgd] at h1
        injection h1 with h1
        injection h1 with h1 _ _
        rw [← h1] at h4
        simp at h4
        omega)
    clear hF hst hb1 hg1 f4 f5 hgd hbd B0
    go_wp2
    go_loopw [5, 6] (fun v i wr => ∃ (k kd : Nat) (A2 : Option Addr) (c2 : Nat) (Oc Lc Dc : List Int), k ≤ m ∧ i = .int .i64 k ∧ v = .slice A2 kd c2 ∧ Hid (TickSt O L k 0 Oc Lc Dc) ∧ Hid (StTk wf A n c F m d O L w0.heap.size g gO FL cO cL Oc Lc (.slice A2 kd c2) Dc wr)) (fun _ i _ => m - (intOf i).toNat)
    case atStart => exact ⟨0, 0, _, _, O, L, [], Nat.zero_le _, rfl, rfl, Lib.hid (TickSt.start O L), B1⟩
    case round =>
      obtain ⟨k, kd, A2, c2, Oc, Lc, Dc, hk, rfl, rfl, HT, HB⟩ := hrel
      clear B1
      have s1 := HB.out.bx.s1
      by_cases hlt : k < m
      · go_wp2
        go_loopw [5, 7] (fun v i wi => ∃ (j kd : Nat) (A2 : Option Addr) (c2 : Nat) (Oc Lc Dc : List Int), j ≤ n ∧ i = .int .i64 j ∧ v = .slice A2 kd c2 ∧ Hid (TickSt O L k j Oc Lc Dc) ∧ Hid (StTk wf A n c F m d O L w0.heap.size g gO FL cO cL Oc Lc (.slice A2 kd c2) Dc wi)) (fun _ i _ => n - (intOf i).toNat)
        case atStart => exact ⟨0, kd, A2, c2, Oc, Lc, Dc, Nat.zero_le _, rfl, rfl, HT, HB⟩
        case round =>
          clear HT HB s1
          obtain ⟨j, kd, A2, c2, Oc, Lc, Dc, hj, rfl, rfl, HT, HB⟩ := hrel
          have s0 := HB.out.bx.s0
          have s1 := HB.out.bx.s1
          by_cases hlt2 : j < n
          · obtain ⟨bk, off, x, rfl, hbk, hx, d1⟩ := HB.out.bx.k.on.at_ (k := j) (by rw [HN.out]; exact hlt2)
            have HX := Lib.hid hx
            clear hbk hx
            by_cases hxk : x = (k : Int)
            · subst hxk
              obtain ⟨b2, o2, y, rfl, hb2, hy, d2⟩ := HB.out.bx.k.left.at_ (k := k) (by rw [HM.out]; exact hlt)
              have HY : Hid (leftC L (k : Int) = y) := Lib.hid (by rw [leftC_nat, List.getD_eq_getElem?_getD, hy]; rfl)
              obtain ⟨hy0, hy1⟩ := HLL.out y (List.mem_of_getElem? hy)
              have HH := Lib.hid (HT.out.hit HX.out (by rw [HM.out]; exact hlt) (HO1.out _ (by omega)))
              have x0 := HB.out.st.x0
              have x1 := HB.out.st.x1
              obtain ⟨gL, rfl, hneL⟩ := HB.out.st.ne (by omega)
              obtain ⟨b3, o3, z, e3, hb3, hz, d3⟩ := HB.out.st.rL.ints.at_ (k := k) (by have := HB.out.st.rL.len_eq; omega)
              obtain ⟨h31, h32⟩ : gL = b3 ∧ 0 = o3 := by
                injection e3 with e3
                injection e3 with e31 e32
                exact ⟨e31, e32⟩
              rw [← h31, ← h32, Nat.zero_add] at d3
              have hof := HB.out.st.rL.frozenC k
              clear e3 hb3 hz h31 h32 hb2 hy
              have hsub : IntKind.i64.wrap (y - 1) = y - 1 := IntWalk.i64_in _ (by omega)
              go_wp2
              go_region
              obtain ⟨w3, hw3⟩ : ∃ w3, w3 = (wr.setCell ⟨gL, k, none⟩ (.int .i64 (y - 1))).drew := ⟨_, rfl⟩
              have hb3 := (HB.out.setL hlt (y - 1)).next (Below.refl _ _).drew
              rw [← hw3] at hb3 ⊢
              have HB3 := Lib.hid hb3
              clear hb3 hw3 HB s0 s1 x0 x1 d1 d2 d3 hof hsub
              have x0 := HB3.out.st.x0
              have x1 := HB3.out.st.x1
              obtain ⟨b3, o3, z, e3, hb3, hz, d3⟩ := HB3.out.st.rL.ints.at_ (k := k) (by have := HB3.out.st.rL.len_eq; omega)
              obtain ⟨h31, h32⟩ : gL = b3 ∧ 0 = o3 := by
                injection e3 with e3
                injection e3 with e31 e32
                exact ⟨e31, e32⟩
              obtain rfl : y - 1 = z := by
                have h1 := getD_set_self (l := Lc) (i := k) (by have := HB3.out.st.rL.len_eq; rw [List.length_set] at this; omega) (y - 1) 0
                rw [List.getD_eq_getElem?_getD, hz] at h1
                exact h1.symm
              rw [← h31, ← h32, Nat.zero_add] at d3
              clear e3 hb3 hz h31 h32
              by_cases hy2 : y = 1
              · have HT2 := Lib.hid (HH.out.1 (HY.out.trans hy2))
                rw [HY.out] at HT2
                have hyb : ((y - 1) == 0) = true := by simp [hy2]
                obtain ⟨b4, o4, x4, e4, hb4, hx4, d4⟩ := HB3.out.st.rO.ints.at_ (k := j) (by have := HB3.out.st.rO.len_eq; omega)
                obtain ⟨h41, h42⟩ : gO = b4 ∧ 0 = o4 := by
                  injection e4 with e4
                  injection e4 with e41 e42
                  exact ⟨e41, e42⟩
                rw [← h41, ← h42, Nat.zero_add] at d4
                have hof := HB3.out.st.rO.frozenC j
                clear e4 hb4 hx4 h41 h42
                obtain rfl : Dc.length = kd := HB3.out.dn.len_eq
                have hkd : Dc.length ≤ 1000 := by
                  rw [HT.out.done, List.length_append, nums_length]
                  have h1 := List.length_filter_le (fun x : Nat => decide ((x : Int) ∈ O ∧ leftC L (x : Int) = 1)) (List.range k)
                  rw [List.length_range] at h1
                  split
                  · rw [List.length_singleton]; omega
                  · rw [List.length_nil]; omega
                have HB4 := Lib.hid (HB3.out.setO hlt2 (by omega) (-1))
                have hsz : w0.heap.size ≤ (w3.setCell ⟨gO, j, none⟩ (.int .i64 (-1))).heap.size := by
                  have := (HB3.out.st.rO.blockLt gO rfl)
                  simp [World.setCell]
                  omega
                clear HT HH HB3
                go_wp2_with (at_builtin; refine wpList_pushXs rfl _ _ 3 22 1 8 (.int .i64 0) Tryd.underlying22 tick_cell_info rfl (by omega) (by omega) rfl rfl (w3.setCell ⟨gO, j, none⟩ (.int .i64 (-1))) w0.heap.size Dc.length _ (Dc.map (Value.int .i64)) [.int .i64 (k : Int)] HB4.out.dn rfl (by simp [Value.oneCell']) hkd hsz (by first | rfl | simp [Act.eval]) (by first | rfl | simp [Act.eval]) ?_; intro F5 d5 w5 ho5 hr5 hat5; (have HO5 := Lib.hid ho5); (have HR5 := Lib.hid hr5); (have HA5 := Lib.hid hat5); clear ho5 hr5 hat5)
                go_roundw
                case rel => exact ⟨j + 1, Dc.length + 1, F5, d5, _, _, Dc ++ [(k : Int)], by omega, by go_num, rfl, HT2, Lib.hid (HB4.out.push (by omega) (by unfold OwnI; rw [List.length_append, List.map_append]; exact HO5.out) HR5.out HA5.out hsz)⟩
                case measure => simp [intOf]; omega
              · have HT2 := Lib.hid (HH.out.2 (fun e => hy2 (HY.out.symm.trans e)))
                rw [HY.out] at HT2
                have hyb : ((y - 1) == 0) = false := beq_eq_false_iff_ne.mpr (by omega)
                clear hy2 HH
                go_wp2
                go_roundw
                case rel => exact ⟨j + 1, kd, A2, c2, Oc, _, Dc, by omega, by go_num, rfl, HT2, HB3⟩
                case measure => simp [intOf]; omega
            · have hxa : (x != (k : Int)) = true := bne_iff_ne.mpr hxk
              have HT2 := Lib.hid (HT.out.skip HX.out hxk)
              clear hxk HT
              go_wp2
              go_roundw
              case rel => exact ⟨j + 1, kd, A2, c2, Oc, Lc, Dc, by omega, by go_num, rfl, HT2, HB⟩
              case measure => simp [intOf]; omega
          · obtain rfl : n = j := by omega
            have HT2 := Lib.hid ((show TickSt O L k O.length Oc Lc Dc by rw [HN.out]; exact HT.out).up)
            clear HT
            go_wp2
            go_roundw
            case rel => exact ⟨k + 1, kd, A2, c2, Oc, Lc, Dc, by omega, by go_num, rfl, HT2, HB⟩
            case measure => simp [intOf]; omega
      · obtain rfl : m = k := by omega
        obtain ⟨hoc, hlc, hdc⟩ := (show TickSt O L L.length 0 Oc Lc Dc by rw [HM.out]; exact HT.out).end_ HOO.out
        have x0 := HB.out.st.x0
        have x1 := HB.out.st.x1
        have r0 := cell_of_row wr (wf.heap.size + 1) 0 _ _ _ HB.out.bx.r
        have r1 := cell_of_row wr (wf.heap.size + 1) 1 _ _ _ HB.out.bx.r
        have z0 := frozen_of_row wr (wf.heap.size + 1) 0 _ _ HB.out.bx.r
        have z1 := frozen_of_row wr (wf.heap.size + 1) 1 _ _ HB.out.bx.r
        simp at r0 r1
        have hkd : kd = (doneT O L).length := by rw [← HB.out.dn.len_eq, hdc, nums_length]
        have HE : Hid (OwnC ((wr.setCell ⟨wf.heap.size + 1, 0, none⟩ (.slice (some ⟨gO, 0, none⟩) n cO)).setCell ⟨wf.heap.size + 1, 1, none⟩ (.slice FL m cL)) wf.heap.size (some ⟨gO, 0, none⟩) n cO FL m cL (onT O L) (leftT O L) ∧
            Below wf.heap.size wf ((wr.setCell ⟨wf.heap.size + 1, 0, none⟩ (.slice (some ⟨gO, 0, none⟩) n cO)).setCell ⟨wf.heap.size + 1, 1, none⟩ (.slice FL m cL)) ∧
            ((wr.setCell ⟨wf.heap.size + 1, 0, none⟩ (.slice (some ⟨gO, 0, none⟩) n cO)).setCell ⟨wf.heap.size + 1, 1, none⟩ (.slice FL m cL)).heap[wf.heap.size + 1]? = some (.cells #[.slice (some ⟨gO, 0, none⟩) n cO, .slice FL m cL] 27 (0, 0)) ∧
            Ints ((wr.setCell ⟨wf.heap.size + 1, 0, none⟩ (.slice (some ⟨gO, 0, none⟩) n cO)).setCell ⟨wf.heap.size + 1, 1, none⟩ (.slice FL m cL)) ((wr.setCell ⟨wf.heap.size + 1, 0, none⟩ (.slice (some ⟨gO, 0, none⟩) n cO)).setCell ⟨wf.heap.size + 1, 1, none⟩ (.slice FL m cL)).heap.size A2 (nums (doneT O L))) := Lib.hid (by
          have hoth := other_setC wr (wf.heap.size + 1) (.slice (some ⟨gO, 0, none⟩) n cO) (.slice FL m cL)
          have o1 := other_ownC HB.out.st.rO HB.out.bx.r (by decide) hoth
          have o2 := other_ownC HB.out.st.rL HB.out.bx.r (by decide) hoth
          have o3 := other_ownC HB.out.dn HB.out.bx.r (by decide) hoth
          rw [← hoc, ← hlc, ← hdc]
          have hlo := HB.out.lo
          exact ⟨⟨OwnI.down o1 (by omega), OwnI.down o2 (by omega), HB.out.st.rO.len_eq, HB.out.st.rL.len_eq, ln, lm⟩, HB.out.bx.bel.trans (below_setC (by omega) _ _), row_setC HB.out.bx.r _ _, OwnI.ints o3⟩)
        subst hkd
        clear hoc hlc hdc
        go_wp2
        refine bodyPost_ret (v := .tuple #[.agg #[.slice (some ⟨gO, 0, none⟩) n cO, .slice FL m cL], .slice A2 (doneT O L).length c2]) ?_ rfl ⟨_, _, _, _, _, _, rfl, HE.out.1, HE.out.2.2.2, HE.out.2.1⟩
        rw [results_cell_tmp rfl]
        simp [asAddr, run_loadVar_row _ (wf.heap.size + 1) _ _ _ _ _ HE.out.2.2.1 Tryd.underlying27 rfl (by kernel_rfl), Result.andThen]
end
end Go.Proofs.YtmmogdccjiagnaaDoor
set_option linter.unusedVariables false
namespace Go.Proofs.YtmmogdccjiagnaaDoor
open Go.RowKit

theorem OwnI.capLe {w : World} {base : Nat} {A : Option Addr} {n c : Nat} {zs : List Int} (h : OwnI w base (.slice A n c) zs) : n ≤ c := by
  rcases h.2 with ⟨hv, hn⟩ | ⟨g, cap, cur, hv, hg, hgg, hle, _⟩
  · injection hv with _ h1 h2
    omega
  · injection hv with _ h1 h2
    omega
theorem OwnI.noneNil {w : World} {base : Nat} {A : Option Addr} {n c : Nat} {zs : List Int} (h : OwnI w base (.slice A n c) zs) : A = none → n = 0 ∧ c = 0 := by
  rintro rfl
  rcases h.2 with ⟨hv, hn⟩ | ⟨g, cap, cur, hv, _⟩
  · injection hv with _ h1 h2
    exact ⟨h1, h2⟩
  · injection hv with h1
    cases h1
/-- A list of lists of the call's own (from base on). -/
def OwnTr (w : World) (base : Nat) (v : Value) (t : List (List Int)) : Prop :=
  ∃ vs : List Value, w.ownsRow base 22 1 v t.length vs ∧ ∀ (k : Nat) (r : List Int), t[k]? = some r → ∃ A1 c1, vs[k]? = some (Value.slice A1 r.length c1) ∧ OwnI w base (Value.slice A1 r.length c1) r
theorem OwnTr.below {w w' : World} {base : Nat} {v : Value} {t : List (List Int)} (h : OwnTr w base v t) (hb : Below w.heap.size w w') : OwnTr w' base v t := by
  obtain ⟨vs, h1, h2⟩ := h
  exact ⟨vs, own_below h1 hb, fun k r hr => by
    obtain ⟨A1, c1, e1, e2⟩ := h2 k r hr
    exact ⟨A1, c1, e1, e2.below hb⟩⟩
theorem OwnTr.new (w : World) (base : Nat) (hb : base ≤ w.heap.size) : OwnTr (w.alloc (.cells #[] 22)) base (.slice (some ⟨w.heap.size, 0, none⟩) 0 0) [] :=
  ⟨[], ⟨rfl, .inr ⟨w.heap.size, 0, #[], rfl, hb, heap_alloc_new w _, Nat.le_refl _, by simp [maxLen], rfl, rfl⟩⟩, fun k r hr => by simp at hr⟩
theorem OwnTr.open {w : World} {base : Nat} {v : Value} {t : List (List Int)} (h : OwnTr w base v t) : ∃ A c, v = .slice A t.length c ∧ Trc w w.heap.size A t ∧ (A = none → t.length = 0 ∧ c = 0) ∧ t.length ≤ c := by
  obtain ⟨vs, h1, h2⟩ := h
  rcases h1.2 with ⟨rfl, hn⟩ | ⟨g, cap, cur, rfl, hg, hgg, hle, rest⟩
  · refine ⟨none, 0, by rw [hn], fun hp => by omega, fun _ => ⟨hn, rfl⟩, by omega⟩
  · refine ⟨some ⟨g, 0, none⟩, cap, rfl, fun _ => ⟨g, 0, rfl, (Array.getElem?_eq_some_iff.1 hgg).1, fun k r hr => ?_⟩, fun e => (by cases e), hle⟩
    obtain ⟨A1, c1, e1, e2⟩ := h2 k r hr
    refine ⟨A1, c1, ?_, e2.ints, e2.noneNil, e2.capLe⟩
    have hc := h1.cells (g := g) rfl k _ e1
    rw [addr_add] at hc
    exact hc
theorem rows_cell_infoS : (Tryd.prog.info? 22).map (fun i => (i.zero, i.size, i.bytes)) = some (some (.slice none 0 0), 1, 24) := by kernel_rfl
section
variable {N : Option Addr} {nn nc : Nat} {need : List Int} {T : Option Addr} {tn tc : Nat} {t : List (List Int)}
end
end Go.Proofs.YtmmogdccjiagnaaDoor
