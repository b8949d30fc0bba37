import Derived.Test.YtfpnkcpjhbkgnaaGreatDoorZM1
import Derived.WalkKit
import Derived.WalkSmall
import Derived.Handy
import Derived.KernelRfl
import Derived.Below
import Derived.BigQuiet
import Derived.Deep.QuietTactic
import Derived.Lib.Hide
set_option linter.unusedSimpArgs false
set_option linter.unusedVariables false
set_option maxHeartbeats 2000000
namespace Go.Proofs.YtfpnkcpjhbkgnaaGreatDoor
open Go.RowKit
def GotGr (W: List Int) (E: List (Int × Int)) (w: World) (e: Ending) (w': World): Prop :=
 ∃ u v,e = .returned (.agg #[u,v]) /\ OwnI w' w.heap.size u W /\ OwnE w' w.heap.size v E /\ Below w.heap.size w w'
structure InvO (w0: World) (A F: Option Addr) (n c m d: Nat) (W: List Int) (E: List (Int × Int)) (s3 s4 s5 s6 s7 s8 s9 s10 s11: Value) (l: Array Bool) (w: World): Prop where
 size: l.size = 10
 bel: Below (w0.heap.size + 1) (w0.alloc (.cells #[.slice A n c,.slice F m d] 25)) w
 cell: ∃ x y,w.heap[w0.heap.size + 1]? = some (.cells #[x,y] 25 (0,0)) /\ (l.getD 9 false = true -> x = s6 /\ y = s10)
 c8: l.getD 8 false = true -> l.getD 3 false = true /\ l.getD 7 false = true
 c9: l.getD 9 false = true -> l.getD 3 false = true /\ l.getD 7 false = true
 l0: l.getD 0 false = true -> ∃ g,s3 = .slice (some ⟨g,0,none⟩) 0 0 /\ w.heap[g]? = some (.cells #[] 3 (0,0)) /\ w0.heap.size + 2 <= g
 l1: l.getD 1 false = true -> s4 = .pointer (some ⟨w0.heap.size,0,none⟩)
 l2: l.getD 2 false = true -> s5 = .slice A n c
 l3: l.getD 3 false = true -> OwnI w (w0.heap.size + 2) s6 W
 l4: l.getD 4 false = true -> ∃ g,s7 = .slice (some ⟨g,0,none⟩) 0 0 /\ w.heap[g]? = some (.cells #[] 181 (0,0)) /\ w0.heap.size + 2 <= g
 l5: l.getD 5 false = true -> s8 = .pointer (some ⟨w0.heap.size,1,none⟩)
 l6: l.getD 6 false = true -> s9 = .slice F m d
 l7: l.getD 7 false = true -> OwnE w (w0.heap.size + 2) s10 E
 l8: l.getD 8 false = true -> s11 = .agg #[s6,s10]
theorem listed_keep {l: Array Bool} {i k: Nat} (h: l.getD k false = true): (l.setIfInBounds i true).getD k false = true:=getD_set_true h
theorem un_false {l: Array Bool} {i: Nat} (h: l.getD i true = false) (k: l.getD i false = true): False:=by
 rcases Nat.lt_or_ge i l.size with h' | h'
 ·simp [h'] at h k; rw [h] at k; cases k
 ·simp [Array.getElem?_eq_none h'] at k
section
variable {w0: World} {A F: Option Addr} {n c m d: Nat} {W: List Int} {E: List (Int × Int)} {s3 s4 s5 s6 s7 s8 s9 s10 s11: Value} {l: Array Bool} {w w': World}
theorem InvO.lt (h: InvO w0 A F n c m d W E s3 s4 s5 s6 s7 s8 s9 s10 s11 l w): w0.heap.size + 2 <= w.heap.size:=by
 obtain ⟨x,y,hc,_⟩:=h.cell
 have:=(Array.getElem?_eq_some_iff.1 hc).1
 omega
theorem InvO.mono (h: InvO w0 A F n c m d W E s3 s4 s5 s6 s7 s8 s9 s10 s11 l w) (hb: Below w.heap.size w w'): InvO w0 A F n c m d W E s3 s4 s5 s6 s7 s8 s9 s10 s11 l w':=by
 have hlt:=h.lt
 refine { h with bel:=h.bel.trans (hb.mono (by omega)),cell:=?_,l0:=?_,l3:=fun hk => (h.l3 hk).below hb,l4:=?_,l7:=fun hk => (h.l7 hk).below hb }
 ·obtain ⟨x,y,hc,hh⟩:=h.cell
  exact ⟨x,y,by rw [hb.block _ (by omega)]; exact hc,hh⟩
 ·intro hk
  obtain ⟨g,e,hg,hl⟩:=h.l0 hk
  exact ⟨g,e,by rw [hb.block _ (Array.getElem?_eq_some_iff.1 hg).1]; exact hg,hl⟩
 ·intro hk
  obtain ⟨g,e,hg,hl⟩:=h.l4 hk
  exact ⟨g,e,by rw [hb.block _ (Array.getElem?_eq_some_iff.1 hg).1]; exact hg,hl⟩
theorem InvO.step0 (h: InvO w0 A F n c m d W E s3 s4 s5 s6 s7 s8 s9 s10 s11 l w) (hun: l.getD 0 true = false) {z: Value} (hz: ∃ g,z = .slice (some ⟨g,0,none⟩) 0 0 /\ w.heap[g]? = some (.cells #[] 3 (0,0)) /\ w0.heap.size + 2 <= g): InvO w0 A F n c m d W E z s4 s5 s6 s7 s8 s9 s10 s11 (l.setIfInBounds 0 true) w where
 size:=by rw [Array.size_setIfInBounds]; exact h.size
 bel:=h.bel
 cell:=by
  obtain ⟨x,y,hc,hh⟩:=h.cell
  exact ⟨x,y,hc,fun hk => hh ((listed_set hk).resolve_left (by decide))⟩
 c8:=fun hk => ⟨listed_keep (h.c8 ((listed_set hk).resolve_left (by decide))).1,listed_keep (h.c8 ((listed_set hk).resolve_left (by decide))).2⟩
 c9:=fun hk => ⟨listed_keep (h.c9 ((listed_set hk).resolve_left (by decide))).1,listed_keep (h.c9 ((listed_set hk).resolve_left (by decide))).2⟩
 l0:=fun _ => hz
 l1:=fun hk => h.l1 ((listed_set hk).resolve_left (by decide))
 l2:=fun hk => h.l2 ((listed_set hk).resolve_left (by decide))
 l3:=fun hk => h.l3 ((listed_set hk).resolve_left (by decide))
 l4:=fun hk => h.l4 ((listed_set hk).resolve_left (by decide))
 l5:=fun hk => h.l5 ((listed_set hk).resolve_left (by decide))
 l6:=fun hk => h.l6 ((listed_set hk).resolve_left (by decide))
 l7:=fun hk => h.l7 ((listed_set hk).resolve_left (by decide))
 l8:=fun hk => h.l8 ((listed_set hk).resolve_left (by decide))
theorem InvO.step1 (h: InvO w0 A F n c m d W E s3 s4 s5 s6 s7 s8 s9 s10 s11 l w) (hun: l.getD 1 true = false) {z: Value} (hz: z = .pointer (some ⟨w0.heap.size,0,none⟩)): InvO w0 A F n c m d W E s3 z s5 s6 s7 s8 s9 s10 s11 (l.setIfInBounds 1 true) w where
 size:=by rw [Array.size_setIfInBounds]; exact h.size
 bel:=h.bel
 cell:=by
  obtain ⟨x,y,hc,hh⟩:=h.cell
  exact ⟨x,y,hc,fun hk => hh ((listed_set hk).resolve_left (by decide))⟩
 c8:=fun hk => ⟨listed_keep (h.c8 ((listed_set hk).resolve_left (by decide))).1,listed_keep (h.c8 ((listed_set hk).resolve_left (by decide))).2⟩
 c9:=fun hk => ⟨listed_keep (h.c9 ((listed_set hk).resolve_left (by decide))).1,listed_keep (h.c9 ((listed_set hk).resolve_left (by decide))).2⟩
 l0:=fun hk => h.l0 ((listed_set hk).resolve_left (by decide))
 l1:=fun _ => hz
 l2:=fun hk => h.l2 ((listed_set hk).resolve_left (by decide))
 l3:=fun hk => h.l3 ((listed_set hk).resolve_left (by decide))
 l4:=fun hk => h.l4 ((listed_set hk).resolve_left (by decide))
 l5:=fun hk => h.l5 ((listed_set hk).resolve_left (by decide))
 l6:=fun hk => h.l6 ((listed_set hk).resolve_left (by decide))
 l7:=fun hk => h.l7 ((listed_set hk).resolve_left (by decide))
 l8:=fun hk => h.l8 ((listed_set hk).resolve_left (by decide))
theorem InvO.step2 (h: InvO w0 A F n c m d W E s3 s4 s5 s6 s7 s8 s9 s10 s11 l w) (hun: l.getD 2 true = false) {z: Value} (hz: z = .slice A n c): InvO w0 A F n c m d W E s3 s4 z s6 s7 s8 s9 s10 s11 (l.setIfInBounds 2 true) w where
 size:=by rw [Array.size_setIfInBounds]; exact h.size
 bel:=h.bel
 cell:=by
  obtain ⟨x,y,hc,hh⟩:=h.cell
  exact ⟨x,y,hc,fun hk => hh ((listed_set hk).resolve_left (by decide))⟩
 c8:=fun hk => ⟨listed_keep (h.c8 ((listed_set hk).resolve_left (by decide))).1,listed_keep (h.c8 ((listed_set hk).resolve_left (by decide))).2⟩
 c9:=fun hk => ⟨listed_keep (h.c9 ((listed_set hk).resolve_left (by decide))).1,listed_keep (h.c9 ((listed_set hk).resolve_left (by decide))).2⟩
 l0:=fun hk => h.l0 ((listed_set hk).resolve_left (by decide))
 l1:=fun hk => h.l1 ((listed_set hk).resolve_left (by decide))
 l2:=fun _ => hz
 l3:=fun hk => h.l3 ((listed_set hk).resolve_left (by decide))
 l4:=fun hk => h.l4 ((listed_set hk).resolve_left (by decide))
 l5:=fun hk => h.l5 ((listed_set hk).resolve_left (by decide))
 l6:=fun hk => h.l6 ((listed_set hk).resolve_left (by decide))
 l7:=fun hk => h.l7 ((listed_set hk).resolve_left (by decide))
 l8:=fun hk => h.l8 ((listed_set hk).resolve_left (by decide))
theorem InvO.step3 (h: InvO w0 A F n c m d W E s3 s4 s5 s6 s7 s8 s9 s10 s11 l w) (hun: l.getD 3 true = false) {z: Value} (hz: OwnI w (w0.heap.size + 2) z W): InvO w0 A F n c m d W E s3 s4 s5 z s7 s8 s9 s10 s11 (l.setIfInBounds 3 true) w where
 size:=by rw [Array.size_setIfInBounds]; exact h.size
 bel:=h.bel
 cell:=by
  obtain ⟨x,y,hc,hh⟩:=h.cell
  exact ⟨x,y,hc,fun hk => (un_false hun (h.c9 ((listed_set hk).resolve_left (by decide))).1).elim⟩
 c8:=fun hk => ⟨listed_keep (h.c8 ((listed_set hk).resolve_left (by decide))).1,listed_keep (h.c8 ((listed_set hk).resolve_left (by decide))).2⟩
 c9:=fun hk => ⟨listed_keep (h.c9 ((listed_set hk).resolve_left (by decide))).1,listed_keep (h.c9 ((listed_set hk).resolve_left (by decide))).2⟩
 l0:=fun hk => h.l0 ((listed_set hk).resolve_left (by decide))
 l1:=fun hk => h.l1 ((listed_set hk).resolve_left (by decide))
 l2:=fun hk => h.l2 ((listed_set hk).resolve_left (by decide))
 l3:=fun _ => hz
 l4:=fun hk => h.l4 ((listed_set hk).resolve_left (by decide))
 l5:=fun hk => h.l5 ((listed_set hk).resolve_left (by decide))
 l6:=fun hk => h.l6 ((listed_set hk).resolve_left (by decide))
 l7:=fun hk => h.l7 ((listed_set hk).resolve_left (by decide))
 l8:=fun hk => (un_false hun (h.c8 ((listed_set hk).resolve_left (by decide))).1).elim
theorem InvO.step4 (h: InvO w0 A F n c m d W E s3 s4 s5 s6 s7 s8 s9 s10 s11 l w) (hun: l.getD 4 true = false) {z: Value} (hz: ∃ g,z = .slice (some ⟨g,0,none⟩) 0 0 /\ w.heap[g]? = some (.cells #[] 181 (0,0)) /\ w0.heap.size + 2 <= g): InvO w0 A F n c m d W E s3 s4 s5 s6 z s8 s9 s10 s11 (l.setIfInBounds 4 true) w where
 size:=by rw [Array.size_setIfInBounds]; exact h.size
 bel:=h.bel
 cell:=by
  obtain ⟨x,y,hc,hh⟩:=h.cell
  exact ⟨x,y,hc,fun hk => hh ((listed_set hk).resolve_left (by decide))⟩
 c8:=fun hk => ⟨listed_keep (h.c8 ((listed_set hk).resolve_left (by decide))).1,listed_keep (h.c8 ((listed_set hk).resolve_left (by decide))).2⟩
 c9:=fun hk => ⟨listed_keep (h.c9 ((listed_set hk).resolve_left (by decide))).1,listed_keep (h.c9 ((listed_set hk).resolve_left (by decide))).2⟩
 l0:=fun hk => h.l0 ((listed_set hk).resolve_left (by decide))
 l1:=fun hk => h.l1 ((listed_set hk).resolve_left (by decide))
 l2:=fun hk => h.l2 ((listed_set hk).resolve_left (by decide))
 l3:=fun hk => h.l3 ((listed_set hk).resolve_left (by decide))
 l4:=fun _ => hz
 l5:=fun hk => h.l5 ((listed_set hk).resolve_left (by decide))
 l6:=fun hk => h.l6 ((listed_set hk).resolve_left (by decide))
 l7:=fun hk => h.l7 ((listed_set hk).resolve_left (by decide))
 l8:=fun hk => h.l8 ((listed_set hk).resolve_left (by decide))
theorem InvO.step5 (h: InvO w0 A F n c m d W E s3 s4 s5 s6 s7 s8 s9 s10 s11 l w) (hun: l.getD 5 true = false) {z: Value} (hz: z = .pointer (some ⟨w0.heap.size,1,none⟩)): InvO w0 A F n c m d W E s3 s4 s5 s6 s7 z s9 s10 s11 (l.setIfInBounds 5 true) w where
 size:=by rw [Array.size_setIfInBounds]; exact h.size
 bel:=h.bel
 cell:=by
  obtain ⟨x,y,hc,hh⟩:=h.cell
  exact ⟨x,y,hc,fun hk => hh ((listed_set hk).resolve_left (by decide))⟩
 c8:=fun hk => ⟨listed_keep (h.c8 ((listed_set hk).resolve_left (by decide))).1,listed_keep (h.c8 ((listed_set hk).resolve_left (by decide))).2⟩
 c9:=fun hk => ⟨listed_keep (h.c9 ((listed_set hk).resolve_left (by decide))).1,listed_keep (h.c9 ((listed_set hk).resolve_left (by decide))).2⟩
 l0:=fun hk => h.l0 ((listed_set hk).resolve_left (by decide))
 l1:=fun hk => h.l1 ((listed_set hk).resolve_left (by decide))
 l2:=fun hk => h.l2 ((listed_set hk).resolve_left (by decide))
 l3:=fun hk => h.l3 ((listed_set hk).resolve_left (by decide))
 l4:=fun hk => h.l4 ((listed_set hk).resolve_left (by decide))
 l5:=fun _ => hz
 l6:=fun hk => h.l6 ((listed_set hk).resolve_left (by decide))
 l7:=fun hk => h.l7 ((listed_set hk).resolve_left (by decide))
 l8:=fun hk => h.l8 ((listed_set hk).resolve_left (by decide))
theorem InvO.step6 (h: InvO w0 A F n c m d W E s3 s4 s5 s6 s7 s8 s9 s10 s11 l w) (hun: l.getD 6 true = false) {z: Value} (hz: z = .slice F m d): InvO w0 A F n c m d W E s3 s4 s5 s6 s7 s8 z s10 s11 (l.setIfInBounds 6 true) w where
 size:=by rw [Array.size_setIfInBounds]; exact h.size
 bel:=h.bel
 cell:=by
  obtain ⟨x,y,hc,hh⟩:=h.cell
  exact ⟨x,y,hc,fun hk => hh ((listed_set hk).resolve_left (by decide))⟩
 c8:=fun hk => ⟨listed_keep (h.c8 ((listed_set hk).resolve_left (by decide))).1,listed_keep (h.c8 ((listed_set hk).resolve_left (by decide))).2⟩
 c9:=fun hk => ⟨listed_keep (h.c9 ((listed_set hk).resolve_left (by decide))).1,listed_keep (h.c9 ((listed_set hk).resolve_left (by decide))).2⟩
 l0:=fun hk => h.l0 ((listed_set hk).resolve_left (by decide))
 l1:=fun hk => h.l1 ((listed_set hk).resolve_left (by decide))
 l2:=fun hk => h.l2 ((listed_set hk).resolve_left (by decide))
 l3:=fun hk => h.l3 ((listed_set hk).resolve_left (by decide))
 l4:=fun hk => h.l4 ((listed_set hk).resolve_left (by decide))
 l5:=fun hk => h.l5 ((listed_set hk).resolve_left (by decide))
 l6:=fun _ => hz
 l7:=fun hk => h.l7 ((listed_set hk).resolve_left (by decide))
 l8:=fun hk => h.l8 ((listed_set hk).resolve_left (by decide))
theorem InvO.step7 (h: InvO w0 A F n c m d W E s3 s4 s5 s6 s7 s8 s9 s10 s11 l w) (hun: l.getD 7 true = false) {z: Value} (hz: OwnE w (w0.heap.size + 2) z E): InvO w0 A F n c m d W E s3 s4 s5 s6 s7 s8 s9 z s11 (l.setIfInBounds 7 true) w where
 size:=by rw [Array.size_setIfInBounds]; exact h.size
 bel:=h.bel
 cell:=by
  obtain ⟨x,y,hc,hh⟩:=h.cell
  exact ⟨x,y,hc,fun hk => (un_false hun (h.c9 ((listed_set hk).resolve_left (by decide))).2).elim⟩
 c8:=fun hk => ⟨listed_keep (h.c8 ((listed_set hk).resolve_left (by decide))).1,listed_keep (h.c8 ((listed_set hk).resolve_left (by decide))).2⟩
 c9:=fun hk => ⟨listed_keep (h.c9 ((listed_set hk).resolve_left (by decide))).1,listed_keep (h.c9 ((listed_set hk).resolve_left (by decide))).2⟩
 l0:=fun hk => h.l0 ((listed_set hk).resolve_left (by decide))
 l1:=fun hk => h.l1 ((listed_set hk).resolve_left (by decide))
 l2:=fun hk => h.l2 ((listed_set hk).resolve_left (by decide))
 l3:=fun hk => h.l3 ((listed_set hk).resolve_left (by decide))
 l4:=fun hk => h.l4 ((listed_set hk).resolve_left (by decide))
 l5:=fun hk => h.l5 ((listed_set hk).resolve_left (by decide))
 l6:=fun hk => h.l6 ((listed_set hk).resolve_left (by decide))
 l7:=fun _ => hz
 l8:=fun hk => (un_false hun (h.c8 ((listed_set hk).resolve_left (by decide))).2).elim
theorem InvO.step8 (h: InvO w0 A F n c m d W E s3 s4 s5 s6 s7 s8 s9 s10 s11 l w) (hun: l.getD 8 true = false) (hp: l.getD 3 false = true /\ l.getD 7 false = true) {z: Value} (hz: z = .agg #[s6,s10]): InvO w0 A F n c m d W E s3 s4 s5 s6 s7 s8 s9 s10 z (l.setIfInBounds 8 true) w where
 size:=by rw [Array.size_setIfInBounds]; exact h.size
 bel:=h.bel
 cell:=by
  obtain ⟨x,y,hc,hh⟩:=h.cell
  exact ⟨x,y,hc,fun hk => hh ((listed_set hk).resolve_left (by decide))⟩
 c8:=fun _ => ⟨listed_keep hp.1,listed_keep hp.2⟩
 c9:=fun hk => ⟨listed_keep (h.c9 ((listed_set hk).resolve_left (by decide))).1,listed_keep (h.c9 ((listed_set hk).resolve_left (by decide))).2⟩
 l0:=fun hk => h.l0 ((listed_set hk).resolve_left (by decide))
 l1:=fun hk => h.l1 ((listed_set hk).resolve_left (by decide))
 l2:=fun hk => h.l2 ((listed_set hk).resolve_left (by decide))
 l3:=fun hk => h.l3 ((listed_set hk).resolve_left (by decide))
 l4:=fun hk => h.l4 ((listed_set hk).resolve_left (by decide))
 l5:=fun hk => h.l5 ((listed_set hk).resolve_left (by decide))
 l6:=fun hk => h.l6 ((listed_set hk).resolve_left (by decide))
 l7:=fun hk => h.l7 ((listed_set hk).resolve_left (by decide))
 l8:=fun _ => hz
theorem own_from {base: Nat} {e: TypeId} {s k: Nat} {v: Value} {xs: List Value} (h: w.ownsRow base e s v k xs) (hk: ∀ g,base <= g -> w'.heap[g]? = w.heap[g]?): w'.ownsRow base e s v k xs:=by
 refine ⟨h.1,?_⟩
 rcases h.2 with hn | ⟨g,cap,cur,rfl,hg,hgg,rest⟩
 ·exact .inl hn
 ·exact .inr ⟨g,cap,cur,rfl,hg,by rw [hk g hg]; exact hgg,rest⟩
theorem InvO.step9 (h: InvO w0 A F n c m d W E s3 s4 s5 s6 s7 s8 s9 s10 s11 l w) (hun: l.getD 9 true = false) (hp: l.getD 3 false = true /\ l.getD 7 false = true) :
  InvO w0 A F n c m d W E s3 s4 s5 s6 s7 s8 s9 s10 s11 (l.setIfInBounds 9 true) ((w.setCell ⟨w0.heap.size + 1,0,none⟩ s6).setCell ⟨w0.heap.size + 1,1,none⟩ s10):=by
 obtain ⟨x,y,hc,_⟩:=h.cell
 have hk: ∀ g,w0.heap.size + 2 <= g -> ((w.setCell ⟨w0.heap.size + 1,0,none⟩ s6).setCell ⟨w0.heap.size + 1,1,none⟩ s10).heap[g]? = w.heap[g]?:=fun g hg => by
  rw [Below.heap_setCell _ _ _ _ (by show g ≠ w0.heap.size + 1; omega),Below.heap_setCell _ _ _ _ (by show g ≠ w0.heap.size + 1; omega)]
 have h1:=heap_setCell_same w (w0.heap.size + 1) 0 _ _ s6 hc
 have h2:=heap_setCell_same _ (w0.heap.size + 1) 1 _ _ s10 h1
 exact {
  size:=by rw [Array.size_setIfInBounds]; exact h.size
  bel:=(h.bel.setCell (Nat.le_refl _) _).setCell (Nat.le_refl _) _
  cell:=⟨s6,s10,h2,fun _ => ⟨rfl,rfl⟩⟩
  c8:=fun hk => ⟨listed_keep hp.1,listed_keep hp.2⟩
  c9:=fun _ => ⟨listed_keep hp.1,listed_keep hp.2⟩
  l0:=fun hk' => by
   obtain ⟨g,e,hg,hl⟩:=h.l0 ((listed_set hk').resolve_left (by decide))
   exact ⟨g,e,by rw [hk g hl]; exact hg,hl⟩
  l1:=fun hk => h.l1 ((listed_set hk).resolve_left (by decide))
  l2:=fun hk => h.l2 ((listed_set hk).resolve_left (by decide))
  l3:=fun _ => own_from (h.l3 hp.1) hk
  l4:=fun hk' => by
   obtain ⟨g,e,hg,hl⟩:=h.l4 ((listed_set hk').resolve_left (by decide))
   exact ⟨g,e,by rw [hk g hl]; exact hg,hl⟩
  l5:=fun hk => h.l5 ((listed_set hk).resolve_left (by decide))
  l6:=fun hk => h.l6 ((listed_set hk).resolve_left (by decide))
  l7:=fun _ => own_from (h.l7 hp.2) hk
  l8:=fun hk => h.l8 ((listed_set hk).resolve_left (by decide)) }
theorem un_start {k: Nat} (h: (Array.replicate 10 false).getD k false = true): False:=by
 rcases Nat.lt_or_ge k 10 with h1 | h1
 ·simp [h1] at h
 ·simp [Array.getElem?_eq_none (show (Array.replicate 10 false).size <= k by simpa using h1)] at h
end
theorem own_any (A F : Option Addr) (n c m d : Nat) (W : List Int) (E : List (Int × Int)) (w : World) (hn : W.length = n) (hl : n <= 1000) (hm : E.length = m) (hk : m <= 1000) (hI : Ints w w.heap.size A W) (hP : Pairs w w.heap.size F E) (hA : A = none -> n = 0 /\ c = 0) (hF : F = none -> m = 0 /\ d = 0) :
    Calls Tryz.prog 12 #[.agg #[.slice A n c, .slice F m d]] w (GotGr W E w) := by
  subst hn
  subst hm
  obtain ⟨i0, hi0, hz0, hz1, hz2⟩ := info_parts int_cell_info
  obtain ⟨j0, hj0, hy0, hy1, hy2⟩ := info_parts edge_cell_info
  go_enter Tryz.func12, Tryz.ntmps12
  go_wp2
  refine wp_region_inv (fun l a w' => ∃ s3 s4 s5 s6 s7 s8 s9 s10 s11 : Value, a = ⟨#[.agg #[.slice A W.length c, .slice F E.length d], .pointer (some ⟨w.heap.size, 0, none⟩), .pointer (some ⟨w.heap.size + 1, 0, none⟩), s3, s4, s5, s6, s7, s8, s9, s10, s11], []⟩ /\
    InvO w A F W.length c E.length d W E s3 s4 s5 s6 s7 s8 s9 s10 s11 l w') (by kernel_rfl) ?h0 ?hstep ?hend
  case h0 =>
    refine ⟨undef, undef, undef, undef, undef, undef, undef, undef, undef, rfl, ?_⟩
    have hc := heap_alloc_new (w.alloc (.cells #[.slice A W.length c, .slice F E.length d] 25)) (.cells #[.slice none 0 0, .slice none 0 0] 25)
    rw [show (w.alloc (.cells #[.slice A W.length c, .slice F E.length d] 25)).heap.size = w.heap.size + 1 by simp] at hc
    exact {
      size := by simp
      bel := ((Below.refl _ _).alloc (by simp) _).drew
      cell := ⟨_, _, hc, fun hk => (un_start hk).elim⟩
      c8 := fun hk => (un_start hk).elim
      c9 := fun hk => (un_start hk).elim
      l0 := fun hk => (un_start hk).elim
      l1 := fun hk => (un_start hk).elim
      l2 := fun hk => (un_start hk).elim
      l3 := fun hk => (un_start hk).elim
      l4 := fun hk => (un_start hk).elim
      l5 := fun hk => (un_start hk).elim
      l6 := fun hk => (un_start hk).elim
      l7 := fun hk => (un_start hk).elim
      l8 := fun hk => (un_start hk).elim }
  case hstep =>
    rintro l a w' i ⟨s3, s4, s5, s6, s7, s8, s9, s10, s11, rfl, HV⟩ hi
    obtain ⟨hun, o, ho, hpre⟩ := mem_ready.1 hi
    clear hi
    have hlt : i < 10 := by
      rcases Nat.lt_or_ge i 10 with h | h
      · exact h
      · rw [Array.getElem?_eq_none (by simpa using h)] at ho; cases ho
    have hsz := HV.lt
    have hbx0 : w'.cell? ⟨w.heap.size, 0, none⟩ = some (.slice A W.length c) := (HV.bel.cell (Nat.lt_succ_self _)).trans (by rw [World.cell?_alloc_at _ _ _ _ rfl]; rfl)
    have hbx1 : w'.cell? ⟨w.heap.size, 1, none⟩ = some (.slice F E.length d) := (HV.bel.cell (Nat.lt_succ_self _)).trans (by rw [World.cell?_alloc_at _ _ _ _ rfl]; rfl)
    match i, hlt with
    | 0, _ =>
      clear ho hpre
      refine wpOp_at rfl rfl ?_
      go_simp
      refine ⟨_, _, _, _, _, _, _, _, _, ⟨rfl, rfl, rfl, rfl, rfl, rfl, rfl, rfl, rfl⟩, (HV.mono (below_alloc _)).step0 hun ⟨w'.heap.size, rfl, heap_alloc_new w' _, hsz⟩⟩
    | 1, _ =>
      clear ho hpre
      refine wpOp_at rfl rfl ?_
      go_simp
      exact ⟨_, _, _, _, _, _, _, _, _, ⟨rfl, rfl, rfl, rfl, rfl, rfl, rfl, rfl, rfl⟩, HV.step1 hun rfl⟩
    | 2, _ =>
      have h4 := HV.l1 (by have := (Option.some.inj ho).symm; subst this; exact hpre ⟨1, .data⟩ (by simp) (by rfl))
      subst h4
      clear ho hpre
      refine wpOp_at rfl rfl ?_
      go_simp
      exact ⟨_, _, _, _, _, _, _, _, _, ⟨rfl, rfl, rfl, rfl, rfl, rfl, rfl, rfl, rfl⟩, HV.step2 hun rfl⟩
    | 3, _ =>
      obtain ⟨g, rfl, hg, hgl⟩ := HV.l0 (by have := (Option.some.inj ho).symm; subst this; exact hpre ⟨0, .data⟩ (by simp) (by rfl))
      have h5 := HV.l2 (by have := (Option.some.inj ho).symm; subst this; exact hpre ⟨2, .data⟩ (by simp) (by rfl))
      subst h5
      clear ho hpre
      obtain ⟨v', w2, hr, how, hb⟩ := fresh_append w' 22 22 3 i0 (.int .i64 0) 1 8 Tryz.underlying22 hi0 hz0 hz1 hz2 rfl (by omega) (w.heap.size + 2) g hg hgl hsz A W.length c (W.map (Value.int .i64)) (by simp) hA
        (fun ad e => by subst e; exact (hI.keep (w' := w') fun q hq => (HV.bel.cell (by omega)).trans (World.cell?_alloc_lt w _ q hq)).cells) (oneCell_ints W) (by unfold maxLen; omega) (by omega)
      refine wpOp_at rfl rfl (wp_append_run rfl rfl rfl hr ?_)
      exact ⟨_, _, _, _, _, _, _, _, _, rfl, (HV.mono hb).step3 hun how⟩
    | 4, _ =>
      clear ho hpre
      refine wpOp_at rfl rfl ?_
      go_simp
      refine ⟨_, _, _, _, _, _, _, _, _, ⟨rfl, rfl, rfl, rfl, rfl, rfl, rfl, rfl, rfl⟩, (HV.mono (below_alloc _)).step4 hun ⟨w'.heap.size, rfl, heap_alloc_new w' _, hsz⟩⟩
    | 5, _ =>
      clear ho hpre
      refine wpOp_at rfl rfl ?_
      go_simp
      exact ⟨_, _, _, _, _, _, _, _, _, ⟨rfl, rfl, rfl, rfl, rfl, rfl, rfl, rfl, rfl⟩, HV.step5 hun rfl⟩
    | 6, _ =>
      have h4 := HV.l5 (by have := (Option.some.inj ho).symm; subst this; exact hpre ⟨5, .data⟩ (by simp) (by rfl))
      subst h4
      clear ho hpre
      refine wpOp_at rfl rfl ?_
      go_simp
      exact ⟨_, _, _, _, _, _, _, _, _, ⟨rfl, rfl, rfl, rfl, rfl, rfl, rfl, rfl, rfl⟩, HV.step6 hun rfl⟩
    | 7, _ =>
      obtain ⟨g, rfl, hg, hgl⟩ := HV.l4 (by have := (Option.some.inj ho).symm; subst this; exact hpre ⟨4, .data⟩ (by simp) (by rfl))
      have h5 := HV.l6 (by have := (Option.some.inj ho).symm; subst this; exact hpre ⟨6, .data⟩ (by simp) (by rfl))
      subst h5
      clear ho hpre
      obtain ⟨v', w2, hr, how, hb⟩ := fresh_append w' 23 23 181 j0 (.agg #[.int .i64 0, .int .i64 0]) 2 16 Tryz.underlying23 hj0 hy0 hy1 hy2 rfl (by omega) (w.heap.size + 2) g hg hgl hsz F E.length d (flatE E) (flatE_length E) hF
        (fun ad e => by subst e; exact (hP.keep (w' := w') fun q hq => (HV.bel.cell (by omega)).trans (World.cell?_alloc_lt w _ q hq)).news) (flatE_one E) (by unfold maxLen; omega) (by omega)
      refine wpOp_at rfl rfl (wp_append_run rfl rfl rfl hr ?_)
      exact ⟨_, _, _, _, _, _, _, _, _, rfl, (HV.mono hb).step7 hun how⟩
    | 8, _ =>
      have q3 : l.getD 3 false = true := by have := (Option.some.inj ho).symm; subst this; exact hpre ⟨3, .data⟩ (by simp) (by rfl)
      have q7 : l.getD 7 false = true := by have := (Option.some.inj ho).symm; subst this; exact hpre ⟨7, .data⟩ (by simp) (by rfl)
      clear ho hpre
      obtain ⟨A1, c1, rfl, _⟩ := (HV.l3 q3).slice
      obtain ⟨A2, c2, rfl, _⟩ := (HV.l7 q7).slice
      refine wpOp_at rfl rfl ?_
      go_simp
      exact ⟨_, _, _, _, _, _, _, _, _, ⟨rfl, rfl, rfl, rfl, rfl, rfl, rfl, rfl, rfl⟩, HV.step8 hun ⟨q3, q7⟩ rfl⟩
    | 9, _ =>
      have q8 := HV.l8 (by have := (Option.some.inj ho).symm; subst this; exact hpre ⟨8, .data⟩ (by simp) (by rfl))
      have q7 : l.getD 7 false = true := by have := (Option.some.inj ho).symm; subst this; exact hpre ⟨7, .phase⟩ (by simp) (by rfl)
      have q3 : l.getD 3 false = true := by have := (Option.some.inj ho).symm; subst this; exact hpre ⟨3, .phase⟩ (by simp) (by rfl)
      clear ho hpre
      subst q8
      obtain ⟨A1, c1, rfl, _⟩ := (HV.l3 q3).slice
      obtain ⟨A2, c2, rfl, _⟩ := (HV.l7 q7).slice
      obtain ⟨x, y, hc, _⟩ := HV.cell
      have hx := cell_of_row w' _ 0 _ _ _ hc
      have hy := cell_of_row w' _ 1 _ _ _ hc
      have hfx := frozen_of_row w' _ 0 _ _ hc
      have hfy := frozen_of_row w' _ 1 _ _ hc
      simp at hx hy
      refine wpOp_at rfl rfl ?_
      go_simp
      exact ⟨_, _, _, _, _, _, _, _, _, ⟨rfl, rfl, rfl, rfl, rfl, rfl, rfl, rfl, rfl⟩, HV.step9 hun ⟨q3, q7⟩⟩
  case hend =>
    rintro l a w' ⟨s3, s4, s5, s6, s7, s8, s9, s10, s11, rfl, HV⟩ hr
    have hall := all_listed HV.size (back_of (by kernel_rfl)) hr
    obtain ⟨x, y, hc, he⟩ := HV.cell
    obtain ⟨rfl, rfl⟩ := he (hall 9 (by decide))
    have hu := HV.l3 (hall 3 (by decide))
    have hv := HV.l7 (hall 7 (by decide))
    obtain ⟨A1, c1, rfl, _⟩ := hu.slice
    obtain ⟨A2, c2, rfl, _⟩ := hv.slice
    have hx := cell_of_row w' _ 0 _ _ _ hc
    have hy := cell_of_row w' _ 1 _ _ _ hc
    simp at hx hy
    have HB := HV.bel
    clear HV hall hr
    go_wp2
    exact bodyPost_ret (by simp [results, Tryz.results12, go_sem, hx, hy]) rfl ⟨_, _, rfl, own_less hu (by omega), own_less hv (by omega), (below_alloc _).trans (HB.mono (by omega))⟩
theorem few_yes (A F: Option Addr) (n c m d: Nat) (w: World) (h: n <= 70) (k: m <= 300) :
  Calls Tryz.prog 9 #[.agg #[.slice A n c,.slice F m d]] w fun e w' => e = .returned (.bool true) /\ Below w.heap.size w w':=by
 have g1: decide (n <= 70) = true:=by simpa using h
 have g2: decide ((n: Int) <= 70) = true:=by rw [decide_eq_true_iff]; omega
 have g3: decide (m <= 300) = true:=by simpa using k
 have g4: decide ((m: Int) <= 300) = true:=by rw [decide_eq_true_iff]; omega
 go_enter Tryz.func9,Tryz.ntmps9
 go_wp2
 go_ret
 exact ⟨rfl,below_alloc _⟩
theorem few_no (A F: Option Addr) (n c m d: Nat) (w: World) (hn: n <= 9223372036854775807) (hm: m <= 9223372036854775807) (h: ¬ (n <= 70 /\ m <= 300)) :
  Calls Tryz.prog 9 #[.agg #[.slice A n c,.slice F m d]] w fun e w' => e = .returned (.bool false) /\ Below w.heap.size w w':=by
 have k: 70 < n \/ (n <= 70 /\ 300 < m):=by omega
 clear h
 rcases k with k | ⟨k,k2⟩
 ·go_enter Tryz.func9,Tryz.ntmps9
  go_wp2
  go_ret
  exact ⟨rfl,below_alloc _⟩
 ·have g3: decide (m <= 300) = false:=by rw [decide_eq_false_iff_not]; omega
  have g4: decide ((m: Int) <= 300) = false:=by rw [decide_eq_false_iff_not]; omega
  go_enter Tryz.func9,Tryz.ntmps9
  go_wp2
  go_ret
  exact ⟨rfl,below_alloc _⟩
end Go.Proofs.YtfpnkcpjhbkgnaaGreatDoor
namespace Go.Proofs.YtfpnkcpjhbkgnaaGreatDoor
def ed (E: List (Int × Int)) (a b: Nat): Prop:=((a: Int),(b: Int)) ∈ E
instance (E: List (Int × Int)) (a b: Nat): Decidable (ed E a b):=by unfold ed; infer_instance
inductive Way (E: List (Int × Int)): Nat -> Nat -> Prop
 | one {a b: Nat}: ed E a b -> Way E a b
 | more {a b c: Nat}: Way E a b -> ed E b c -> Way E a c
def Acyc (E: List (Int × Int)): Prop:=∀ a,¬ Way E a a
def Fits (n: Nat) (E: List (Int × Int)): Prop:=∀ e ∈ E,0 <= e.1 /\ e.1 < n /\ 0 <= e.2 /\ e.2 < n
def Up (E: List (Int × Int)): List Nat -> Prop
 | [] => False
 | [_] => True
 | b :: a :: r => ed E a b /\ Up E (a :: r)
variable {E: List (Int × Int)}
theorem Way.trans {a b c: Nat} (h: Way E a b) (k: Way E b c): Way E a c:=by
 induction k with
 | one e => exact .more h e
 | more _ e ih => exact .more ih e
theorem Way.first {a b : Nat} (h : Way E a b) : ed E a b \/ ∃ c, ed E a c /\ Way E c b := by
  induction h with
  | one e => exact .inl e
  | more _ e ih =>
    rcases ih with h | ⟨c, h1, h2⟩
    · exact .inr ⟨_, h, .one e⟩
    · exact .inr ⟨c, h1, .more h2 e⟩
theorem Way.last {a b: Nat} (h: Way E a b): ∃ c,ed E c b /\ (c = a \/ Way E a c):=by
 cases h with
 | one e => exact ⟨a,e,.inl rfl⟩
 | more h e => exact ⟨_,e,.inr h⟩
theorem Way.mono {E': List (Int × Int)} {a b: Nat} (h: Way E a b) (hE: ∀ a b,ed E a b -> ed E' a b): Way E' a b:=by
 induction h with
 | one e => exact .one (hE _ _ e)
 | more _ e ih => exact .more ih (hE _ _ e)
theorem ed_lt {n a b: Nat} (hF: Fits n E) (h: ed E a b): a < n /\ b < n:=by
 have:=hF _ h
 simp at this
 omega
theorem Way.lt {n a b: Nat} (hF: Fits n E) (h: Way E a b): a < n /\ b < n:=by
 induction h with
 | one e => exact ed_lt hF e
 | more _ e ih => exact ⟨ih.1,(ed_lt hF e).2⟩
theorem Up.tail {b: Nat} {r: List Nat} (h: Up E (b :: r)) (hr: r ≠ []): Up E r:=by
 cases r with
 | nil => exact absurd rfl hr
 | cons a r => exact h.2
theorem Up.way : ∀ {r : List Nat} {b : Nat}, Up E (b :: r) -> ∀ a ∈ r, Way E a b
  | [], _, _, a, ha => by simp at ha
  | c :: r, b, h, a, ha => by
    rcases List.mem_cons.mp ha with rfl | ha
    · exact .one h.1
    · exact .more (Up.way h.2 a ha) h.1
theorem Up.nodup (hA : Acyc E) : ∀ {p : List Nat}, Up E p -> p.Nodup
  | [], h => h.elim
  | [b], _ => by simp
  | b :: a :: r, h => by
    rw [List.nodup_cons]
    refine ⟨fun hm => hA b (Up.way h b hm), Up.nodup hA h.2⟩
theorem Up.lt {n : Nat} (hF : Fits n E) : ∀ {p : List Nat}, Up E p -> (∀ b, p = [b] -> b < n) -> ∀ x ∈ p, x < n
  | [], h, _, _, _ => h.elim
  | [b], _, h1, x, hx => by
    obtain rfl : x = b := by simpa using hx
    exact h1 x rfl
  | b :: a :: r, h, _, x, hx => by
    have hab := ed_lt hF h.1
    rcases List.mem_cons.mp hx with rfl | hx
    · exact hab.2
    · exact Up.lt hF h.2 (fun c hc => by injection hc with hc _; omega) x hx
theorem Way.up {a b : Nat} (h : Way E a b) : ∃ r, Up E (b :: r) /\ r.getLast? = some a := by
  induction h with
  | one e => exact ⟨[_], ⟨e, trivial⟩, rfl⟩
  | more _ e ih =>
    obtain ⟨r, hr, hl⟩ := ih
    refine ⟨_ :: r, ⟨e, hr⟩, ?_⟩
    cases r with
    | nil => simp at hl
    | cons x r => rw [List.getLast?_cons_cons]; exact hl
theorem sum_below (w : Nat -> Nat) : ∀ (n : Nat) (l : List Nat), l.Nodup -> (∀ x ∈ l, x < n) -> (l.map w).sum <= ((List.range n).map w).sum
  | 0, l, _, h => by
    cases l with
    | nil => exact Nat.le_refl _
    | cons x r => exact absurd (h x (by simp)) (by omega)
  | n + 1, l, hn, h => by
    rw [List.range_succ, List.map_append, List.sum_append]
    by_cases hm : n ∈ l
    · have hp := List.perm_cons_erase hm
      have hs := (hp.map w).sum_nat
      rw [hs]
      have ih := sum_below w n (l.erase n) (hn.erase n) (fun x hx => by
        have h1 := (hn.mem_erase_iff).mp hx
        have := h x h1.2
        omega)
      simp only [List.map_cons, List.sum_cons, List.map_nil, List.sum_nil]
      omega
    · have ih := sum_below w n l hn (fun x hx => by
        have := h x hx
        have : x ≠ n := fun e => hm (e ▸ hx)
        omega)
      simp only [List.map_cons, List.sum_cons, List.map_nil, List.sum_nil]
      omega
theorem length_below (n: Nat) (l: List Nat) (hn: l.Nodup) (h: ∀ x ∈ l,x < n): l.length <= n:=by
 have h1:=sum_below (fun _ => 1) n l hn h
 rw [List.map_const',List.map_const',List.sum_replicate_nat,List.sum_replicate_nat,List.length_range] at h1
 omega
def Dn (E: List (Int × Int)): List Nat -> Prop
 | [] => False
 | [_] => True
 | a :: b :: r => ed E a b /\ Dn E (b :: r)
theorem Dn.way : ∀ {r : List Nat} {a : Nat}, Dn E (a :: r) -> ∀ b ∈ r, Way E a b
  | [], _, _, b, hb => by simp at hb
  | c :: r, a, h, b, hb => by
    rcases List.mem_cons.mp hb with rfl | hb
    · exact .one h.1
    · exact (Way.one h.1).trans (Dn.way h.2 b hb)
theorem Dn.nodup (hA : Acyc E) : ∀ {p : List Nat}, Dn E p -> p.Nodup
  | [], h => h.elim
  | [b], _ => by simp
  | a :: b :: r, h => by
    rw [List.nodup_cons]
    exact ⟨fun hm => hA a (Dn.way h a hm), Dn.nodup hA h.2⟩
theorem Dn.lt {n : Nat} (hF : Fits n E) : ∀ {p : List Nat}, Dn E p -> 2 <= p.length -> ∀ x ∈ p, x < n
  | [], h, _, _, _ => h.elim
  | [b], _, h1, x, hx => by simp at h1
  | [a, b], h, _, x, hx => by
    have hab := ed_lt hF h.1
    simp at hx
    rcases hx with rfl | rfl
    · exact hab.1
    · exact hab.2
  | a :: b :: c :: r, h, _, x, hx => by
    have hab := ed_lt hF h.1
    rcases List.mem_cons.mp hx with rfl | hx
    · exact hab.1
    · exact Dn.lt hF h.2 (by simp) x hx
theorem source {n : Nat} (hF : Fits n E) (hA : Acyc E) (S : Nat -> Prop) (u : Nat) (hu : S u) : ∃ v, S v /\ ∀ a, ed E a v -> ¬ S a := by
  apply Classical.byContradiction
  intro hno
  have hall : ∀ v, S v -> ∃ a, ed E a v /\ S a := fun v hv => Classical.byContradiction fun h => hno ⟨v, hv, fun a ha hs => h ⟨a, ha, hs⟩⟩
  have key : ∀ k : Nat, ∃ (a : Nat) (r : List Nat), r.length = k /\ Dn E (a :: r) /\ S a := by
    intro k
    induction k with
    | zero => exact ⟨u, [], rfl, trivial, hu⟩
    | succ k ih =>
      obtain ⟨a, r, hl, hp, ha⟩ := ih
      obtain ⟨b, hb, hs⟩ := hall a ha
      exact ⟨b, a :: r, by simp [hl], ⟨hb, hp⟩, hs⟩
  obtain ⟨a, r, hl, hp, _⟩ := key (n + 1)
  have h1 := length_below n (a :: r) (hp.nodup hA) (hp.lt hF (by simp [hl]))
  simp [hl] at h1
  omega
theorem ed_snoc {a b x y: Nat}: ed (E ++ [((a: Int),(b: Int))]) x y ↔ ed E x y \/ (x = a /\ y = b):=by
 unfold ed
 rw [List.mem_append,List.mem_singleton,Prod.mk.injEq,Int.ofNat_inj,Int.ofNat_inj]
theorem Acyc.mono {E': List (Int × Int)} (hA: Acyc E) (h: ∀ a b,ed E' a b -> ed E a b): Acyc E':=fun a hw => hA a (hw.mono h)
theorem Up.mono {E': List (Int × Int)} (h: ∀ a b,ed E a b -> ed E' a b): ∀ {p: List Nat},Up E p -> Up E' p
 | [],k => k.elim
 | [_],_ => trivial
 | b :: a :: r,k => ⟨h _ _ k.1,Up.mono h k.2⟩
def wsum (W: List Int) (p: List Nat): Int:=(p.map fun x => W.getD x 0).sum
def In (n: Nat) (p: List Nat): Prop:=∀ x ∈ p,x < n
def IsLong (W: List Int) (E: List (Int × Int)) (L: Int): Prop :=
 (∀ p,Up E p -> In W.length p -> wsum W p <= L) /\ ((W = [] /\ L = 0) \/ ∃ p,Up E p /\ In W.length p /\ wsum W p = L)
theorem wsum_le {W : List Int} (hw : ∀ z ∈ W, 0 <= z) {p : List Nat} (hn : p.Nodup) (hi : In W.length p) : wsum W p <= W.sum := by
  have h := sum_below (fun x => (W.getD x 0).toNat) W.length p hn hi
  have e1 : ∀ q : List Nat, (((q.map fun x => (W.getD x 0).toNat).sum : Nat) : Int) = wsum W q := by
    intro q
    induction q with
    | nil => rfl
    | cons x q ih =>
      have h0 : 0 <= W.getD x 0 := by
        rw [List.getD_eq_getElem?_getD]
        cases hx : W[x]? with
        | none => exact Int.le_refl _
        | some z => exact hw z (List.mem_of_getElem? hx)
      unfold wsum at ih ⊢
      simp only [List.map_cons, List.sum_cons]
      rw [<- ih]
      omega
  have e2 : wsum W (List.range W.length) = W.sum := by
    unfold wsum
    congr 1
    apply List.ext_getElem?
    intro i
    rw [List.getElem?_map]
    rcases Nat.lt_or_ge i W.length with h | h
    · rw [List.getElem?_range h]
      simp [List.getElem?_eq_getElem h]
    · rw [List.getElem?_eq_none (by simpa using h), List.getElem?_eq_none h]
      rfl
  have h2 : (((p.map fun x => (W.getD x 0).toNat).sum : Nat) : Int) <= (((List.range W.length).map fun x => (W.getD x 0).toNat).sum : Nat) := by exact_mod_cast h
  rw [e1, e1, e2] at h2
  exact h2
end Go.Proofs.YtfpnkcpjhbkgnaaGreatDoor
