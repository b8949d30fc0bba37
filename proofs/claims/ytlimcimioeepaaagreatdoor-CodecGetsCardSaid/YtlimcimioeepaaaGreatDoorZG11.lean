/- The closures of codec.task that read a place, a part, an edge, a future, in the seat YtlimcimioeepaaaGreatDoor (printed by codec/mk_clo.py).
   The closure of codec.task that reads a barrier, in the seat YtlimcimioeepaaaGreatDoor (printed by codec/mk_bar.py).
   No statement is proved here. -/
import Derived.Test.YtlimcimioeepaaaGreatDoorZG10
import Derived.Test.YtlimcimioeepaaaGreatDoorZG4
import Derived.Laws.ResultCell
set_option linter.unusedVariables false
namespace Go.Proofs.YtlimcimioeepaaaGreatDoor
open Go.RowKit

/-- The method value that reads the next number. -/
@[reducible] def numF (g : Nat) : Value := .func (.func 62) #[.pointer (some ⟨g, 0, none⟩)] #[]
/-- What closures capture: where it lies. -/
structure Env (g nb : Nat) (w : World) : Prop where
  num : w.heap[nb]? = some (.cells #[numF g] 107 (0, 0))
  ne : nb ≠ g
theorem Env.cell {g nb : Nat} {w : World} (h : Env g nb w) : w.cell? ⟨nb, 0, none⟩ = some (numF g) := by simp [World.cell?, h.num]
theorem Env.lt {g nb : Nat} {w : World} (h : Env g nb w) : nb < w.heap.size := (Array.getElem?_eq_some_iff.mp h.num).1
theorem Env.grown {g nb : Nat} {w w' : World} (h : Env g nb w) (hg : w.grownBy w' (some g)) : Env g nb w' := ⟨by rw [hg.block nb h.lt (fun e => h.ne (Option.some.inj e))]; exact h.num, h.ne⟩
theorem numS_le (b : List UInt8) (k : Nat) (s : Nat × Bool) (h : s.1 ≤ b.length) : (numS b k s).2.1 ≤ b.length := by
  unfold numS
  split
  · exact h
  · split
    · rename_i h2
      exact h2
    · exact h
theorem eg_number : ∀ args w, (callFunc 62 args).run Tryz.prog w = .ok (.enter 62 args) w := eg_of Tryz.func62 (by kernel_rfl) rfl
/-- The number read through the method value. -/
theorem clo_num {o : Oper} {a : Act} {x : World} {K : Act → World → Prop} {Q : Exit → Act → World → Prop} (c : Nat) (tys : Array TypeId) (k : Nat) (P : Int) (hW : Wid k P) {g : Nat} {b : List UInt8} {s : Nat × Bool} (hl : b.length ≤ 1000)
    (ho : o.op = .call { callee := .value (.tmp c), args := #[.const (.int .i64 (k : Int))], argTypes := tys }) (hc : a.eval (.tmp c) = numF g) (hs : s.1 ≤ b.length) (hR : Rd g b s x)
    (hK : ∀ w', Rd g b (numS b k s).2 w' → x.grownBy w' (some g) → K (a.put o.dst (.int .i64 (numS b k s).1)) w') : o.wp Tryz.prog a x K Q := by
  refine cx_clo rfl c _ tys 62 #[.pointer (some ⟨g, 0, none⟩)] #[] #[.int .i64 (k : Int)] ho hc (by simp [Act.eval]) eg_number ?_
  refine (number_any g b s k P x hW hl (by omega) hR).mono ?_
  rintro e w' ⟨rfl, R, G⟩
  exact ⟨_, rfl, hK w' R G⟩
theorem noAgg_num : ∀ w, (isAgg 107).run Tryz.prog w = .ok false w := fun w => by kernel_rfl

theorem place_any (g nb : Nat) (b : List UInt8) (s : Nat × Bool) (w : World) (hl : b.length ≤ 1000) (hs : s.1 ≤ b.length) (hE : Env g nb w) (hR : Rd g b s w) :
    Calls Tryz.prog 96 #[.pointer (some ⟨nb, 0, none⟩)] w (Reads g b (.int .i64 (numS b 1 s).1) (numS b 1 s).2 w) := by
  have C := Lib.hid (number_any g b s 1 256 w (.inl ⟨rfl, rfl⟩) hl (by omega) hR)
  have c := hE.cell
  have eg := eg_number
  clear hE hR hs
  go_enter Tryz.func96, Tryz.ntmps96
  go_wp2_with (go_at_fn 62; refine C.out.mono ?_; rintro e w' ⟨rfl, R, G⟩; have HR := Lib.hid R; have HG := Lib.hid G; clear R G)
  go_ret
  exact ⟨rfl, HR.out, HG.out⟩

def Vpart (g : Nat) (b : List UInt8) (s : Nat × Bool) : Nat → Value
  | 0 => numF g
  | 1 => (.int .i64 (numS b 1 s).1 : Value)
  | 2 => numF g
  | 3 => (.int .i64 (numS b 4 (numS b 1 s).2).1 : Value)
  | 4 => numF g
  | 5 => (.int .i64 (numS b 2 (numS b 4 (numS b 1 s).2).2).1 : Value)
  | 6 => (.agg #[.int .i64 (numS b 1 s).1, .int .i64 (numS b 4 (numS b 1 s).2).1, .int .i64 (numS b 2 (numS b 4 (numS b 1 s).2).2).1] : Value)
  | _ => undef
def Spart (b : List UInt8) (s : Nat × Bool) : Nat → Nat × Bool
  | 0 => s
  | 1 => (numS b 1 s).2
  | 2 => (numS b 4 (numS b 1 s).2).2
  | _ => (numS b 2 (numS b 4 (numS b 1 s).2).2).2
theorem Spart_le (b : List UInt8) (s : Nat × Bool) (h : s.1 ≤ b.length) : ∀ i, (Spart b s i).1 ≤ b.length
  | 0 => h
  | 1 => numS_le b _ _ (h)
  | 2 => numS_le b _ _ (numS_le b _ _ (h))
  | _ + 3 => numS_le b _ _ (numS_le b _ _ (numS_le b _ _ (h)))
set_option maxRecDepth 100000 in
set_option maxHeartbeats 4000000 in
theorem part_any (g nb : Nat) (b : List UInt8) (s : Nat × Bool) (w : World) (hl : b.length ≤ 1000) (hs : s.1 ≤ b.length) (hE : Env g nb w) (hR : Rd g b s w) :
    Calls Tryz.prog 98 #[.pointer (some ⟨nb, 0, none⟩)] w (Reads g b (.agg #[.int .i64 (numS b 1 s).1, .int .i64 (numS b 4 (numS b 1 s).2).1, .int .i64 (numS b 2 (numS b 4 (numS b 1 s).2).2).1] : Value) (partS b s).2 w) := by
  obtain ⟨wA, hwA⟩ : ∃ wA, wA = w.alloc (.cells #[.int .i64 0, .int .i64 0, .int .i64 0] 52) := ⟨_, rfl⟩
  have hbA : Below w.heap.size w wA := by rw [hwA]; exact below_alloc _
  have hgA : w.grownBy wA (some g) := Below.grows hbA _
  have hqA : wA.heap[w.heap.size]? = some (.cells #[.int .i64 0, .int .i64 0, .int .i64 0] 52 (0, 0)) := by rw [hwA]; exact heap_alloc_new w _
  have hEA : Env g nb wA := hE.grown hgA
  have hRA : Rd g b s wA := hR.below hbA hR.lt
  have hgl := hR.lt
  have HS := Lib.hid (Spart_le b s hs)
  have hz : ∀ w, (sizeOf 52).run Tryz.prog w = .ok 3 w := fun w => by kernel_rfl
  clear hE hR hs hbA
  go_enter Tryz.func98, Tryz.ntmps98
  go_wp2_with fail
  rw [← hwA]
  refine wp_region_chain 7 [2, 3, 4, 5, 6, 7, 8] [1, 3, 5] (by kernel_rfl) (by kernel_rfl) (by intro d hd; simp at hd ⊢; omega) (fun j x => wA.grownBy x (some g) ∧ Rd g b (Spart b s j) x) (fun x y => x.grownBy y (some g)) (fun k v _ => v = Vpart g b s k)
    (fun x y h => Below.grows h _) (fun j x y h hb => ⟨grown_trans h.1 (Below.grows hb _), h.2.below hb h.2.lt⟩) (fun k v x y h _ => h) ⟨⟨rfl, rfl, rfl, Nat.le_refl _, fun _ _ _ => rfl⟩, ⟨hRA.box⟩⟩ ?hstep ?hcall (fun e => absurd e (by decide)) ?hlast
  case hstep =>
    intro k o hk hkc ho ρ j x hJ hA hd
    have hc := (hEA.grown hJ.1).cell
    match k, hk, hkc, ho with
    | 0, _, _, ho =>
      have hoo := Option.some.inj ho
      subst hoo
      exact ⟨numF g, x, run_load_cell _ rfl ⟨nb, 0, none⟩ _ x (hA.tmp 0 (by decide)) noAgg_num hc, rfl, Below.refl _ _⟩
    | 1, _, hkc, _ => exact absurd (by decide) hkc
    | 2, _, _, ho =>
      have hoo := Option.some.inj ho
      subst hoo
      exact ⟨numF g, x, run_load_cell _ rfl ⟨nb, 0, none⟩ _ x (hA.tmp 0 (by decide)) noAgg_num hc, rfl, Below.refl _ _⟩
    | 3, _, hkc, _ => exact absurd (by decide) hkc
    | 4, _, _, ho =>
      have hoo := Option.some.inj ho
      subst hoo
      exact ⟨numF g, x, run_load_cell _ rfl ⟨nb, 0, none⟩ _ x (hA.tmp 0 (by decide)) noAgg_num hc, rfl, Below.refl _ _⟩
    | 5, _, hkc, _ => exact absurd (by decide) hkc
    | 6, _, _, ho =>
      have hoo := Option.some.inj ho
      subst hoo
      have f1 : ρ (.tmp 3) = (.int .i64 (numS b 1 s).1 : Value) := hd ⟨1, .data⟩ (by simp) (by rfl)
      have f3 : ρ (.tmp 5) = (.int .i64 (numS b 4 (numS b 1 s).2).1 : Value) := hd ⟨3, .data⟩ (by simp) (by rfl)
      have f5 : ρ (.tmp 7) = (.int .i64 (numS b 2 (numS b 4 (numS b 1 s).2).2).1 : Value) := hd ⟨5, .data⟩ (by simp) (by rfl)
      exact ⟨(.agg #[.int .i64 (numS b 1 s).1, .int .i64 (numS b 4 (numS b 1 s).2).1, .int .i64 (numS b 2 (numS b 4 (numS b 1 s).2).2).1] : Value), x, by simp [execOp, f1, f3, f5, go_sem], rfl, Below.refl _ _⟩
  case hcall =>
    intro i o hi ho a x hJ hA hd K hK
    match i, hi, ho with
    | 0, _, ho =>
      have hoo := Option.some.inj ho
      subst hoo
      exact clo_num 2 _ 1 256 (.inl ⟨rfl, rfl⟩) hl rfl (hd ⟨0, .data⟩ (by simp) (by rfl)) (HS.out 0) hJ.2 (fun w' R G => hK _ w' rfl G ⟨grown_trans hJ.1 G, R⟩)
    | 1, _, ho =>
      have hoo := Option.some.inj ho
      subst hoo
      exact clo_num 4 _ 4 4294967296 (.inr (.inr ⟨rfl, rfl⟩)) hl rfl (hd ⟨2, .data⟩ (by simp) (by rfl)) (HS.out 1) hJ.2 (fun w' R G => hK _ w' rfl G ⟨grown_trans hJ.1 G, R⟩)
    | 2, _, ho =>
      have hoo := Option.some.inj ho
      subst hoo
      exact clo_num 6 _ 2 65536 (.inr (.inl ⟨rfl, rfl⟩)) hl rfl (hd ⟨4, .data⟩ (by simp) (by rfl)) (HS.out 2) hJ.2 (fun w' R G => hK _ w' rfl G ⟨grown_trans hJ.1 G, R⟩)
  case hlast =>
    intro o ho vals x hJ hF
    have hoo := Option.some.inj ho
    subst hoo
    have fv : vals 8 = (.agg #[.int .i64 (numS b 1 s).1, .int .i64 (numS b 4 (numS b 1 s).2).1, .int .i64 (numS b 2 (numS b 4 (numS b 1 s).2).2).1] : Value) := hF 6 (by decide)
    have hqx : x.heap[w.heap.size]? = some (.cells #[.int .i64 0, .int .i64 0, .int .i64 0] 52 (0, 0)) := by rw [hJ.1.block _ (by rw [hwA]; simp) (fun e => by have := Option.some.inj e; omega)]; exact hqA
    simp only [fillA, fillL, List.contains_cons, List.contains_nil, Nat.reduceBEq, Bool.or_false, Bool.false_or, Bool.or_true, Bool.true_or, cond_true, cond_false, Nat.zero_add, Nat.reduceAdd]
    refine ox_skip rfl rfl (run_store_box (.tmp 1) (.tmp 8) rfl w.heap.size _ #[.int .i64 (numS b 1 s).1, .int .i64 (numS b 4 (numS b 1 s).2).1, .int .i64 (numS b 2 (numS b 4 (numS b 1 s).2).2).1] _ x rfl fv hz hqx rfl (by simp [Value.oneCell'])) ?_
    have hq2 := setRow_at (cs := #[.int .i64 (numS b 1 s).1, .int .i64 (numS b 4 (numS b 1 s).2).1, .int .i64 (numS b 2 (numS b 4 (numS b 1 s).2).2).1]) hqx
    have hb2 := setRow_below (w := x) (q := w.heap.size) #[.int .i64 (numS b 1 s).1, .int .i64 (numS b 4 (numS b 1 s).2).1, .int .i64 (numS b 2 (numS b 4 (numS b 1 s).2).2).1] (Nat.le_refl w.heap.size)
    obtain ⟨w2, hw2⟩ : ∃ w2, w2 = x.setRow w.heap.size #[.int .i64 (numS b 1 s).1, .int .i64 (numS b 4 (numS b 1 s).2).1, .int .i64 (numS b 2 (numS b 4 (numS b 1 s).2).2).1] := ⟨_, rfl⟩
    rw [← hw2] at hq2 hb2 ⊢
    clear hw2
    have HR2 : Hid (Rd g b (partS b s).2 w2) := Lib.hid (hJ.2.below hb2 hgl)
    have HG2 := Lib.hid (grown_below (grown_trans hgA hJ.1) hb2)
    have k0 := cell_of_row w2 w.heap.size 0 _ _ _ hq2
    have k1 := cell_of_row w2 w.heap.size 1 _ _ _ hq2
    have k2 := cell_of_row w2 w.heap.size 2 _ _ _ hq2
    simp at k0 k1 k2
    clear hq2 hb2 hJ hF hqx hz
    go_wp2
    refine bodyPost_ret (v := (.agg #[.int .i64 (numS b 1 s).1, .int .i64 (numS b 4 (numS b 1 s).2).1, .int .i64 (numS b 2 (numS b 4 (numS b 1 s).2).2).1] : Value)) ?_ rfl ⟨rfl, HR2.out, HG2.out⟩
    simp [results, Tryz.results98, go_sem, k0, k1, k2]

def Vedge (g : Nat) (b : List UInt8) (s : Nat × Bool) : Nat → Value
  | 0 => numF g
  | 1 => (.int .i64 (numS b 1 s).1 : Value)
  | 2 => numF g
  | 3 => (.int .i64 (numS b 1 (numS b 1 s).2).1 : Value)
  | 4 => (.agg #[.int .i64 (numS b 1 s).1, .int .i64 (numS b 1 (numS b 1 s).2).1] : Value)
  | _ => undef
def Sedge (b : List UInt8) (s : Nat × Bool) : Nat → Nat × Bool
  | 0 => s
  | 1 => (numS b 1 s).2
  | _ => (numS b 1 (numS b 1 s).2).2
theorem Sedge_le (b : List UInt8) (s : Nat × Bool) (h : s.1 ≤ b.length) : ∀ i, (Sedge b s i).1 ≤ b.length
  | 0 => h
  | 1 => numS_le b _ _ (h)
  | _ + 2 => numS_le b _ _ (numS_le b _ _ (h))
set_option maxRecDepth 100000 in
set_option maxHeartbeats 4000000 in
theorem edge_any (g nb : Nat) (b : List UInt8) (s : Nat × Bool) (w : World) (hl : b.length ≤ 1000) (hs : s.1 ≤ b.length) (hE : Env g nb w) (hR : Rd g b s w) :
    Calls Tryz.prog 100 #[.pointer (some ⟨nb, 0, none⟩)] w (Reads g b (.agg #[.int .i64 (numS b 1 s).1, .int .i64 (numS b 1 (numS b 1 s).2).1] : Value) (edgeS b s).2 w) := by
  obtain ⟨wA, hwA⟩ : ∃ wA, wA = w.alloc (.cells #[.int .i64 0, .int .i64 0] 56) := ⟨_, rfl⟩
  have hbA : Below w.heap.size w wA := by rw [hwA]; exact below_alloc _
  have hgA : w.grownBy wA (some g) := Below.grows hbA _
  have hqA : wA.heap[w.heap.size]? = some (.cells #[.int .i64 0, .int .i64 0] 56 (0, 0)) := by rw [hwA]; exact heap_alloc_new w _
  have hEA : Env g nb wA := hE.grown hgA
  have hRA : Rd g b s wA := hR.below hbA hR.lt
  have hgl := hR.lt
  have HS := Lib.hid (Sedge_le b s hs)
  have hz : ∀ w, (sizeOf 56).run Tryz.prog w = .ok 2 w := fun w => by kernel_rfl
  clear hE hR hs hbA
  go_enter Tryz.func100, Tryz.ntmps100
  go_wp2_with fail
  rw [← hwA]
  refine wp_region_chain 5 [2, 3, 4, 5, 6] [1, 3] (by kernel_rfl) (by kernel_rfl) (by intro d hd; simp at hd ⊢; omega) (fun j x => wA.grownBy x (some g) ∧ Rd g b (Sedge b s j) x) (fun x y => x.grownBy y (some g)) (fun k v _ => v = Vedge g b s k)
    (fun x y h => Below.grows h _) (fun j x y h hb => ⟨grown_trans h.1 (Below.grows hb _), h.2.below hb h.2.lt⟩) (fun k v x y h _ => h) ⟨⟨rfl, rfl, rfl, Nat.le_refl _, fun _ _ _ => rfl⟩, ⟨hRA.box⟩⟩ ?hstep ?hcall (fun e => absurd e (by decide)) ?hlast
  case hstep =>
    intro k o hk hkc ho ρ j x hJ hA hd
    have hc := (hEA.grown hJ.1).cell
    match k, hk, hkc, ho with
    | 0, _, _, ho =>
      have hoo := Option.some.inj ho
      subst hoo
      exact ⟨numF g, x, run_load_cell _ rfl ⟨nb, 0, none⟩ _ x (hA.tmp 0 (by decide)) noAgg_num hc, rfl, Below.refl _ _⟩
    | 1, _, hkc, _ => exact absurd (by decide) hkc
    | 2, _, _, ho =>
      have hoo := Option.some.inj ho
      subst hoo
      exact ⟨numF g, x, run_load_cell _ rfl ⟨nb, 0, none⟩ _ x (hA.tmp 0 (by decide)) noAgg_num hc, rfl, Below.refl _ _⟩
    | 3, _, hkc, _ => exact absurd (by decide) hkc
    | 4, _, _, ho =>
      have hoo := Option.some.inj ho
      subst hoo
      have f1 : ρ (.tmp 3) = (.int .i64 (numS b 1 s).1 : Value) := hd ⟨1, .data⟩ (by simp) (by rfl)
      have f3 : ρ (.tmp 5) = (.int .i64 (numS b 1 (numS b 1 s).2).1 : Value) := hd ⟨3, .data⟩ (by simp) (by rfl)
      exact ⟨(.agg #[.int .i64 (numS b 1 s).1, .int .i64 (numS b 1 (numS b 1 s).2).1] : Value), x, by simp [execOp, f1, f3, go_sem], rfl, Below.refl _ _⟩
  case hcall =>
    intro i o hi ho a x hJ hA hd K hK
    match i, hi, ho with
    | 0, _, ho =>
      have hoo := Option.some.inj ho
      subst hoo
      exact clo_num 2 _ 1 256 (.inl ⟨rfl, rfl⟩) hl rfl (hd ⟨0, .data⟩ (by simp) (by rfl)) (HS.out 0) hJ.2 (fun w' R G => hK _ w' rfl G ⟨grown_trans hJ.1 G, R⟩)
    | 1, _, ho =>
      have hoo := Option.some.inj ho
      subst hoo
      exact clo_num 4 _ 1 256 (.inl ⟨rfl, rfl⟩) hl rfl (hd ⟨2, .data⟩ (by simp) (by rfl)) (HS.out 1) hJ.2 (fun w' R G => hK _ w' rfl G ⟨grown_trans hJ.1 G, R⟩)
  case hlast =>
    intro o ho vals x hJ hF
    have hoo := Option.some.inj ho
    subst hoo
    have fv : vals 6 = (.agg #[.int .i64 (numS b 1 s).1, .int .i64 (numS b 1 (numS b 1 s).2).1] : Value) := hF 4 (by decide)
    have hqx : x.heap[w.heap.size]? = some (.cells #[.int .i64 0, .int .i64 0] 56 (0, 0)) := by rw [hJ.1.block _ (by rw [hwA]; simp) (fun e => by have := Option.some.inj e; omega)]; exact hqA
    simp only [fillA, fillL, List.contains_cons, List.contains_nil, Nat.reduceBEq, Bool.or_false, Bool.false_or, Bool.or_true, Bool.true_or, cond_true, cond_false, Nat.zero_add, Nat.reduceAdd]
    refine ox_skip rfl rfl (run_store_box (.tmp 1) (.tmp 6) rfl w.heap.size _ #[.int .i64 (numS b 1 s).1, .int .i64 (numS b 1 (numS b 1 s).2).1] _ x rfl fv hz hqx rfl (by simp [Value.oneCell'])) ?_
    have hq2 := setRow_at (cs := #[.int .i64 (numS b 1 s).1, .int .i64 (numS b 1 (numS b 1 s).2).1]) hqx
    have hb2 := setRow_below (w := x) (q := w.heap.size) #[.int .i64 (numS b 1 s).1, .int .i64 (numS b 1 (numS b 1 s).2).1] (Nat.le_refl w.heap.size)
    obtain ⟨w2, hw2⟩ : ∃ w2, w2 = x.setRow w.heap.size #[.int .i64 (numS b 1 s).1, .int .i64 (numS b 1 (numS b 1 s).2).1] := ⟨_, rfl⟩
    rw [← hw2] at hq2 hb2 ⊢
    clear hw2
    have HR2 : Hid (Rd g b (edgeS b s).2 w2) := Lib.hid (hJ.2.below hb2 hgl)
    have HG2 := Lib.hid (grown_below (grown_trans hgA hJ.1) hb2)
    have k0 := cell_of_row w2 w.heap.size 0 _ _ _ hq2
    have k1 := cell_of_row w2 w.heap.size 1 _ _ _ hq2
    simp at k0 k1
    clear hq2 hb2 hJ hF hqx hz
    go_wp2
    refine bodyPost_ret (v := (.agg #[.int .i64 (numS b 1 s).1, .int .i64 (numS b 1 (numS b 1 s).2).1] : Value)) ?_ rfl ⟨rfl, HR2.out, HG2.out⟩
    simp [results, Tryz.results100, go_sem, k0, k1]

def Vfut (g : Nat) (b : List UInt8) (s : Nat × Bool) : Nat → Value
  | 0 => numF g
  | 1 => (.int .i64 (numS b 1 s).1 : Value)
  | 2 => numF g
  | 3 => (.int .i64 (numS b 1 (numS b 1 s).2).1 : Value)
  | 4 => numF g
  | 5 => (.int .i64 (numS b 2 (numS b 1 (numS b 1 s).2).2).1 : Value)
  | 6 => (.agg #[.int .i64 (numS b 1 s).1, .int .i64 (numS b 1 (numS b 1 s).2).1, .int .i64 (numS b 2 (numS b 1 (numS b 1 s).2).2).1] : Value)
  | _ => undef
def Sfut (b : List UInt8) (s : Nat × Bool) : Nat → Nat × Bool
  | 0 => s
  | 1 => (numS b 1 s).2
  | 2 => (numS b 1 (numS b 1 s).2).2
  | _ => (numS b 2 (numS b 1 (numS b 1 s).2).2).2
theorem Sfut_le (b : List UInt8) (s : Nat × Bool) (h : s.1 ≤ b.length) : ∀ i, (Sfut b s i).1 ≤ b.length
  | 0 => h
  | 1 => numS_le b _ _ (h)
  | 2 => numS_le b _ _ (numS_le b _ _ (h))
  | _ + 3 => numS_le b _ _ (numS_le b _ _ (numS_le b _ _ (h)))
set_option maxRecDepth 100000 in
set_option maxHeartbeats 4000000 in
theorem fut_any (g nb : Nat) (b : List UInt8) (s : Nat × Bool) (w : World) (hl : b.length ≤ 1000) (hs : s.1 ≤ b.length) (hE : Env g nb w) (hR : Rd g b s w) :
    Calls Tryz.prog 102 #[.pointer (some ⟨nb, 0, none⟩)] w (Reads g b (.agg #[.int .i64 (numS b 1 s).1, .int .i64 (numS b 1 (numS b 1 s).2).1, .int .i64 (numS b 2 (numS b 1 (numS b 1 s).2).2).1] : Value) (futS b s).2 w) := by
  obtain ⟨wA, hwA⟩ : ∃ wA, wA = w.alloc (.cells #[.int .i64 0, .int .i64 0, .int .i64 0] 58) := ⟨_, rfl⟩
  have hbA : Below w.heap.size w wA := by rw [hwA]; exact below_alloc _
  have hgA : w.grownBy wA (some g) := Below.grows hbA _
  have hqA : wA.heap[w.heap.size]? = some (.cells #[.int .i64 0, .int .i64 0, .int .i64 0] 58 (0, 0)) := by rw [hwA]; exact heap_alloc_new w _
  have hEA : Env g nb wA := hE.grown hgA
  have hRA : Rd g b s wA := hR.below hbA hR.lt
  have hgl := hR.lt
  have HS := Lib.hid (Sfut_le b s hs)
  have hz : ∀ w, (sizeOf 58).run Tryz.prog w = .ok 3 w := fun w => by kernel_rfl
  clear hE hR hs hbA
  go_enter Tryz.func102, Tryz.ntmps102
  go_wp2_with fail
  rw [← hwA]
  refine wp_region_chain 7 [2, 3, 4, 5, 6, 7, 8] [1, 3, 5] (by kernel_rfl) (by kernel_rfl) (by intro d hd; simp at hd ⊢; omega) (fun j x => wA.grownBy x (some g) ∧ Rd g b (Sfut b s j) x) (fun x y => x.grownBy y (some g)) (fun k v _ => v = Vfut g b s k)
    (fun x y h => Below.grows h _) (fun j x y h hb => ⟨grown_trans h.1 (Below.grows hb _), h.2.below hb h.2.lt⟩) (fun k v x y h _ => h) ⟨⟨rfl, rfl, rfl, Nat.le_refl _, fun _ _ _ => rfl⟩, ⟨hRA.box⟩⟩ ?hstep ?hcall (fun e => absurd e (by decide)) ?hlast
  case hstep =>
    intro k o hk hkc ho ρ j x hJ hA hd
    have hc := (hEA.grown hJ.1).cell
    match k, hk, hkc, ho with
    | 0, _, _, ho =>
      have hoo := Option.some.inj ho
      subst hoo
      exact ⟨numF g, x, run_load_cell _ rfl ⟨nb, 0, none⟩ _ x (hA.tmp 0 (by decide)) noAgg_num hc, rfl, Below.refl _ _⟩
    | 1, _, hkc, _ => exact absurd (by decide) hkc
    | 2, _, _, ho =>
      have hoo := Option.some.inj ho
      subst hoo
      exact ⟨numF g, x, run_load_cell _ rfl ⟨nb, 0, none⟩ _ x (hA.tmp 0 (by decide)) noAgg_num hc, rfl, Below.refl _ _⟩
    | 3, _, hkc, _ => exact absurd (by decide) hkc
    | 4, _, _, ho =>
      have hoo := Option.some.inj ho
      subst hoo
      exact ⟨numF g, x, run_load_cell _ rfl ⟨nb, 0, none⟩ _ x (hA.tmp 0 (by decide)) noAgg_num hc, rfl, Below.refl _ _⟩
    | 5, _, hkc, _ => exact absurd (by decide) hkc
    | 6, _, _, ho =>
      have hoo := Option.some.inj ho
      subst hoo
      have f1 : ρ (.tmp 3) = (.int .i64 (numS b 1 s).1 : Value) := hd ⟨1, .data⟩ (by simp) (by rfl)
      have f3 : ρ (.tmp 5) = (.int .i64 (numS b 1 (numS b 1 s).2).1 : Value) := hd ⟨3, .data⟩ (by simp) (by rfl)
      have f5 : ρ (.tmp 7) = (.int .i64 (numS b 2 (numS b 1 (numS b 1 s).2).2).1 : Value) := hd ⟨5, .data⟩ (by simp) (by rfl)
      exact ⟨(.agg #[.int .i64 (numS b 1 s).1, .int .i64 (numS b 1 (numS b 1 s).2).1, .int .i64 (numS b 2 (numS b 1 (numS b 1 s).2).2).1] : Value), x, by simp [execOp, f1, f3, f5, go_sem], rfl, Below.refl _ _⟩
  case hcall =>
    intro i o hi ho a x hJ hA hd K hK
    match i, hi, ho with
    | 0, _, ho =>
      have hoo := Option.some.inj ho
      subst hoo
      exact clo_num 2 _ 1 256 (.inl ⟨rfl, rfl⟩) hl rfl (hd ⟨0, .data⟩ (by simp) (by rfl)) (HS.out 0) hJ.2 (fun w' R G => hK _ w' rfl G ⟨grown_trans hJ.1 G, R⟩)
    | 1, _, ho =>
      have hoo := Option.some.inj ho
      subst hoo
      exact clo_num 4 _ 1 256 (.inl ⟨rfl, rfl⟩) hl rfl (hd ⟨2, .data⟩ (by simp) (by rfl)) (HS.out 1) hJ.2 (fun w' R G => hK _ w' rfl G ⟨grown_trans hJ.1 G, R⟩)
    | 2, _, ho =>
      have hoo := Option.some.inj ho
      subst hoo
      exact clo_num 6 _ 2 65536 (.inr (.inl ⟨rfl, rfl⟩)) hl rfl (hd ⟨4, .data⟩ (by simp) (by rfl)) (HS.out 2) hJ.2 (fun w' R G => hK _ w' rfl G ⟨grown_trans hJ.1 G, R⟩)
  case hlast =>
    intro o ho vals x hJ hF
    have hoo := Option.some.inj ho
    subst hoo
    have fv : vals 8 = (.agg #[.int .i64 (numS b 1 s).1, .int .i64 (numS b 1 (numS b 1 s).2).1, .int .i64 (numS b 2 (numS b 1 (numS b 1 s).2).2).1] : Value) := hF 6 (by decide)
    have hqx : x.heap[w.heap.size]? = some (.cells #[.int .i64 0, .int .i64 0, .int .i64 0] 58 (0, 0)) := by rw [hJ.1.block _ (by rw [hwA]; simp) (fun e => by have := Option.some.inj e; omega)]; exact hqA
    simp only [fillA, fillL, List.contains_cons, List.contains_nil, Nat.reduceBEq, Bool.or_false, Bool.false_or, Bool.or_true, Bool.true_or, cond_true, cond_false, Nat.zero_add, Nat.reduceAdd]
    refine ox_skip rfl rfl (run_store_box (.tmp 1) (.tmp 8) rfl w.heap.size _ #[.int .i64 (numS b 1 s).1, .int .i64 (numS b 1 (numS b 1 s).2).1, .int .i64 (numS b 2 (numS b 1 (numS b 1 s).2).2).1] _ x rfl fv hz hqx rfl (by simp [Value.oneCell'])) ?_
    have hq2 := setRow_at (cs := #[.int .i64 (numS b 1 s).1, .int .i64 (numS b 1 (numS b 1 s).2).1, .int .i64 (numS b 2 (numS b 1 (numS b 1 s).2).2).1]) hqx
    have hb2 := setRow_below (w := x) (q := w.heap.size) #[.int .i64 (numS b 1 s).1, .int .i64 (numS b 1 (numS b 1 s).2).1, .int .i64 (numS b 2 (numS b 1 (numS b 1 s).2).2).1] (Nat.le_refl w.heap.size)
    obtain ⟨w2, hw2⟩ : ∃ w2, w2 = x.setRow w.heap.size #[.int .i64 (numS b 1 s).1, .int .i64 (numS b 1 (numS b 1 s).2).1, .int .i64 (numS b 2 (numS b 1 (numS b 1 s).2).2).1] := ⟨_, rfl⟩
    rw [← hw2] at hq2 hb2 ⊢
    clear hw2
    have HR2 : Hid (Rd g b (futS b s).2 w2) := Lib.hid (hJ.2.below hb2 hgl)
    have HG2 := Lib.hid (grown_below (grown_trans hgA hJ.1) hb2)
    have k0 := cell_of_row w2 w.heap.size 0 _ _ _ hq2
    have k1 := cell_of_row w2 w.heap.size 1 _ _ _ hq2
    have k2 := cell_of_row w2 w.heap.size 2 _ _ _ hq2
    simp at k0 k1 k2
    clear hq2 hb2 hJ hF hqx hz
    go_wp2
    refine bodyPost_ret (v := (.agg #[.int .i64 (numS b 1 s).1, .int .i64 (numS b 1 (numS b 1 s).2).1, .int .i64 (numS b 2 (numS b 1 (numS b 1 s).2).2).1] : Value)) ?_ rfl ⟨rfl, HR2.out, HG2.out⟩
    simp [results, Tryz.results102, go_sem, k0, k1, k2]
end Go.Proofs.YtlimcimioeepaaaGreatDoor
set_option linter.unusedVariables false
namespace Go.Proofs.YtlimcimioeepaaaGreatDoor
open Go.RowKit

@[reducible] def placeF (nb : Nat) : Value := .func (.func 96) #[] #[.pointer (some ⟨nb, 0, none⟩)]
structure Env2 (g nb pb : Nat) (w : World) : Prop where
  num : Env g nb w
  place : w.heap[pb]? = some (.cells #[placeF nb] 146 (0, 0))
  ne : pb ≠ g
theorem Env2.cell {g nb pb : Nat} {w : World} (h : Env2 g nb pb w) : w.cell? ⟨pb, 0, none⟩ = some (placeF nb) := by simp [World.cell?, h.place]
theorem Env2.lt {g nb pb : Nat} {w : World} (h : Env2 g nb pb w) : pb < w.heap.size := (Array.getElem?_eq_some_iff.mp h.place).1
theorem Env2.grown {g nb pb : Nat} {w w' : World} (h : Env2 g nb pb w) (hg : w.grownBy w' (some g)) : Env2 g nb pb w' := ⟨h.num.grown hg, by rw [hg.block pb h.lt (fun e => h.ne (Option.some.inj e))]; exact h.place, h.ne⟩
theorem noAgg_place : ∀ w, (isAgg 146).run Tryz.prog w = .ok false w := fun w => by kernel_rfl
theorem eg_place : ∀ args w, (callFunc 96 args).run Tryz.prog w = .ok (.enter 96 args) w := eg_of Tryz.func96 (by kernel_rfl) rfl
theorem eg_ones : ∀ args w, (callFunc 105 args).run Tryz.prog w = .ok (.enter 105 args) w := eg_of Tryz.func105 (by kernel_rfl) rfl
theorem nat_numS (b : List UInt8) (s : Nat × Bool) : (((numS b 1 s).1.toNat : Nat) : Int) = (numS b 1 s).1 := by
  have := (numS_small (k := 1) (P := 256) rfl (b := b) s).1
  omega
theorem lt_numS (b : List UInt8) (s : Nat × Bool) : (numS b 1 s).1.toNat < 256 := by
  have := (numS_small (k := 1) (P := 256) rfl (b := b) s).2
  omega
theorem rowS_le {α : Type} {f : Nat × Bool → α × (Nat × Bool)} {m : Nat} (h : ∀ s, s.1 ≤ m → (f s).2.1 ≤ m) : ∀ (n : Nat) (s : Nat × Bool), s.1 ≤ m → (rowS f n s).2.1 ≤ m
  | 0, s, hs => hs
  | n + 1, s, hs => rowS_le h n _ (h s hs)
/-- The places of one side of a barrier. -/
theorem onesC_any (g nb : Nat) (b : List UInt8) (n : Nat) (s : Nat × Bool) (w : World) (hl : b.length ≤ 1000) (hn : n ≤ 400) (hs : s.1 ≤ b.length) (hE : Env g nb w) (hR : Rd g b s w) :
    Calls Tryz.prog 105 #[.int .i64 n, placeF nb] w fun e w' => ∃ A c, e = .returned (.slice A n c) ∧ OwnI w' w.heap.size (.slice A n c) (rowS (numS b 1) n s).1 ∧ Rd g b (rowS (numS b 1) n s).2 w' ∧ w.grownBy w' (some g) :=
  row_ones g b 96 #[.pointer (some ⟨nb, 0, none⟩)] eg_place (numS b 1) n hn (numS_le b 1) s w hs hR (fun s W hs hg hR => place_any g nb b s W hl hs (hE.grown hg) hR)

def VB1 (g : Nat) (b : List UInt8) (s : Nat × Bool) : Nat → Value
  | 0 => numF g
  | 1 => .int .i64 (numS b 1 s).1
  | 2 => numF g
  | 3 => .int .i64 (numS b 1 (numS b 1 s).2).1
  | 4 => .int .i64 (numS b 1 s).1
  | 5 => .int .i64 (numS b 1 (numS b 1 s).2).1
  | _ => undef
def SB1 (b : List UInt8) (s : Nat × Bool) : Nat → Nat × Bool
  | 0 => s
  | 1 => (numS b 1 s).2
  | _ => (numS b 1 (numS b 1 s).2).2
theorem SB1_le (b : List UInt8) (s : Nat × Bool) (h : s.1 ≤ b.length) : ∀ i, (SB1 b s i).1 ≤ b.length
  | 0 => h
  | 1 => numS_le b _ _ h
  | _ + 2 => numS_le b _ _ (numS_le b _ _ h)
/-- Its counts, and its two sides. -/
def nIn (b : List UInt8) (s : Nat × Bool) : Nat := (numS b 1 s).1.toNat
def nOut (b : List UInt8) (s : Nat × Bool) : Nat := (numS b 1 (numS b 1 s).2).1.toNat
def SB2 (b : List UInt8) (s : Nat × Bool) : Nat → Nat × Bool
  | 0 => (numS b 1 (numS b 1 s).2).2
  | 1 => (rowS (numS b 1) (nIn b s) (numS b 1 (numS b 1 s).2).2).2
  | _ => (barS b s).2
theorem SB2_le (b : List UInt8) (s : Nat × Bool) (h : s.1 ≤ b.length) : ∀ i, (SB2 b s i).1 ≤ b.length
  | 0 => numS_le b _ _ (numS_le b _ _ h)
  | 1 => rowS_le (numS_le b 1) _ _ (numS_le b _ _ (numS_le b _ _ h))
  | _ + 2 => rowS_le (numS_le b 1) _ _ (rowS_le (numS_le b 1) _ _ (numS_le b _ _ (numS_le b _ _ h)))
def ListV (base : Nat) (n : Nat) (xs : List Int) (v : Value) (w : World) : Prop := ∃ A c, v = .slice A n c ∧ OwnI w base (.slice A n c) xs
def PhiB2 (nb base : Nat) (b : List UInt8) (s : Nat × Bool) : Nat → Value → World → Prop
  | 0, v, w => v = .int .i64 (nIn b s)
  | 1, v, w => v = placeF nb
  | 2, v, w => ListV base (nIn b s) (barS b s).1.1 v w
  | 3, v, w => v = .int .i64 (nOut b s)
  | 4, v, w => v = placeF nb
  | 5, v, w => ListV base (nOut b s) (barS b s).1.2 v w
  | 6, v, w => ∃ A1 c1 A2 c2, v = .agg #[.slice A1 (nIn b s) c1, .slice A2 (nOut b s) c2] ∧ OwnI w base (.slice A1 (nIn b s) c1) (barS b s).1.1 ∧ OwnI w base (.slice A2 (nOut b s) c2) (barS b s).1.2
  | _, _, _ => True
theorem phiB2_grown {nb base g : Nat} {b : List UInt8} {s : Nat × Bool} (hgb : g < base) : ∀ k v w w', PhiB2 nb base b s k v w → w.grownBy w' (some g) → PhiB2 nb base b s k v w' := by
  intro k v w w' h hg
  match k, h with
  | 0, h => exact h
  | 1, h => exact h
  | 2, h =>
    obtain ⟨A, c, e, hO⟩ := h
    exact ⟨A, c, e, hO.grown hg hgb⟩
  | 3, h => exact h
  | 4, h => exact h
  | 5, h =>
    obtain ⟨A, c, e, hO⟩ := h
    exact ⟨A, c, e, hO.grown hg hgb⟩
  | 6, h =>
    obtain ⟨A1, c1, A2, c2, e, h1, h2⟩ := h
    exact ⟨A1, c1, A2, c2, e, h1.grown hg hgb, h2.grown hg hgb⟩
  | k + 7, h => exact trivial
set_option maxRecDepth 100000 in
set_option maxHeartbeats 8000000 in
theorem bar_any (g nb pb : Nat) (b : List UInt8) (s : Nat × Bool) (w : World) (hl : b.length ≤ 1000) (hs : s.1 ≤ b.length) (hE : Env2 g nb pb w) (hR : Rd g b s w) :
    Calls Tryz.prog 104 #[.pointer (some ⟨nb, 0, none⟩), .pointer (some ⟨pb, 0, none⟩)] w fun e w' => ∃ v1 v2, e = .returned (.agg #[v1, v2]) ∧ OwnI w' w.heap.size v1 (barS b s).1.1 ∧ OwnI w' w.heap.size v2 (barS b s).1.2 ∧ Rd g b (barS b s).2 w' ∧ w.grownBy w' (some g) := by
  obtain ⟨wA, hwA⟩ : ∃ wA, wA = w.alloc (.cells #[.slice none 0 0, .slice none 0 0] 49) := ⟨_, rfl⟩
  have hbA : Below w.heap.size w wA := by rw [hwA]; exact below_alloc _
  have hgA : w.grownBy wA (some g) := Below.grows hbA _
  have hqA : wA.heap[w.heap.size]? = some (.cells #[.slice none 0 0, .slice none 0 0] 49 (0, 0)) := by rw [hwA]; exact heap_alloc_new w _
  have hsA : wA.heap.size = w.heap.size + 1 := by rw [hwA]; simp
  have hEA : Env2 g nb pb wA := hE.grown hgA
  have hRA : Rd g b s wA := hR.below hbA hR.lt
  have hgl := hR.lt
  have HS := Lib.hid (SB1_le b s hs)
  have HS2 := Lib.hid (SB2_le b s hs)
  have hz : ∀ w, (sizeOf 49).run Tryz.prog w = .ok 2 w := fun w => by kernel_rfl
  clear hE hR hs hbA
  go_enter Tryz.func104, Tryz.ntmps104
  go_wp2_with fail
  rw [← hwA]
  refine wp_region_chain 6 [5, 6, 7, 8, 3, 4] [1, 3] (by kernel_rfl) (by kernel_rfl) (by intro d hd; simp at hd ⊢; omega) (fun j x => wA.grownBy x (some g) ∧ Rd g b (SB1 b s j) x) (fun x y => x.grownBy y (some g)) (fun k v _ => v = VB1 g b s k)
    (fun x y h => Below.grows h _) (fun j x y h hb => ⟨grown_trans h.1 (Below.grows hb _), h.2.below hb h.2.lt⟩) (fun k v x y h _ => h) ⟨⟨rfl, rfl, rfl, Nat.le_refl _, fun _ _ _ => rfl⟩, ⟨hRA.box⟩⟩ ?hstep ?hcall ?hend (fun o ho => by cases ho)
  case hstep =>
    intro k o hk hkc ho ρ j x hJ hA hd
    have hc := (hEA.grown hJ.1).num.cell
    match k, hk, hkc, ho with
    | 0, _, _, ho =>
      have hoo := Option.some.inj ho
      subst hoo
      exact ⟨numF g, x, run_load_cell _ rfl ⟨nb, 0, none⟩ _ x (hA.tmp 0 (by decide)) noAgg_num hc, rfl, Below.refl _ _⟩
    | 1, _, hkc, _ => exact absurd (by decide) hkc
    | 2, _, _, ho =>
      have hoo := Option.some.inj ho
      subst hoo
      exact ⟨numF g, x, run_load_cell _ rfl ⟨nb, 0, none⟩ _ x (hA.tmp 0 (by decide)) noAgg_num hc, rfl, Below.refl _ _⟩
    | 3, _, hkc, _ => exact absurd (by decide) hkc
    | 4, _, _, ho =>
      have hoo := Option.some.inj ho
      subst hoo
      have f1 : ρ (.tmp 6) = .int .i64 (numS b 1 s).1 := hd ⟨1, .data⟩ (by simp) (by rfl)
      exact ⟨.int .i64 (numS b 1 s).1, x, by simp [execOp, f1, go_sem], rfl, Below.refl _ _⟩
    | 5, _, _, ho =>
      have hoo := Option.some.inj ho
      subst hoo
      have f3 : ρ (.tmp 8) = .int .i64 (numS b 1 (numS b 1 s).2).1 := hd ⟨3, .data⟩ (by simp) (by rfl)
      exact ⟨.int .i64 (numS b 1 (numS b 1 s).2).1, x, by simp [execOp, f3, go_sem], rfl, Below.refl _ _⟩
  case hcall =>
    intro i o hi ho a x hJ hA hd K hK
    match i, hi, ho with
    | 0, _, ho =>
      have hoo := Option.some.inj ho
      subst hoo
      exact clo_num 5 _ 1 256 (.inl ⟨rfl, rfl⟩) hl rfl (hd ⟨0, .data⟩ (by simp) (by rfl)) (HS.out 0) hJ.2 (fun w' R G => hK _ w' rfl G ⟨grown_trans hJ.1 G, R⟩)
    | 1, _, ho =>
      have hoo := Option.some.inj ho
      subst hoo
      exact clo_num 7 _ 1 256 (.inl ⟨rfl, rfl⟩) hl rfl (hd ⟨2, .data⟩ (by simp) (by rfl)) (HS.out 1) hJ.2 (fun w' R G => hK _ w' rfl G ⟨grown_trans hJ.1 G, R⟩)
  case hend =>
    intro _ vals x hJ hF
    have f4 : vals 3 = .int .i64 (nIn b s) := by
      have h : vals 3 = .int .i64 (numS b 1 s).1 := hF 4 (by decide)
      rw [h, nIn, nat_numS]
    have f5 : vals 4 = .int .i64 (nOut b s) := by
      have h : vals 4 = .int .i64 (numS b 1 (numS b 1 s).2).1 := hF 5 (by decide)
      rw [h, nOut, nat_numS]
    have hRx : Rd g b (SB2 b s 0) x := hJ.2
    have hgx := grown_trans hgA hJ.1
    have hEx := hEA.grown hJ.1
    have hqx : x.heap[w.heap.size]? = some (.cells #[.slice none 0 0, .slice none 0 0] 49 (0, 0)) := by rw [hJ.1.block _ (by rw [hwA]; simp) (fun e => by have := Option.some.inj e; omega)]; exact hqA
    have hsx : w.heap.size < x.heap.size := by have := hJ.1.size; omega
    simp only [fillA, fillL, List.contains_cons, List.contains_nil, Nat.reduceBEq, Bool.or_false, Bool.false_or, Bool.or_true, Bool.true_or, cond_true, cond_false, Nat.zero_add, Nat.reduceAdd]
    rw [f4, f5]
    clear f4 f5 hF hJ hEA hRA hqA hwA hgA hsA HS
    go_wp2_with fail
    refine wp_region_chain 7 [9, 10, 11, 12, 13, 14, 15] [2, 5] (by kernel_rfl) (by kernel_rfl) (by intro d hd; simp at hd ⊢; omega) (fun j y => x.grownBy y (some g) ∧ Rd g b (SB2 b s j) y) (fun x y => x.grownBy y (some g)) (PhiB2 nb x.heap.size b s)
      (fun x y h => Below.grows h _) (fun j x y h hb => ⟨grown_trans h.1 (Below.grows hb _), h.2.below hb h.2.lt⟩) (phiB2_grown (by omega)) ⟨⟨rfl, rfl, rfl, Nat.le_refl _, fun _ _ _ => rfl⟩, ⟨hRx.box⟩⟩ ?hstep2 ?hcall2 (fun e => absurd e (by decide)) ?hlast2
    case hstep2 =>
      intro k o hk hkc ho ρ j y hJ hA hd
      have hc := (hEx.grown hJ.1).cell
      match k, hk, hkc, ho with
      | 0, _, _, ho =>
        have hoo := Option.some.inj ho
        subst hoo
        have f : ρ (.tmp 3) = .int .i64 (nIn b s) := hA.tmp 3 (by decide)
        exact ⟨.int .i64 (nIn b s), y, by simp [execOp, f, go_sem], rfl, Below.refl _ _⟩
      | 1, _, _, ho =>
        have hoo := Option.some.inj ho
        subst hoo
        exact ⟨placeF nb, y, run_load_cell _ rfl ⟨pb, 0, none⟩ _ y (hA.tmp 1 (by decide)) noAgg_place hc, rfl, Below.refl _ _⟩
      | 2, _, hkc, _ => exact absurd (by decide) hkc
      | 3, _, _, ho =>
        have hoo := Option.some.inj ho
        subst hoo
        have f : ρ (.tmp 4) = .int .i64 (nOut b s) := hA.tmp 4 (by decide)
        exact ⟨.int .i64 (nOut b s), y, by simp [execOp, f, go_sem], rfl, Below.refl _ _⟩
      | 4, _, _, ho =>
        have hoo := Option.some.inj ho
        subst hoo
        exact ⟨placeF nb, y, run_load_cell _ rfl ⟨pb, 0, none⟩ _ y (hA.tmp 1 (by decide)) noAgg_place hc, rfl, Below.refl _ _⟩
      | 5, _, hkc, _ => exact absurd (by decide) hkc
      | 6, _, _, ho =>
        have hoo := Option.some.inj ho
        subst hoo
        obtain ⟨A1, c1, e1, q1⟩ : ListV x.heap.size (nIn b s) (barS b s).1.1 (ρ (.tmp 11)) y := hd ⟨2, .data⟩ (by simp) (by rfl)
        obtain ⟨A2, c2, e2, q2⟩ : ListV x.heap.size (nOut b s) (barS b s).1.2 (ρ (.tmp 14)) y := hd ⟨5, .data⟩ (by simp) (by rfl)
        exact ⟨.agg #[.slice A1 (nIn b s) c1, .slice A2 (nOut b s) c2], y, by simp [execOp, e1, e2, go_sem], ⟨A1, c1, A2, c2, rfl, q1, q2⟩, Below.refl _ _⟩
    case hcall2 =>
      intro i o hi ho a y hJ hA hd K hK
      match i, hi, ho with
      | 0, _, ho =>
        have hoo := Option.some.inj ho
        subst hoo
        have f0 : a.eval (.tmp 9) = .int .i64 (nIn b s) := hd ⟨0, .data⟩ (by simp) (by rfl)
        have f1 : a.eval (.tmp 10) = placeF nb := hd ⟨1, .data⟩ (by simp) (by rfl)
        refine cx_fun rfl 105 _ _ #[.int .i64 (nIn b s), placeF nb] rfl (by rw [← f0, ← f1]; simp only [List.map_toArray, List.map_cons, List.map_nil]) eg_ones ?_
        refine (onesC_any g nb b (nIn b s) (SB2 b s 0) y hl (by have := lt_numS b s; unfold nIn; omega) (HS2.out 0) (hEx.grown hJ.1).num hJ.2).mono ?_
        rintro e y' ⟨A, c, rfl, hO, hR', hg'⟩
        exact ⟨_, rfl, hK _ y' ⟨A, c, rfl, hO.less hJ.1.size⟩ hg' ⟨grown_trans hJ.1 hg', hR'⟩⟩
      | 1, _, ho =>
        have hoo := Option.some.inj ho
        subst hoo
        have f0 : a.eval (.tmp 12) = .int .i64 (nOut b s) := hd ⟨3, .data⟩ (by simp) (by rfl)
        have f1 : a.eval (.tmp 13) = placeF nb := hd ⟨4, .data⟩ (by simp) (by rfl)
        refine cx_fun rfl 105 _ _ #[.int .i64 (nOut b s), placeF nb] rfl (by rw [← f0, ← f1]; simp only [List.map_toArray, List.map_cons, List.map_nil]) eg_ones ?_
        refine (onesC_any g nb b (nOut b s) (SB2 b s 1) y hl (by have := lt_numS b (numS b 1 s).2; unfold nOut; omega) (HS2.out 1) (hEx.grown hJ.1).num hJ.2).mono ?_
        rintro e y' ⟨A, c, rfl, hO, hR', hg'⟩
        exact ⟨_, rfl, hK _ y' ⟨A, c, rfl, hO.less hJ.1.size⟩ hg' ⟨grown_trans hJ.1 hg', hR'⟩⟩
    case hlast2 =>
      intro o ho vals2 y hJ hF
      have hoo := Option.some.inj ho
      subst hoo
      obtain ⟨A1, c1, A2, c2, fv, q1, q2⟩ : ∃ A1 c1 A2 c2, vals2 15 = .agg #[.slice A1 (nIn b s) c1, .slice A2 (nOut b s) c2] ∧ OwnI y x.heap.size (.slice A1 (nIn b s) c1) (barS b s).1.1 ∧ OwnI y x.heap.size (.slice A2 (nOut b s) c2) (barS b s).1.2 := hF 6 (by decide)
      have hqy : y.heap[w.heap.size]? = some (.cells #[.slice none 0 0, .slice none 0 0] 49 (0, 0)) := by rw [hJ.1.block _ hsx (fun e => by have := Option.some.inj e; omega)]; exact hqx
      simp only [fillA, fillL, List.contains_cons, List.contains_nil, Nat.reduceBEq, Bool.or_false, Bool.false_or, Bool.or_true, Bool.true_or, cond_true, cond_false, Nat.zero_add, Nat.reduceAdd]
      refine ox_skip rfl rfl (run_store_box (.tmp 2) (.tmp 15) rfl w.heap.size _ #[.slice A1 (nIn b s) c1, .slice A2 (nOut b s) c2] _ y rfl fv hz hqy rfl (by simp [Value.oneCell'])) ?_
      have hq2 := setRow_at (cs := #[.slice A1 (nIn b s) c1, .slice A2 (nOut b s) c2]) hqy
      have hb2 := setRow_below (w := y) (q := w.heap.size) #[.slice A1 (nIn b s) c1, .slice A2 (nOut b s) c2] (Nat.le_refl w.heap.size)
      have hfar : ∀ k, k ≠ w.heap.size → (y.setRow w.heap.size #[.slice A1 (nIn b s) c1, .slice A2 (nOut b s) c2]).heap[k]? = y.heap[k]? := fun k hk => setRow_far _ _ _ hk
      obtain ⟨w2, hw2⟩ : ∃ w2, w2 = y.setRow w.heap.size #[.slice A1 (nIn b s) c1, .slice A2 (nOut b s) c2] := ⟨_, rfl⟩
      rw [← hw2] at hq2 hb2 hfar ⊢
      clear hw2
      have HR2 : Hid (Rd g b (barS b s).2 w2) := Lib.hid (hJ.2.below hb2 hgl)
      have HG2 := Lib.hid (grown_below (grown_trans hgx hJ.1) hb2)
      have HO1 : Hid (OwnI w2 w.heap.size (.slice A1 (nIn b s) c1) (barS b s).1.1) := Lib.hid (OwnI.less (other_own q1 hqy (by decide) hfar) (by omega))
      have HO2 : Hid (OwnI w2 w.heap.size (.slice A2 (nOut b s) c2) (barS b s).1.2) := Lib.hid (OwnI.less (other_own q2 hqy (by decide) hfar) (by omega))
      have k0 := cell_of_row w2 w.heap.size 0 _ _ _ hq2
      have k1 := cell_of_row w2 w.heap.size 1 _ _ _ hq2
      simp at k0 k1
      clear hq2 hb2 hJ hF hqx hz q1 q2 hfar hqy
      go_wp2
      refine bodyPost_ret (v := .agg #[.slice A1 (nIn b s) c1, .slice A2 (nOut b s) c2]) ?_ rfl ⟨_, _, rfl, HO1.out, HO2.out, HR2.out, HG2.out⟩
      simp [results, Tryz.results104, go_sem, k0, k1]
end Go.Proofs.YtlimcimioeepaaaGreatDoor
