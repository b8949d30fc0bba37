/- The walk of the law PartFirst over what its row hands over, in the seat YtngdbbligebcbaaDoor.
   'append(l[:k], l[k+1:]...)' of a list of one's own (shapes; integers), as one step of a region that draws, in the seat YtngdbbligebcbaaDoor.
   No statement is proved here. -/
import Derived.Test.YtngdbbligebcbaaDoorZPartFirstWalk
import Derived.Test.YtngdbbligebcbaaDoorZM11
import Derived.Test.YtngdbbligebcbaaDoorZM10
import Derived.Test.YtngdbbligebcbaaDoorZM7
import Derived.Deep.RegionLaw
import Derived.Deep.Cut
set_option linter.unusedSimpArgs false
set_option linter.unusedVariables false
namespace Go.Proofs.YtngdbbligebcbaaDoor
open Go Go.RowKit
theorem walk_PartFirst {A : Option Addr} {n c : Nat} {es : List Shp} (w : World) (g : InShps w A n c es) (m : Int) (hm : -9223372036854775808 ≤ m ∧ m ≤ 9223372036854775807) (hT : DTab w) :
    Calls Tryd.prog 7 #[.slice A n c, .int .i64 m] w fun e w' => e = .returned (.bool true) ∧ Below w.heap.size w w' := law_PartFirst m w hT g.hn g.shps g.hA
end Go.Proofs.YtngdbbligebcbaaDoor
set_option linter.unusedVariables false
set_option linter.unusedSimpArgs false
namespace Go.Proofs.YtngdbbligebcbaaDoor
open Go Go.RowKit

theorem und16S : Tryd.prog.underlying 22 = some (.slice (Tryd.prog.elem 22)) := by kernel_rfl
theorem siz16S (W : World) : (sizeOf (Tryd.prog.elem 22)).run Tryd.prog W = .ok 5 W := by kernel_rfl
theorem und16I : Tryd.prog.underlying 24 = some (.slice (Tryd.prog.elem 24)) := by kernel_rfl
theorem siz16I (W : World) : (sizeOf (Tryd.prog.elem 24)).run Tryd.prog W = .ok 1 W := by kernel_rfl
/-- Where 'l[i:]' begins, of elements of s cells. -/
def cutP (s g c i : Nat) : Addr := if i = c then ⟨g, 0, none⟩ else ⟨g, i * s, none⟩
theorem cutP_h (g n c k : Nat) (hk : k ≤ n) (hc : n ≤ c) (W : World) : (Instr.sliceAt 22 (.slice (some ⟨g, 0, none⟩) n c) none (some (.int .i64 (k : Int))) none).run Tryd.prog W = .ok (.slice (some ⟨g, 0, none⟩) k c) W := by
  rw [run_sliceAt_slice (h := und16S), run_slice_h (ht := und16S) (h0 := by omega) (h2 := by omega), siz16S]
  simp [Result.andThen, sliced, Addr.add]
theorem cutP_l (g n c i : Nat) (hi : i ≤ n) (hc : n ≤ c) (W : World) : (Instr.sliceAt 22 (.slice (some ⟨g, 0, none⟩) n c) (some (.int .i64 (i : Int))) none none).run Tryd.prog W = .ok (.slice (some (cutP 5 g c i)) (n - i) (c - i)) W := by
  rw [run_sliceAt_slice (h := und16S), run_slice_l (ht := und16S) (h0 := by omega) (h1 := by omega), siz16S]
  simp only [Result.andThen, sliced, cutP, Int.toNat_natCast]
  by_cases h : i = c
  · rw [if_pos h.symm, if_pos h]
  · rw [if_neg (fun e => h e.symm), if_neg h, Option.map_some, addr_add, Nat.zero_add]
theorem cutQ_h (g n c k : Nat) (hk : k ≤ n) (hc : n ≤ c) (W : World) : (Instr.sliceAt 24 (.slice (some ⟨g, 0, none⟩) n c) none (some (.int .i64 (k : Int))) none).run Tryd.prog W = .ok (.slice (some ⟨g, 0, none⟩) k c) W := by
  rw [run_sliceAt_slice (h := und16I), run_slice_h (ht := und16I) (h0 := by omega) (h2 := by omega), siz16I]
  simp [Result.andThen, sliced, Addr.add]
theorem cutQ_l (g n c i : Nat) (hi : i ≤ n) (hc : n ≤ c) (W : World) : (Instr.sliceAt 24 (.slice (some ⟨g, 0, none⟩) n c) (some (.int .i64 (i : Int))) none none).run Tryd.prog W = .ok (.slice (some (cutP 1 g c i)) (n - i) (c - i)) W := by
  rw [run_sliceAt_slice (h := und16I), run_slice_l (ht := und16I) (h0 := by omega) (h1 := by omega), siz16I]
  simp only [Result.andThen, sliced, cutP, Int.toNat_natCast]
  by_cases h : i = c
  · rw [if_pos h.symm, if_pos h]
  · rw [if_neg (fun e => h e.symm), if_neg h, Option.map_some, addr_add, Nat.zero_add]
/-- A part of an own row, from its beginning, and what lies behind. -/
theorem row_pull {w : World} {base g n c s : Nat} {e : TypeId} {xs : List Value} (h : w.ownsRow base e s (.slice (some ⟨g, 0, none⟩) n c) n xs) {k : Nat} (hk : k ≤ n) : w.ownsRow base e s (.slice (some ⟨g, 0, none⟩) k c) k (xs.take (k * s)) := by
  rcases h.2 with ⟨q, _⟩ | ⟨g', cap, cur, q, hg, hgg, hnc, hcm, hcs, ht⟩
  · cases q
  · injection q with q1 q2 q3
    injection q1 with q1
    injection q1 with q1
    subst q1 q3
    have hl := h.1
    have hks : k * s ≤ n * s := Nat.mul_le_mul_right s hk
    exact ⟨by rw [List.length_take]; omega, .inr ⟨g, c, cur, rfl, hg, hgg, by omega, hcm, hcs, by rw [← ht, List.take_take, Nat.min_eq_left hks]⟩⟩
theorem row_rest {w : World} {base g n c s : Nat} {e : TypeId} {xs : List Value} (h : w.ownsRow base e s (.slice (some ⟨g, 0, none⟩) n c) n xs) {i : Nat} : ∀ j u, (xs.drop (i * s))[j]? = some u → n ≤ c → i ≤ n → w.cell? ((cutP s g c i).add j) = some u := fun j u hu hc hi => by
  rcases h.2 with ⟨q, _⟩ | ⟨g', cap, cur, q, hg, hgg, hnc, hcm, hcs, ht⟩
  · cases q
  · injection q with q1 q2 q3
    injection q1 with q1
    injection q1 with q1
    subst q1 q3
    have hl := h.1
    rw [List.getElem?_drop] at hu
    have hj : i * s + j < n * s := by have := (List.getElem?_eq_some_iff.mp hu).1; omega
    have hne : i ≠ c := fun e => by
      subst e
      have : i = n := by omega
      subst this
      omega
    unfold cutP
    rw [if_neg hne, addr_add, cell_of_row w g (i * s + j) _ _ _ hgg, ← Array.getElem?_toList, ← hu, ← ht, List.getElem?_take, if_pos hj]
theorem step_pull16 {ops : Array Oper} {o : Oper} {a : Act} {W : World} {Q : Exit → Act → World → Prop} {K : Act → World → Prop} {E : Prop} (hgd : o.guard = none) (s x : Operand) (t e : TypeId)
    (ho : o.op = .call { callee := .builtin .append, args := #[s, x], argTypes := #[t, t] }) (hty : o.type = t) (i : TypeInfo) (z : Value) (size bytes : Nat) (hu : Tryd.prog.underlying t = some (.slice e)) (hi : Tryd.prog.info? e = some i) (hz : i.zero = some z) (hs1 : i.size = size) (hb1 : i.bytes = bytes) (hzs : z.cells.size = size) (hs0 : 0 < size) (hby : bytes ≤ 48)
    (base g n c k : Nat) (xs : List Value) (h1 : ∀ u ∈ xs, u.oneCell' = true) (hO : W.ownsRow base e size (.slice (some ⟨g, 0, none⟩) n c) n xs) (hk : k < n) (hn : n ≤ 500) (hc : n ≤ c) (hB : base ≤ W.heap.size)
    (hs : a.eval s = .slice (some ⟨g, 0, none⟩) k c) (hx : a.eval x = .slice (some (cutP size g c (k + 1))) (n - (k + 1)) (c - (k + 1)))
    (h : ∀ F d w', w'.ownsRow base e size (.slice F (n - 1) d) (n - 1) (xs.take (k * size) ++ xs.drop ((k + 1) * size)) → RXs e base (some g) W w' → K (a.put o.dst (.slice F (n - 1) d)) w') :
    if Region.wanted o (yielded ops a.tmps) = true then Oper.wp Tryd.prog o a W K Q else E := by
  have hw : Region.wanted o (yielded ops a.tmps) = true := by simp [Region.wanted, hgd]
  rw [if_pos hw]
  have hP := row_pull hO (Nat.le_of_lt hk)
  have hl := hO.1
  have hlen : (xs.drop ((k + 1) * size)).length = (n - (k + 1)) * size := by rw [List.length_drop, hl, Nat.sub_mul]
  have h500 : (n * 2) * bytes ≤ 1000 * 48 := Nat.mul_le_mul (by omega) hby
  have hbb : (k + (n - (k + 1))) * bytes ≤ (n * 2) * bytes := Nat.mul_le_mul_right _ (by omega)
  have hb2 : (n - (k + 1)) * bytes ≤ (n * 2) * bytes := Nat.mul_le_mul_right _ (by omega)
  obtain ⟨v', w', hr, how, hg, hat⟩ := run_append_own (P := Tryd.prog) W base t t e i z size bytes hu hi hz hs1 hb1 hzs hs0 (.slice (some ⟨g, 0, none⟩) k c) k (xs.take (k * size)) hP (cutP size g c (k + 1)) (n - (k + 1)) (c - (k + 1)) (xs.drop ((k + 1) * size)) hlen
    (fun j u hu => row_rest hO j u hu hc (by omega)) (fun u hu => h1 u (List.mem_of_mem_drop hu)) (by unfold maxLen; omega) (by omega) hB
  have e1 : k + (n - (k + 1)) = n - 1 := by omega
  rw [e1] at how
  obtain ⟨F, d, rfl⟩ : ∃ F d, v' = .slice F (n - 1) d := by
    rcases how.2 with ⟨rfl, q⟩ | ⟨g', cap, cur, rfl, _⟩
    · exact ⟨none, 0, by rw [q]⟩
    · exact ⟨_, _, rfl⟩
  have hlt := row_lts hO
  unfold Oper.wp
  rw [exec_append16 (ρ := a.eval) s x t _ _ ho hs hx (by rw [hty]; exact hr), Oper.upon_value]
  exact h F d w' how (.inr ⟨hg, fun b hb => ⟨(hlt b hb).1, (hlt b hb).2.2⟩⟩)
theorem flatS_take (es : List Shp) (k : Nat) : (flatS es).take (k * 5) = flatS (es.take k) := by
  have e : flatS es = flatS (es.take k) ++ flatS (es.drop k) := by rw [← flatS_app, List.take_append_drop]
  rcases Nat.le_total k es.length with h | h
  · have hl : (flatS (es.take k)).length = k * 5 := by rw [flatS_length, List.length_take, Nat.min_eq_left h]
    rw [e, ← hl, List.take_left]
  · rw [List.take_of_length_le (by rw [flatS_length]; omega), List.take_of_length_le h]
theorem flatS_drop (es : List Shp) (k : Nat) (h : k ≤ es.length) : (flatS es).drop (k * 5) = flatS (es.drop k) := by
  have e : flatS es = flatS (es.take k) ++ flatS (es.drop k) := by rw [← flatS_app, List.take_append_drop]
  have hl : (flatS (es.take k)).length = k * 5 := by rw [flatS_length, List.length_take, Nat.min_eq_left h]
  rw [e, ← hl, List.drop_left]
/-- Of shapes, of integers. -/
theorem step_pullS {ops : Array Oper} {o : Oper} {a : Act} {W : World} {Q : Exit → Act → World → Prop} {K : Act → World → Prop} {E : Prop} (hgd : o.guard = none) (s x : Operand)
    (ho : o.op = .call { callee := .builtin .append, args := #[s, x], argTypes := #[22, 22] }) (hty : o.type = 22) (base g n c k : Nat) (es : List Shp) (hn : es.length = n) (hO : OwnS W base (.slice (some ⟨g, 0, none⟩) n c) es) (hk : k < n) (hl : n ≤ 500) (hc : n ≤ c) (hB : base ≤ W.heap.size)
    (hs : a.eval s = .slice (some ⟨g, 0, none⟩) k c) (hx : a.eval x = .slice (some (cutP 5 g c (k + 1))) (n - (k + 1)) (c - (k + 1)))
    (h : ∀ F d w', OwnS w' base (.slice F (n - 1) d) (es.take k ++ es.drop (k + 1)) → RXs 38 base (some g) W w' → K (a.put o.dst (.slice F (n - 1) d)) w') :
    if Region.wanted o (yielded ops a.tmps) = true then Oper.wp Tryd.prog o a W K Q else E := by
  obtain ⟨i0, hi, hz0, hz1, hz2⟩ := shape_info
  subst hn
  refine step_pull16 hgd s x 22 38 ho hty i0 _ 5 40 Tryd.underlying22 hi hz0 hz1 hz2 rfl (by decide) (by decide) base g es.length c k (flatS es) (flatS_one es) hO hk hl hc hB hs hx fun F d w' how hR => h F d w' ?_ hR
  have e : (es.take k ++ es.drop (k + 1)).length = es.length - 1 := by simp; omega
  unfold OwnS
  rw [e, flatS_app, ← flatS_take, ← flatS_drop es (k + 1) (by omega)]
  exact how
theorem step_pullI {ops : Array Oper} {o : Oper} {a : Act} {W : World} {Q : Exit → Act → World → Prop} {K : Act → World → Prop} {E : Prop} (hgd : o.guard = none) (s x : Operand)
    (ho : o.op = .call { callee := .builtin .append, args := #[s, x], argTypes := #[24, 24] }) (hty : o.type = 24) (base g n c k : Nat) (zs : List Int) (hn : zs.length = n) (hO : OwnI W base (.slice (some ⟨g, 0, none⟩) n c) zs) (hk : k < n) (hl : n ≤ 500) (hc : n ≤ c) (hB : base ≤ W.heap.size)
    (hs : a.eval s = .slice (some ⟨g, 0, none⟩) k c) (hx : a.eval x = .slice (some (cutP 1 g c (k + 1))) (n - (k + 1)) (c - (k + 1)))
    (h : ∀ F d w', OwnI w' base (.slice F (n - 1) d) (zs.take k ++ zs.drop (k + 1)) → RXs 3 base (some g) W w' → K (a.put o.dst (.slice F (n - 1) d)) w') :
    if Region.wanted o (yielded ops a.tmps) = true then Oper.wp Tryd.prog o a W K Q else E := by
  obtain ⟨i0, hi, hz0, hz1, hz2⟩ := int_info16
  subst hn
  refine step_pull16 hgd s x 24 3 ho hty i0 _ 1 8 Tryd.underlying24 hi hz0 hz1 hz2 rfl (by decide) (by decide) base g zs.length c k (zs.map (.int .i64)) (oneCell_ints zs) hO hk hl hc hB hs hx fun F d w' how hR => h F d w' ?_ hR
  have e : (zs.take k ++ zs.drop (k + 1)).length = zs.length - 1 := by simp; omega
  unfold OwnI
  rw [e, List.map_append, List.map_take, List.map_drop]
  simpa using how
end Go.Proofs.YtngdbbligebcbaaDoor
