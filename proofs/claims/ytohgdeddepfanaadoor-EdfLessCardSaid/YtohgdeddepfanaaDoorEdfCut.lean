/- Parts of a slice of shapes; 'append' of shapes to a list of the call's own, in the seat YtohgdeddepfanaaDoor. No statement is proved here. -/
import Derived.Test.YtohgdeddepfanaaDoorEdfAwake
import Derived.Test.YtohgdeddepfanaaDoorFacts
import Derived.Test.YtohgdeddepfanaaDoorFxMake
import Derived.Test.YtohgdeddepfanaaDoorPushed
set_option linter.unusedVariables false
set_option linter.unusedSimpArgs false
namespace Go.Proofs.YtohgdeddepfanaaDoor
open Go Go.RowKit

theorem shapes_under : Tryd.prog.underlying 22 = some (.slice (Tryd.prog.elem 22)) := by kernel_rfl
theorem shapes_size (W : World) : (sizeOf (Tryd.prog.elem 22)).run Tryd.prog W = .ok 5 W := by kernel_rfl
theorem cut_h (b off n c k : Nat) (hk : k ≤ n) (hc : n ≤ c) (W : World) : (Instr.sliceAt 22 (.slice (some ⟨b, off, none⟩) n c) none (some (.int .i64 k)) none).run Tryd.prog W = .ok (.slice (some ⟨b, off, none⟩) k c) W := by
  rw [run_sliceAt_slice (h := shapes_under), run_slice_h (ht := shapes_under) (h0 := by omega) (h2 := by omega), shapes_size]
  simp [Result.andThen, sliced, Addr.add]
/-- Where 'l[i:]' begins. -/
def cutA (b off c i : Nat) : Addr := if i = c then ⟨b, off, none⟩ else ⟨b, off + i * 5, none⟩
theorem cut_l (b off n c i : Nat) (hi : i ≤ n) (hc : n ≤ c) (W : World) : (Instr.sliceAt 22 (.slice (some ⟨b, off, none⟩) n c) (some (.int .i64 i)) none none).run Tryd.prog W = .ok (.slice (some (cutA b off c i)) (n - i) (c - i)) W := by
  rw [run_sliceAt_slice (h := shapes_under), run_slice_l (ht := shapes_under) (h0 := by omega) (h1 := by omega), shapes_size]
  simp only [Result.andThen, sliced, cutA, Int.toNat_natCast]
  by_cases h : i = c
  · rw [if_pos h.symm, if_pos h]
  · rw [if_neg (fun e => h e.symm), if_neg h]
    simp only [Option.map_some, Addr.add]
    split
    · rename_i h5
      obtain rfl : i = 0 := by omega
      simp
    · rfl
theorem Shps.cutL {w : World} {B b off c n i : Nat} {es : List Shp} (h : Shps w B (some ⟨b, off, none⟩) es) (hn : es.length = n) (hc : n ≤ c) : Shps w B (some (cutA b off c i)) (es.drop i) := by
  by_cases hi : i = c
  · have : es.drop i = [] := List.drop_eq_nil_of_le (by omega)
    rw [this]
    exact Shps.nil _ _ _
  · unfold cutA
    rw [if_neg hi]
    have := h.cut i (es.drop i).length
    rw [List.take_length] at this
    exact this
theorem Shps.cutH {w : World} {B b off k : Nat} {es : List Shp} (h : Shps w B (some ⟨b, off, none⟩) es) : Shps w B (some ⟨b, off, none⟩) (es.take k) := by
  have := h.cut 0 k
  simpa using this
set_option maxHeartbeats 1000000 in
theorem app_shps {w : World} {base : Nat} {v : Value} {xs : List Shp} (hO : OwnS w base v xs) (hb : base ≤ w.heap.size) {ad : Addr} {m c : Nat} {ys : List Shp} (hm : ys.length = m) (hl : xs.length + m ≤ 1000) (hI : Shps w w.heap.size (some ad) ys) :
    ∃ v' w', (Builtin.append_ #[22, 22] 22 #[v, .slice (some ad) m c]).run Tryd.prog w = .ok v' w' ∧ OwnS w' base v' (xs ++ ys) ∧ Below base w w' := by
  obtain ⟨i0, hi, hz0, hz1, hz2⟩ := shape_info
  subst hm
  obtain ⟨v', w', hr, ho, hg, -⟩ := run_append_own (P := Tryd.prog) w base 22 22 34 i0 (.agg #[.int .i64 0, .int .i64 0, .int .i64 0, .int .i64 0, .int .i64 0]) 5 40 Tryd.underlying22 hi hz0 hz1 hz2 rfl (by decide) v xs.length (flatS xs) hO ad ys.length c (flatS ys) (flatS_length ys) hI.news (flatS_one ys) (by unfold maxLen; omega) (by omega) hb
  refine ⟨v', w', hr, ?_, (Below.refl base w).grown hg hb fun k hk => ?_⟩
  · unfold OwnS
    rw [flatS_app, List.length_append]
    exact ho
  · rcases hO.2 with ⟨rfl, _⟩ | ⟨g, cap, cur, rfl, hgb, _⟩
    · simp [Value.ownBlock] at hk
    · simp [Value.ownBlock] at hk
      omega
theorem wpList_unguardS {P : Program} {ops : Array Oper} {rest : List Oper} {o : Oper} {a : Act} {w : World} {Q : Exit → Act → World → Prop} (hw : Region.wanted o (yielded ops a.tmps) = true) (h : wpList P ops Q ({ o with guard := none } :: rest) a w) : wpList P ops Q (o :: rest) a w := by
  unfold wpList at h ⊢
  rw [if_pos hw]
  rw [if_pos (by simp [Region.wanted])] at h
  exact h
end Go.Proofs.YtohgdeddepfanaaDoor
