/- The contracts of wire.split and wire.Cut in the seat Ytmnmfbfjlafgbaa. No statement is proved here. -/
import Derived.Test.YtmnmfbfjlafgbaaChecked
import Derived.Test.YtmnmfbfjlafgbaaMem
import Derived.Test.YtmnmfbfjlafgbaaRowMath
import Derived.Laws.MakeOwn
import Derived.Laws.Rows
import Derived.Laws.Slices
import Derived.Laws.IdiomStrings
import Derived.Deep.QuietTactic
import Derived.BigQuiet
import Derived.WalkSmall
import Derived.Outline
set_option linter.unusedVariables false
namespace Go.Proofs.Ytmnmfbfjlafgbaa
open Go.RowKit

theorem byte_size (W : World) : (Go.sizeOf (Try.prog.elem 42)).run Try.prog W = .ok 1 W := by kernel_rfl
theorem front_cut (g o n c k : Nat) (hk : k ≤ n) (hc : n ≤ c) (W : World) : (Instr.sliceAt 42 (.slice (some ⟨g, o, none⟩) n c) none (some (.int .i64 k)) (some (.int .i64 k))).run Try.prog W = .ok (.slice (some ⟨g, o, none⟩) k k) W := by
  have h := run_slice_hm (P := Try.prog) W 42 (some ⟨g, o, none⟩) n c Try.underlying42 .i64 .i64 k k (by omega) (by omega) (by omega)
  rw [run_sliceAt_slice W 42 _ _ _ _ Try.underlying42, h, byte_size, Result.andThen_ok]
  unfold sliced
  simp only [Int.toNat_natCast, Nat.sub_zero, Nat.zero_mul, Option.map_some, addr_add, Nat.add_zero, ite_self]
theorem back_cut (g o n c k : Nat) (hk : k ≤ n) (hc : n ≤ c) : ∃ o2 : Nat, (k < n → o2 = o + k) ∧ ∀ W : World, (Instr.sliceAt 42 (.slice (some ⟨g, o, none⟩) n c) (some (.int .i64 k)) none none).run Try.prog W = .ok (.slice (some ⟨g, o2, none⟩) (n - k) (c - k)) W := by
  refine ⟨if c = k then o else o + k, fun h => if_neg (by omega), fun W => ?_⟩
  have h := run_slice_l (P := Try.prog) W 42 (some ⟨g, o, none⟩) n c Try.underlying42 .i64 k (by omega) (by omega)
  rw [run_sliceAt_slice W 42 _ _ _ _ Try.underlying42, h, byte_size, Result.andThen_ok]
  unfold sliced
  by_cases hck : c = k
  · simp [hck]
  · simp [hck, addr_add]
theorem split_any (g o n c k : Nat) (hk : k ≤ n) (hc : n ≤ c) : ∃ o2 : Nat, (k < n → o2 = o + k) ∧ ∀ w : World,
    Calls Try.prog 27 #[.slice (some ⟨g, o, none⟩) n c, .int .i64 k] w fun e w' => e = .returned (.tuple #[.slice (some ⟨g, o, none⟩) k k, .slice (some ⟨g, o2, none⟩) (n - k) (c - k)]) ∧ ∃ N, w' = w.drewN N := by
  obtain ⟨o2, h2, f2⟩ := back_cut g o n c k hk hc
  have f1 := fun W => front_cut g o n c k hk hc W
  refine ⟨o2, h2, fun w => ?_⟩
  clear h2 hk hc
  go_enter Try.func27, Try.ntmps27
  go_wp2
  go_quiet (fail)
  go_wp2
  go_ret2
  exact ⟨rfl, _, rfl⟩

/-- '[]byte(s)': a new row of the string's bytes. -/
theorem to_bytes (s : ByteArray) (w : World) : ∃ (c : Nat) (W1 : World), (convert 9 42 (.string s)).run Try.prog w = .ok (.slice (some ⟨w.heap.size, 0, none⟩) s.size c) W1 ∧ s.size ≤ c ∧ w.heap.size < W1.heap.size ∧
    (∀ j (hj : j < s.data.toList.length), W1.cell? ⟨w.heap.size, j, none⟩ = some (.int .u8 (s.data.toList[j].toNat : Int))) ∧ Below w.heap.size w W1 := by
  refine ⟨grownCap w s.size 0 5, _, run_bytes_of_string w 9 42 5 s Try.underlying9 Try.underlying42 Try.underlying5, grownCap_ge _ _ _ _, by simp, fun j hj => ?_, ?_⟩
  · have hg : (w.drew.alloc (.cells (bytesRow s (grownCap w s.size 0 5)) 5 ((bytesRow s (grownCap w s.size 0 5)).size, (bytesRow s (grownCap w s.size 0 5)).size + 1))).heap[w.heap.size]? = some (.cells (bytesRow s (grownCap w s.size 0 5)) 5 ((bytesRow s (grownCap w s.size 0 5)).size, (bytesRow s (grownCap w s.size 0 5)).size + 1)) := heap_alloc_new w.drew _
    rw [cell_of_row _ _ _ _ _ _ hg]
    unfold bytesRow
    have hj' : j < s.data.size := by simpa using hj
    rw [Array.getElem?_append_left (by simpa using hj'), Array.getElem?_map, Array.getElem?_eq_getElem hj']
    rfl
  · exact (Below.refl _ _).drew.alloc (Nat.le_refl _) _
theorem string_info : (Try.prog.info? 9).map (fun i => (i.zero, i.size, i.bytes)) = some (some (.string ⟨#[]⟩), 1, 16) := by kernel_rfl
theorem make_texts (n : Nat) (hn : n ≤ 1000) : ∃ Z : Array Value, Z.size = n ∧ ∀ W : World, (Instr.makeSlice 37 (.int .i64 n) (.int .i64 n)).run Try.prog W = .ok (.slice (some ⟨W.heap.size, 0, none⟩) n n) (W.alloc (.cells Z 9)) := by
  obtain ⟨i0, hi, hz0, hz1, hz2⟩ := info_parts string_info
  refine ⟨madeCells (Value.string ⟨#[]⟩).cells (n * 1), by simp [size_madeCells], fun W => ?_⟩
  have h := run_make (P := Try.prog) W 37 9 i0 (.string ⟨#[]⟩) Try.underlying37 hi hz0 .i64 .i64 n n (by omega) (by omega) (by rw [hz2]; omega) (by omega)
  rw [hz1] at h
  exact h

/-- How far the first sizes reach, and whether all of them fit. -/
def off (zs : List Int) (j : Nat) : Nat := ((zs.take j).map Int.toNat).sum
def Fit (n : Nat) (zs : List Int) (k : Nat) : Prop := ∀ j z, j < k → zs[j]? = some z → 0 ≤ z ∧ off zs (j + 1) ≤ n
theorem off_step {zs : List Int} {j : Nat} {z : Int} (h : zs[j]? = some z) : off zs (j + 1) = off zs j + z.toNat := by
  unfold off
  rw [take_snoc' h, List.map_append, List.sum_append]
  simp
/-- The bytes of the j-th part. -/
def part (l : List UInt8) (zs : List Int) (j : Nat) : List UInt8 := (l.drop (off zs j)).take (zs.getD j 0).toNat
def CutPost (l : List UInt8) (zs : List Int) (w : World) (e : Ending) (w' : World) : Prop :=
  (¬ Fit l.length zs zs.length ∧ e = .returned (.tuple #[.slice none 0 0, .string ⟨#[]⟩, .int .i64 21]) ∧ Below w.heap.size w w') ∨
  (Fit l.length zs zs.length ∧ ∃ g, e = .returned (.tuple #[.slice (some ⟨g, 0, none⟩) zs.length zs.length, .string ⟨(l.drop (off zs zs.length)).toArray⟩, .int .i64 0]) ∧ g < w'.heap.size ∧
    (∀ j, j < zs.length → w'.cell? ⟨g, j, none⟩ = some (.string ⟨(part l zs j).toArray⟩)) ∧ Below w.heap.size w w')
theorem conv_part (l : List UInt8) (g o a k c : Nat) (W : World) (hk : a + k ≤ l.length) (ho : 0 < k → o = a) (hc : ∀ j (hj : j < l.length), W.cell? ⟨g, j, none⟩ = some (.int .u8 (l[j].toNat : Int))) :
    (convert 42 9 (.slice (some ⟨g, o, none⟩) k c)).run Try.prog W = .ok (.string ⟨((l.drop a).take k).toArray⟩) W := by
  have hl : ((l.drop a).take k).length = k := by rw [List.length_take, List.length_drop]; omega
  have h := run_convert_bytes_back W 42 9 5 ⟨g, o, none⟩ c ((l.drop a).take k) Try.underlying42 Try.underlying5 Try.underlying9 (fun j hj => by
    rw [hl] at hj
    rw [addr_add, ho (by omega), hc (a + j) (by omega)]
    simp)
  rw [hl] at h
  exact h

set_option maxRecDepth 100000 in
set_option maxHeartbeats 2000000 in
theorem cut_any (s : ByteArray) (A : Option Addr) (cap : Nat) (zs : List Int) (w : World) (hs : s.size ≤ 1000) (hl : zs.length ≤ 1000) (hI : Ints w w.heap.size A zs) :
    Calls Try.prog 17 #[.string s, .slice A zs.length cap] w (CutPost s.data.toList zs w) := by
  obtain ⟨c0, W1, hcv, hc0, hlt1, hcell1, hb1⟩ := to_bytes s w
  obtain ⟨Z, hZ, hmk⟩ := make_texts zs.length hl
  obtain ⟨len, hlen⟩ : ∃ len, len = zs.length := ⟨_, rfl⟩
  have HP : Hid (∀ (g : Nat) (l : List UInt8), l = s.data.toList → l.length = s.size) := Lib.hid (fun _ l h => by rw [h]; rfl)
  obtain ⟨l, hl2⟩ : ∃ l, l = s.data.toList := ⟨_, rfl⟩
  have HS := Lib.hid (HP.out 0 l hl2)
  rw [← hl2]
  have hcell2 : ∀ j (hj : j < l.length), W1.cell? ⟨w.heap.size, j, none⟩ = some (.int .u8 (l[j].toNat : Int)) := by subst hl2; exact hcell1
  rw [← hlen] at hmk hl hZ ⊢
  have HL := Lib.hid hlen
  have HI := Lib.hid hI
  have HZ := Lib.hid hZ
  have HC := Lib.hid hcell2
  clear hlen hI hZ hcell1 hcell2 hl2 HP
  go_enter Try.func17, Try.ntmps17
  go_wp2
  have hg1 := heap_alloc_new W1 (.cells Z 9)
  go_loopw [7, 19] (fun v i wr => ∃ (j n o c : Nat) (cur : Array Value), j ≤ len ∧ i = .int .i64 j ∧ v = .slice (some ⟨w.heap.size, o, none⟩) n c ∧ n ≤ c ∧ n ≤ 1000 ∧ Hid (n + off zs j = s.size) ∧ Hid (0 < n → o = off zs j) ∧ Hid (Fit s.size zs j) ∧ Hid (cur.size = len) ∧
      Hid (wr.heap[W1.heap.size]? = some (.cells cur 9 (0, 0))) ∧ Hid (∀ k, k < j → cur[k]? = some (.string ⟨(part l zs k).toArray⟩)) ∧
      Hid (∀ k (hk : k < l.length), wr.cell? ⟨w.heap.size, k, none⟩ = some (.int .u8 (l[k].toNat : Int))) ∧ Below w.heap.size w wr) (fun _ i _ => len - (intOf i).toNat)
  case atStart => exact ⟨0, s.size, 0, c0, Z, Nat.zero_le _, rfl, rfl, hc0, hs, Lib.hid (by simp [off]), Lib.hid (fun _ => by simp [off]), Lib.hid (fun j z hj => absurd hj (by omega)), HZ, Lib.hid hg1, Lib.hid (fun k hk => absurd hk (by omega)),
    Lib.hid (fun k hk => by rw [World.cell?_alloc_lt _ _ _ hlt1]; exact HC.out k hk), hb1.alloc hb1.size _⟩
  case round =>
    obtain ⟨j, n, o, c, cur, hj, rfl, rfl, hnc, hn, HN, HO, HF, HCS, HG, HV, HB, hbel⟩ := hrel
    have hgl : W1.heap.size < wr.heap.size := by
      rcases Nat.lt_or_ge W1.heap.size wr.heap.size with h | h
      · exact h
      · have := HG.out; rw [Array.getElem?_eq_none h] at this; cases this
    by_cases hlt : j < len
    · obtain ⟨b, ofs, z, rfl, hbg, hzj, hcell⟩ := HI.out.at_ (k := j) (by rw [← HL.out]; exact hlt)
      have hcell' : wr.cell? ⟨b, ofs + j, none⟩ = some (.int .i64 z) := (hbel.cell hbg).trans hcell
      have HJ := Lib.hid hzj
      clear hzj hcell
      by_cases h0 : z < 0
      · have d0 : decide (z < 0) = true := by simpa using h0
        go_wp2
        go_ret3
        exact .inl ⟨fun hf => by have := (hf j z (by rw [← HL.out]; exact hlt) HJ.out).1; omega, rfl, hbel⟩
      · have d0 : decide (z < 0) = false := by simpa using h0
        by_cases h1 : (n : Int) < z
        · have d1 : decide ((n : Int) < z) = true := by simpa using h1
          go_wp2
          go_ret3
          exact .inl ⟨fun hf => by
            have h2 := (hf j z (by rw [← HL.out]; exact hlt) HJ.out).2
            rw [off_step HJ.out, HS.out] at h2
            have := HN.out
            omega, rfl, hbel⟩
        · obtain ⟨k, rfl⟩ : ∃ k : Nat, z = k := ⟨z.toNat, by omega⟩
          have hk : k ≤ n := by omega
          have d1 : decide (n < k) = false := by simpa using hk
          clear h0 h1
          obtain ⟨o2, h2, SP⟩ := split_any w.heap.size o n c k hk hnc
          have HSP := Lib.hid SP
          have H2 := Lib.hid h2
          clear SP h2
          go_wp2_with fail
          refine (HSP.out wr).mono ?_
          rintro e w2 ⟨rfl, N, rfl⟩
          have hcp := conv_part l w.heap.size o (off zs j) k k (wr.drewN N) (by rw [HS.out]; have := HN.out; omega) (fun h => HO.out (by omega)) HB.out
          have hc2 : wr.cell? ⟨W1.heap.size, j, none⟩ = some (cur[j]'(by rw [HCS.out]; exact hlt)) := by rw [cell_of_row _ _ _ _ _ _ HG.out, Array.getElem?_eq_getElem]
          have hf2 : wr.frozen? ⟨W1.heap.size, j, none⟩ = false := frozen_of_row _ _ _ _ _ HG.out
          go_wp2
          go_roundw
          case rel => exact ⟨j + 1, n - k, o2, c - k, cur.setIfInBounds j (.string ⟨((l.drop (off zs j)).take k).toArray⟩), by omega, by go_num, rfl, by omega, by omega, Lib.hid (by rw [off_step HJ.out, Int.toNat_natCast]; have := HN.out; omega),
            Lib.hid (fun h => by rw [H2.out (by omega), HO.out (by omega), off_step HJ.out, Int.toNat_natCast]),
            Lib.hid (fun i z hi hz => by
              rcases Nat.lt_or_ge i j with h | h
              · exact HF.out i z h hz
              · obtain rfl : i = j := by omega
                have e : some z = some (k : Int) := hz.symm.trans HJ.out
                injection e with e
                subst e
                refine ⟨by omega, ?_⟩
                rw [off_step HJ.out, Int.toNat_natCast]
                have := HN.out
                omega),
            Lib.hid (by rw [Array.size_setIfInBounds]; exact HCS.out), Lib.hid (heap_setCell_same _ _ _ _ _ _ HG.out),
            Lib.hid (fun i hi => by
              rcases Nat.lt_or_ge i j with h | h
              · rw [Array.getElem?_setIfInBounds_ne (by omega)]; exact HV.out i h
              · obtain rfl : i = j := by omega
                rw [Array.getElem?_setIfInBounds_self_of_lt (by rw [HCS.out]; exact hlt)]
                unfold part
                rw [List.getD_eq_getElem?_getD, HJ.out]
                rfl),
            Lib.hid (fun i hi => by
              refine Eq.trans ?_ (HB.out i hi)
              exact World.cell?_setCell_other _ _ _ _ (fun e => by injection e with e; omega)), (below_drewN hbel N).setCell (by show w.heap.size ≤ W1.heap.size; omega) _⟩
          case measure => simp [intOf]; omega
    · obtain rfl : j = len := by omega
      have hcl := fun N => conv_part l w.heap.size o (off zs j) n c (wr.drewN N) (by rw [HS.out]; have := HN.out; omega) (fun h => HO.out (by omega)) HB.out
      have e1 : (l.drop (off zs j)).take n = l.drop (off zs j) := List.take_of_length_le (by rw [List.length_drop, HS.out]; have := HN.out; omega)
      rw [e1] at hcl
      clear e1
      go_wp2
      go_quiet (fail)
      go_wp2
      go_ret3
      refine .inr ⟨?_, W1.heap.size, ?_, hgl, ?_, below_drewN hbel _⟩
      · rw [HS.out, ← HL.out]; exact HF.out
      · rw [← HL.out]; rfl
      · intro i hi
        rw [← HL.out] at hi
        show wr.cell? _ = _
        rw [cell_of_row _ _ _ _ _ _ HG.out]
        exact HV.out i hi
end Go.Proofs.Ytmnmfbfjlafgbaa
