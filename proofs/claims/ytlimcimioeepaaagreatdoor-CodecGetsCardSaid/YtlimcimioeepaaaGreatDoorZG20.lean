/- The contracts of strings.Builder's copyCheck and Write at a builder that is the call's own and in use, in the seat YtlimcimioeepaaaGreatDoor.
   The contracts of strings.Builder's copyCheck at a fresh builder and WriteString, at a builder of the call's own, in the seat YtlimcimioeepaaaGreatDoor.
   strings.Builder's WriteString at a builder of the call's own, and what it leaves as it was (blocks of other types), in the seat YtlimcimioeepaaaGreatDoor.
   The plain arithmetic of rows of numbers in the layer wire, in the seat YtlimcimioeepaaaGreatDoor.
   The contract of wire.Row in the seat YtlimcimioeepaaaGreatDoor.
   The contract of put, the closure of codec.spell, in the seat YtlimcimioeepaaaGreatDoor.
   No statement is proved here. -/
import Derived.Test.YtlimcimioeepaaaGreatDoorZG8
import Derived.Test.YtlimcimioeepaaaGreatDoorZG1
import Derived.Test.YtlimcimioeepaaaGreatDoorZG10
import Derived.Lib.Builder
import Derived.Laws.AppendOwn
import Derived.Lib.AppendStr
import Derived.Test.YtlimcimioeepaaaGreatDoorZG6
import Derived.Lib.UnsafeStr
import Derived.Test.YtlimcimioeepaaaGreatDoorZG7
set_option linter.unusedVariables false
namespace Go.Proofs.YtlimcimioeepaaaGreatDoor
open Go.RowKit

theorem size_builder : ∃ j, Tryz.prog.info? 94 = some j := by
  have h : (Tryz.prog.info? 94).isSome = true := by kernel_rfl
  exact Option.isSome_iff_exists.mp h
set_option maxRecDepth 100000 in
theorem copyCheck_used (b : Nat) (w : World) (h0 : w.cell? ⟨b, 0, none⟩ = some (.pointer (some ⟨b, 0, none⟩))) :
    Calls Tryz.prog 89 #[.pointer (some ⟨b, 0, none⟩)] w fun e w' => e = .returned (.tuple #[]) ∧ w = w' := by
  obtain ⟨j, hj⟩ := size_builder
  go_enter Tryz.func89, Tryz.ntmps89
  go_wp2
  rw [Lib.run_neq_ptr_same w _ Tryz.underlying92 hj]
  go_wp2
  go_end0
  exact ⟨rfl, rfl⟩
theorem byte_info : (Tryz.prog.info? 5).map (fun i => (i.zero, i.size, i.bytes)) = some (some (.int .u8 0), 1, 1) := by kernel_rfl

/-- Whatever keeps all blocks that are there keeps a builder. -/
theorem builder_below {T e : TypeId} {B b : Nat} {p : Value} {bs : List Value} {w w' : World} (h : Lib.BuilderAt T e B b p bs w) (hb : Below w.heap.size w w') : Lib.BuilderAt T e B b p bs w' := by
  have hlt := h.lt
  obtain ⟨hB, v, hbk, hown, hne⟩ := h
  refine ⟨hB, v, (hb.block b hlt).trans hbk, ?_, hne⟩
  exact hown.kept (row := none) ⟨hb.os, hb.tape, hb.output, hb.size, fun k hk _ => hb.block k hk⟩ (by
    cases hv : v.ownBlock with
    | none => exact .inl rfl
    | some g => exact .inr (by simp))

set_option maxHeartbeats 1000000 in
set_option maxRecDepth 100000 in
theorem write_used (B b : Nat) (bs : List Value) (ad : Addr) (m c : Nat) (news : List Value) (w : World) (h : Lib.BuilderAt 94 5 B b (.pointer (some ⟨b, 0, none⟩)) bs w)
    (hl : news.length = m) (hnews : ∀ j u, news[j]? = some u → w.cell? (ad.add j) = some u) (h1 : ∀ u ∈ news, u.oneCell' = true)
    (hlen : bs.length + m ≤ 140737488355328) (hBw : B ≤ w.heap.size) :
    Calls Tryz.prog 88 #[.pointer (some ⟨b, 0, none⟩), .slice (some ad) m c] w fun e w' => e = .returned (.tuple #[.int .i64 m, .nilIface]) ∧
      Lib.BuilderAt 94 5 B b (.pointer (some ⟨b, 0, none⟩)) (bs ++ news) w' ∧ Below B w w' := by
  obtain ⟨i0, hi, hz0, hz1, hz2⟩ := info_parts byte_info
  have C := Lib.hid (copyCheck_used b w h.cell0)
  have hlt := h.lt
  obtain ⟨hB, v, hbk, hown, hne⟩ := h
  have c1 : w.cell? ⟨b, 1, none⟩ = some v := by rw [Lib.cell_of_heap hbk]; rfl
  have HBK := Lib.hid hbk
  have HNEW := Lib.hid hnews
  have HL := Lib.hid hl
  clear hbk hnews hl
  go_enter Tryz.func88, Tryz.ntmps88
  go_wp2_with fail
  refine C.out.mono ?_
  rintro e w' ⟨rfl, rfl⟩
  go_wp2_with (at_builtin; refine wpList_append_own _ rfl _ _ 45 rfl B 5 i0 (.int .u8 0) 1 1 Tryz.underlying45 hi hz0 hz1 hz2 rfl (by decide) _ _ _ rfl hown ad m c news rfl (by rw [HL.out]; omega) HNEW.out h1 ?c3 ?c4 ?c5 ?_)
  case c3 => unfold maxLen; omega
  case c4 => omega
  case c5 => exact hBw
  intro v' w2 hown' hgrow _
  have hb2 : w2.heap[b]? = some (.cells #[.pointer (some ⟨b, 0, none⟩), v] 94 (0, 0)) := by
    rw [hgrow.block b hlt (fun e => hne e.symm)]
    exact HBK.out
  have d1 : w2.cell? ⟨b, 1, none⟩ = some v := by rw [Lib.cell_of_heap hb2]; rfl
  have f1 : w2.frozen? ⟨b, 1, none⟩ = false := Lib.frozen_of_heap hb2 1
  have HB2 := Lib.hid hb2
  have HOWN := Lib.hid hown'
  have HG := Lib.hid hgrow
  clear hb2 hgrow c1
  obtain ⟨ao, n', cap, rfl⟩ : ∃ ao n' cap, v' = .slice ao n' cap := by
    rcases hown'.2 with ⟨hv, _⟩ | ⟨g, cap, cur, hv, _⟩
    · exact ⟨_, _, _, hv⟩
    · exact ⟨_, _, _, hv⟩
  clear hown'
  go_wp2
  go_ret2
  refine ⟨rfl, ?_, ?_⟩
  · exact Lib.BuilderAt.put (T := 94) (e := 5) hB HB2.out (bs' := bs ++ news) (by simpa [HL.out] using HOWN.out) (by decide)
  · exact ((Below.refl B w).grown HG.out hBw (fun k hk => (hown.lt k hk).1)).setCell (p := ⟨b, 1, none⟩) hB _
end Go.Proofs.YtlimcimioeepaaaGreatDoor
set_option linter.unusedVariables false
namespace Go.Proofs.YtlimcimioeepaaaGreatDoor
open Go.RowKit

theorem noEscape_run (v : Value) (w : World) : (callFunc 124 #[v]).run Tryz.prog w = .ok (.value v) w := by
  rw [run_callFunc_extern Tryz.func124 (by kernel_rfl) (by kernel_rfl) (by kernel_rfl) (e := Extern.AbiNoEscape.same) (by kernel_rfl)]
  rfl
theorem size_builder2 : (Tryz.prog.info? 94).map (·.size) = some 2 := by kernel_rfl
theorem lies_builder : liesAt Tryz.prog Tryz.prog.depth 94 (2 / Tryz.prog.cellsOf 94) 0 94 1 = true := by kernel_rfl
set_option maxRecDepth 100000 in
set_option maxHeartbeats 1000000 in
theorem copyCheck_fresh (b : Nat) (w : World) (h0 : w.cell? ⟨b, 0, none⟩ = some (.pointer none)) (hs : w.shape? b = some (94, 2)) (hf : w.frozen? ⟨b, 0, none⟩ = false) :
    Calls Tryz.prog 89 #[.pointer (some ⟨b, 0, none⟩)] w fun e w' => e = .returned (.tuple #[]) ∧ w' = w.setCell ⟨b, 0, none⟩ (.pointer (some ⟨b, 0, none⟩)) := by
  obtain ⟨j, hj, hjs⟩ := Option.map_eq_some_iff.1 size_builder2
  have hN := noEscape_run
  have hT := Lib.run_to_unsafe (P := Tryz.prog) w ⟨b, 0, none⟩ Tryz.underlying92 Tryz.underlying110 hj (by rw [hjs]; decide) hs (Nat.zero_lt_succ 1)
  have hU := Lib.run_from_unsafe (P := Tryz.prog) w ⟨b, 0, none⟩ Tryz.underlying110 Tryz.underlying92 hj hs lies_builder
  go_enter Tryz.func89, Tryz.ntmps89
  go_wp2
  go_end0
  exact ⟨rfl, rfl⟩
theorem copyCheck_any (B b : Nat) (bs : List Value) (w : World) (h : Lib.IsBuilder 94 5 B b bs w) :
    Calls Tryz.prog 89 #[.pointer (some ⟨b, 0, none⟩)] w fun e w' => e = .returned (.tuple #[]) ∧ (Lib.BuilderAt 94 5 B b (.pointer (some ⟨b, 0, none⟩)) bs w' ∧ Below B w w') := by
  rcases h with h | h
  · refine (copyCheck_fresh b w h.cell0 h.shape h.frozen0).mono ?_
    rintro e w' ⟨rfl, rfl⟩
    exact ⟨rfl, h.used _, (Below.refl B w).setCell (p := ⟨b, 0, none⟩) h.1 _⟩
  · refine (copyCheck_used b w h.cell0).mono ?_
    rintro e w' ⟨rfl, rfl⟩
    exact ⟨rfl, h, Below.refl B _⟩
set_option maxHeartbeats 1000000 in
set_option maxRecDepth 100000 in
theorem ws_any (B b : Nat) (bs : List Value) (s : ByteArray) (w : World) (h : Lib.IsBuilder 94 5 B b bs w) (hlen : bs.length + s.size ≤ 140737488355328) (hBw : B ≤ w.heap.size) :
    Calls Tryz.prog 52 #[.pointer (some ⟨b, 0, none⟩), .string s] w fun e w' => e = .returned (.tuple #[.int .i64 s.size, .nilIface]) ∧
      (Lib.BuilderAt 94 5 B b (.pointer (some ⟨b, 0, none⟩)) (bs ++ Lib.strCells s) w' ∧ Below B w w') := by
  obtain ⟨i0, hi, hz0, hz1, hz2⟩ := info_parts byte_info
  have C := Lib.hid (copyCheck_any B b bs w h)
  clear h
  go_enter Tryz.func52, Tryz.ntmps52
  go_wp2_with fail
  refine C.out.mono ?_
  rintro e w1 ⟨rfl, h1, hb1⟩
  have hlt := h1.lt
  obtain ⟨hB, v, hbk, hown, hne⟩ := h1
  have c1 : w1.cell? ⟨b, 1, none⟩ = some v := by rw [Lib.cell_of_heap hbk]; rfl
  have HBK := Lib.hid hbk
  have HB1 := Lib.hid hb1
  have hBw1 : B ≤ w1.heap.size := Nat.le_trans hBw hb1.size
  clear hbk hb1
  go_wp2_with (at_builtin; refine Lib.wpList_append_own_string _ rfl _ _ 45 9 rfl B 5 i0 Tryz.underlying45 Tryz.underlying9 hi hz0 hz1 hz2 _ _ _ rfl hown s rfl ?c3 ?c4 ?c5 ?_)
  case c3 => unfold maxLen; omega
  case c4 => omega
  case c5 => exact hBw1
  intro v' w2 hown' hgrow _
  have hb2 : w2.heap[b]? = some (.cells #[.pointer (some ⟨b, 0, none⟩), v] 94 (0, 0)) := by
    rw [hgrow.block b hlt (fun e => hne e.symm)]
    exact HBK.out
  have d1 : w2.cell? ⟨b, 1, none⟩ = some v := by rw [Lib.cell_of_heap hb2]; rfl
  have f1 : w2.frozen? ⟨b, 1, none⟩ = false := Lib.frozen_of_heap hb2 1
  have HB2 := Lib.hid hb2
  have HOWN := Lib.hid hown'
  have HG := Lib.hid hgrow
  clear hb2 hgrow c1
  obtain ⟨ao, n', cap, rfl⟩ : ∃ ao n' cap, v' = .slice ao n' cap := by
    rcases hown'.2 with ⟨hv, _⟩ | ⟨g, cap, cur, hv, _⟩
    · exact ⟨_, _, _, hv⟩
    · exact ⟨_, _, _, hv⟩
  clear hown'
  go_wp2
  go_ret2
  refine ⟨rfl, ?_, ?_⟩
  · exact Lib.BuilderAt.put (T := 94) (e := 5) hB HB2.out (bs' := bs ++ Lib.strCells s) (by simpa [Lib.strCells_length] using HOWN.out) (by decide)
  · exact (HB1.out.grown HG.out hBw1 (fun k hk => (hown.lt k hk).1)).setCell (p := ⟨b, 1, none⟩) hB _
end Go.Proofs.YtlimcimioeepaaaGreatDoor
set_option linter.unusedVariables false
namespace Go.Proofs.YtlimcimioeepaaaGreatDoor
open Go.RowKit

/-- Whatever is no builder's and no row of bytes is as it was. -/
structure Keeps (w w' : World) : Prop where
  size : w.heap.size ≤ w'.heap.size
  row : ∀ (k : Nat) (cs : Array Value) (t : TypeId) (fr : Nat × Nat), w.heap[k]? = some (.cells cs t fr) → t ≠ 94 → t ≠ 5 → w'.heap[k]? = some (.cells cs t fr)
theorem Keeps.refl (w : World) : Keeps w w := ⟨Nat.le_refl _, fun _ _ _ _ h _ _ => h⟩
theorem Keeps.trans {a b c : World} (h : Keeps a b) (k : Keeps b c) : Keeps a c := ⟨Nat.le_trans h.size k.size, fun q cs t fr hq h1 h2 => k.row q cs t fr (h.row q cs t fr hq h1 h2) h1 h2⟩
theorem Keeps.of {w w' : World} (h : Below w.heap.size w w') : Keeps w w' := ⟨h.size, fun k cs t fr hk _ _ => by rw [h.block k (Array.getElem?_eq_some_iff.mp hk).1]; exact hk⟩
theorem copyCheck_keep (B b : Nat) (bs : List Value) (w : World) (h : Lib.IsBuilder 94 5 B b bs w) :
    Calls Tryz.prog 89 #[.pointer (some ⟨b, 0, none⟩)] w fun e w' => e = .returned (.tuple #[]) ∧ (Lib.BuilderAt 94 5 B b (.pointer (some ⟨b, 0, none⟩)) bs w' ∧ Below B w w' ∧ Keeps w w') := by
  rcases h with h | h
  · refine (copyCheck_fresh b w h.cell0 h.shape h.frozen0).mono ?_
    rintro e w' ⟨rfl, rfl⟩
    refine ⟨rfl, h.used _, (Below.refl B w).setCell (p := ⟨b, 0, none⟩) h.1 _, by simp [World.setCell], fun k cs t fr hk h1 h2 => ?_⟩
    rw [Below.heap_setCell _ _ _ _ (fun e => ?_)]
    · exact hk
    · obtain ⟨_, v, hb, _⟩ := h
      have e2 : k = b := e
      rw [e2, hb] at hk
      injection hk with hk
      injection hk with _ h3 _
      exact h1 h3.symm
  · refine (copyCheck_used b w h.cell0).mono ?_
    rintro e w' ⟨rfl, rfl⟩
    exact ⟨rfl, h, Below.refl B _, Keeps.refl _⟩
set_option maxHeartbeats 1000000 in
set_option maxRecDepth 100000 in
theorem ws_keep (B b : Nat) (bs : List Value) (s : ByteArray) (w : World) (h : Lib.IsBuilder 94 5 B b bs w) (hlen : bs.length + s.size ≤ 140737488355328) (hBw : B ≤ w.heap.size) :
    Calls Tryz.prog 52 #[.pointer (some ⟨b, 0, none⟩), .string s] w fun e w' => e = .returned (.tuple #[.int .i64 s.size, .nilIface]) ∧
      (Lib.BuilderAt 94 5 B b (.pointer (some ⟨b, 0, none⟩)) (bs ++ Lib.strCells s) w' ∧ Below B w w' ∧ Keeps w w') := by
  obtain ⟨i0, hi, hz0, hz1, hz2⟩ := info_parts byte_info
  have C := Lib.hid (copyCheck_keep B b bs w h)
  clear h
  go_enter Tryz.func52, Tryz.ntmps52
  go_wp2_with fail
  refine C.out.mono ?_
  rintro e w1 ⟨rfl, h1, hb1, hk1⟩
  have hlt := h1.lt
  obtain ⟨hB, v, hbk, hown, hne⟩ := h1
  have c1 : w1.cell? ⟨b, 1, none⟩ = some v := by rw [Lib.cell_of_heap hbk]; rfl
  have HBK := Lib.hid hbk
  have HB1 := Lib.hid hb1
  have HK1 := Lib.hid hk1
  have hBw1 : B ≤ w1.heap.size := Nat.le_trans hBw hb1.size
  clear hbk hb1 hk1
  go_wp2_with (at_builtin; refine Lib.wpList_append_own_string _ rfl _ _ 45 9 rfl B 5 i0 Tryz.underlying45 Tryz.underlying9 hi hz0 hz1 hz2 _ _ _ rfl hown s rfl ?c3 ?c4 ?c5 ?_)
  case c3 => unfold maxLen; omega
  case c4 => omega
  case c5 => exact hBw1
  intro v' w2 hown' hgrow _
  have hb2 : w2.heap[b]? = some (.cells #[.pointer (some ⟨b, 0, none⟩), v] 94 (0, 0)) := by
    rw [hgrow.block b hlt (fun e => hne e.symm)]
    exact HBK.out
  have hk2 : Keeps w1 w2 := ⟨hgrow.size, fun k cs t fr hk h1 h2 => by
    rw [hgrow.block k (Array.getElem?_eq_some_iff.mp hk).1 (fun e => ?_)]
    · exact hk
    · rcases hown.2 with ⟨hv, _⟩ | ⟨g, cap, cur, hv, _, hg, _⟩
      · rw [hv] at e
        simp [Value.ownBlock] at e
      · rw [hv] at e
        have e2 : k = g := by simpa [Value.ownBlock] using e
        rw [e2, hg] at hk
        injection hk with hk
        injection hk with _ h3 _
        exact h2 h3.symm⟩
  have hk3 : Keeps w2 (w2.setCell ⟨b, 1, none⟩ v') := ⟨by simp [World.setCell], fun k cs t fr hk h1 h2 => by
    rw [Below.heap_setCell _ _ _ _ (fun e => ?_)]
    · exact hk
    · have e2 : k = b := e
      rw [e2, hb2] at hk
      injection hk with hk
      injection hk with _ h3 _
      exact h1 h3.symm⟩
  have d1 : w2.cell? ⟨b, 1, none⟩ = some v := by rw [Lib.cell_of_heap hb2]; rfl
  have f1 : w2.frozen? ⟨b, 1, none⟩ = false := Lib.frozen_of_heap hb2 1
  have HB2 := Lib.hid hb2
  have HOWN := Lib.hid hown'
  have HG := Lib.hid hgrow
  have HK2 := Lib.hid (HK1.out.trans (hk2.trans hk3))
  clear hb2 hgrow c1 hk2 hk3
  obtain ⟨ao, n', cap, rfl⟩ : ∃ ao n' cap, v' = .slice ao n' cap := by
    rcases hown'.2 with ⟨hv, _⟩ | ⟨g, cap, cur, hv, _⟩
    · exact ⟨_, _, _, hv⟩
    · exact ⟨_, _, _, hv⟩
  clear hown'
  go_wp2
  go_ret2
  refine ⟨rfl, ?_, ?_, HK2.out⟩
  · exact Lib.BuilderAt.put (T := 94) (e := 5) hB HB2.out (bs' := bs ++ Lib.strCells s) (by simpa [Lib.strCells_length] using HOWN.out) (by decide)
  · exact (HB1.out.grown HG.out hBw1 (fun k hk => (hown.lt k hk).1)).setCell (p := ⟨b, 1, none⟩) hB _
end Go.Proofs.YtlimcimioeepaaaGreatDoor
namespace Go.Proofs.YtlimcimioeepaaaGreatDoor

/-- The first error of some numbers, and all their bytes. -/
def rowE : List Int → Int → Int
  | [], k => if wide k = true then 0 else 22
  | z :: l, k => if putE z k = 0 then rowE l k else putE z k
def rowB (l : List Int) (k : Int) : List UInt8 := l.flatMap fun z => putL z k
def rowL (l : List Int) (k : Int) : List UInt8 := if rowE l k = 0 then rowB l k else []
theorem rowE_wide {k : Int} (h : wide k = false) : ∀ l, rowE l k = 22
  | [] => by simp [rowE, h]
  | z :: l => by
    rw [rowE, if_neg (by rw [putE_wide h]; omega), putE_wide h]
theorem rowL_wide {l : List Int} {k : Int} (h : wide k = false) : rowL l k = [] := by unfold rowL; rw [rowE_wide h, if_neg (by omega)]
theorem rowE_append {k : Int} (hw : wide k = true) : ∀ l r : List Int, rowE (l ++ r) k = if rowE l k = 0 then rowE r k else rowE l k
  | [], r => by simp [rowE, hw]
  | z :: l, r => by
    by_cases h : putE z k = 0
    · have e1 : rowE (z :: l) k = rowE l k := if_pos h
      have e2 : rowE (z :: l ++ r) k = rowE (l ++ r) k := if_pos h
      rw [e1, e2, rowE_append hw l r]
    · have e1 : rowE (z :: l) k = putE z k := if_neg h
      have e2 : rowE (z :: l ++ r) k = putE z k := if_neg h
      rw [e1, e2, if_neg h]
theorem take_snoc8 {α : Type} {zs : List α} {j : Nat} {z : α} (h : zs[j]? = some z) : zs.take (j + 1) = zs.take j ++ [z] := by
  rw [List.take_add_one, h]; rfl
theorem rowE_one {k : Int} (z : Int) (hw : wide k = true) : rowE [z] k = putE z k := by
  show (if putE z k = 0 then rowE [] k else putE z k) = _
  by_cases h : putE z k = 0
  · rw [if_pos h, h]; simp [rowE, hw]
  · rw [if_neg h]
theorem rowE_step {zs : List Int} {j : Nat} {z k : Int} (hw : wide k = true) (h : zs[j]? = some z) (h0 : rowE (zs.take j) k = 0) : rowE (zs.take (j + 1)) k = putE z k := by
  rw [take_snoc8 h, rowE_append hw, if_pos h0, rowE_one z hw]
theorem rowE_early {zs : List Int} {j : Nat} {z k : Int} (hw : wide k = true) (h : zs[j]? = some z) (h0 : rowE (zs.take j) k = 0) (hc : putE z k ≠ 0) : rowE zs k = putE z k := by
  have h1 := rowE_step hw h h0
  have h2 := rowE_append hw (zs.take (j + 1)) (zs.drop (j + 1))
  rw [List.take_append_drop, h1, if_neg hc] at h2
  exact h2
theorem rowE_prefix {zs : List Int} {k : Int} (hw : wide k = true) (j : Nat) (h : rowE zs k = 0) : rowE (zs.take j) k = 0 := by
  have h2 := rowE_append hw (zs.take j) (zs.drop j)
  rw [List.take_append_drop, h] at h2
  by_cases h0 : rowE (zs.take j) k = 0
  · exact h0
  · rw [if_neg h0] at h2; omega
theorem rowE_zero_wide {zs : List Int} {k : Int} (h : rowE zs k = 0) : wide k = true := by
  cases hw : wide k with
  | true => rfl
  | false => rw [rowE_wide hw] at h; omega
theorem rowE_mem {zs : List Int} {k : Int} (h : rowE zs k = 0) {j : Nat} {z : Int} (hz : zs[j]? = some z) : putE z k = 0 := by
  have hw := rowE_zero_wide h
  have h1 := rowE_step hw hz (rowE_prefix hw j h)
  rw [rowE_prefix hw (j + 1) h] at h1
  exact h1.symm
theorem rowB_step {zs : List Int} {j : Nat} {z k : Int} (h : zs[j]? = some z) : rowB (zs.take (j + 1)) k = rowB (zs.take j) k ++ putL z k := by
  unfold rowB
  rw [take_snoc8 h, List.flatMap_append]
  simp
theorem putL_length {z k : Int} (h : putE z k = 0) : (putL z k).length = k.toNat := by
  obtain ⟨hw, hf⟩ := putE_zero h
  rw [putL_fine hw hf, Lib.leBytes_length]
theorem rowB_length {k : Int} : ∀ zs : List Int, rowE zs k = 0 → (rowB zs k).length = zs.length * k.toNat
  | [], _ => by simp [rowB]
  | z :: l, h => by
    have hz : putE z k = 0 := rowE_mem h (j := 0) rfl
    have hl : rowE l k = 0 := by rw [rowE, if_pos hz] at h; exact h
    have e : rowB (z :: l) k = putL z k ++ rowB l k := rfl
    rw [e, List.length_append, putL_length hz, rowB_length l hl, List.length_cons, Nat.succ_mul]
    omega
theorem rowL_fine {l : List Int} {k : Int} (h : rowE l k = 0) : rowL l k = rowB l k := if_pos h
theorem rowL_bad {l : List Int} {k : Int} (h : rowE l k ≠ 0) : rowL l k = [] := if_neg h
/-- The bytes of the j-th number stand at the j-th place. -/
theorem rowB_at {k : Int} : ∀ (zs : List Int) (j : Nat) (z : Int), rowE zs k = 0 → zs[j]? = some z → ((rowB zs k).drop (j * k.toNat)).take k.toNat = putL z k
  | [], j, z, _, h => by simp at h
  | x :: l, 0, z, h, hz => by
    obtain rfl : x = z := by simpa using hz
    have hx : putE x k = 0 := rowE_mem h (j := 0) rfl
    have e : rowB (x :: l) k = putL x k ++ rowB l k := rfl
    rw [Nat.zero_mul, List.drop_zero, e, List.take_append_of_le_length (by rw [putL_length hx]; exact Nat.le_refl _), List.take_of_length_le (by rw [putL_length hx]; exact Nat.le_refl _)]
  | x :: l, j + 1, z, h, hz => by
    have hx : putE x k = 0 := rowE_mem h (j := 0) rfl
    have hl : rowE l k = 0 := by rw [rowE, if_pos hx] at h; exact h
    have e : rowB (x :: l) k = putL x k ++ rowB l k := rfl
    have ih := rowB_at l j z hl (by simpa using hz)
    rw [e, Nat.succ_mul, Nat.add_comm, ← List.drop_drop, ← putL_length hx, List.drop_left, putL_length hx]
    exact ih
theorem cell_bytes (n : Nat) : (bz n).map (Value.int .u8) = Lib.byteCells (Lib.leBytes 8 n) := by
  rw [← bz_bytes]
  unfold Lib.byteCells
  rw [List.map_map]
  apply List.map_congr_left
  intro z hz
  have hb : 0 ≤ z ∧ z ≤ 255 := by
    simp only [bz, List.mem_cons, List.not_mem_nil, or_false] at hz
    omega
  show Value.int .u8 z = Value.int .u8 (((UInt8.ofNat z.toNat).toNat : Nat) : Int)
  rw [UInt8.toNat_ofNat', Nat.mod_eq_of_lt (by omega)]
  congr 1
  omega
end Go.Proofs.YtlimcimioeepaaaGreatDoor
set_option linter.unusedVariables false
namespace Go.Proofs.YtlimcimioeepaaaGreatDoor
open Go.RowKit

/-- What spell laid into an array reads as a number's bytes. -/
theorem spelt (w : World) (n m : Nat) (h8 : m ≤ 8) (t : TypeId) : ∀ (j : Nat) (u : Value), (Lib.byteCells (Lib.leBytes m n))[j]? = some u →
    (w.alloc (.cells #[.int .u8 ((n : Int) % 256), .int .u8 ((n : Int) / 256 % 256), .int .u8 ((n : Int) / 65536 % 256), .int .u8 ((n : Int) / 16777216 % 256), .int .u8 ((n : Int) / 4294967296 % 256), .int .u8 ((n : Int) / 1099511627776 % 256), .int .u8 ((n : Int) / 281474976710656 % 256), .int .u8 ((n : Int) / 72057594037927936 % 256)] t)).cell? ((⟨w.heap.size, 0, none⟩ : Addr).add j) = some u := by
  intro j u hu
  rw [addr_add, Nat.zero_add, World.cell?_alloc_at _ _ _ _ rfl]
  show ((bz n).map (Value.int .u8)).toArray[j]? = some u
  rw [cell_bytes, List.getElem?_toArray]
  rw [← leBytes_take 8 m n h8] at hu
  unfold Lib.byteCells at hu ⊢
  rw [List.map_take, List.getElem?_take] at hu
  by_cases hj : j < m
  · rwa [if_pos hj] at hu
  · rw [if_neg hj] at hu; cases hu
theorem byteCells_append (a b : List UInt8) : Lib.byteCells (a ++ b) = Lib.byteCells a ++ Lib.byteCells b := List.map_append
theorem byteCells_length (a : List UInt8) : (Lib.byteCells a).length = a.length := List.length_map _
theorem byteCells_one (a : List UInt8) : ∀ u ∈ Lib.byteCells a, u.oneCell' = true := by
  intro u hu
  obtain ⟨x, _, rfl⟩ := List.mem_map.mp hu
  rfl

/-- A builder that holds so many bytes. -/
def Holds (b : Nat) (l : List UInt8) (w : World) : Prop := Lib.BuilderAt 94 5 b b (.pointer (some ⟨b, 0, none⟩)) (Lib.byteCells l) w

set_option maxRecDepth 100000 in
set_option maxHeartbeats 1000000 in
theorem row_fine (A : Option Addr) (cap : Nat) (zs : List Int) (m : Nat) (w : World) (hl : zs.length ≤ 1000) (hI : Ints w w.heap.size A zs) (hz : ∀ z ∈ zs, z ≤ 9223372036854775807) (hw : wide m = true) :
    Calls Tryz.prog 51 #[.slice A zs.length cap, .int .i64 m] w fun e w' => e = .returned (.tuple #[.string ⟨(rowL zs m).toArray⟩, .int .i64 (rowE zs m)]) ∧ Below w.heap.size w w' := by
  have C := Lib.hid (fun W => isWidth_yes hw W)
  obtain ⟨P, hP⟩ := pow_of hw
  have hm : m = 1 ∨ m = 2 ∨ m = 4 ∨ m = 8 := by rcases hP with ⟨h, _⟩ | ⟨h, _⟩ | ⟨h, _⟩ | ⟨h, _⟩ <;> omega
  have h8 : m ≤ 8 := by omega
  obtain ⟨len, hlen⟩ : ∃ len, len = zs.length := ⟨_, rfl⟩
  obtain ⟨q, hq⟩ : ∃ q, q = len * m := ⟨_, rfl⟩
  have K : (len : Int) * (m : Int) = (q : Int) := by rw [hq, Int.natCast_mul]
  have hq8 : q ≤ 8000 := by
    rw [hq]
    exact Nat.le_trans (Nat.mul_le_mul (by omega : len ≤ 1000) h8) (by decide)
  have hgr := Lib.hid (fun W : World => Tryz.Builder_Grow_fresh W.heap.size W.heap.size q (W.alloc (.cells #[.pointer none, .slice none 0 0] 94)) (Nat.le_refl _) (heap_alloc_new W _) (by simp) (by omega))
  rw [← hlen] at hl ⊢
  have HL := Lib.hid hlen
  have HI := Lib.hid hI
  have HZ := Lib.hid hz
  have HP := Lib.hid hP
  have HW := Lib.hid hw
  have HM := Lib.hid hm
  clear hlen hq hI hz hP hw hm
  go_enter Tryz.func51, Tryz.ntmps51
  go_wp2_with fail
  refine (C.out _).mono ?_
  rintro e w' ⟨rfl, rfl⟩
  go_wp2_with fail
  refine (hgr.out _).mono ?_
  rintro e w1 ⟨rfl, hB, hb⟩
  have HB1 : Hid (Holds w.heap.size [] w1) := Lib.hid hB
  have hb1 : Below w.heap.size w w1 := (below_alloc _).trans hb
  clear hB hb
  go_wp2
  go_loopw [21] (fun i wr => ∃ j : Nat, j ≤ len ∧ i = .int .i64 j ∧ Hid (rowE (zs.take j) m = 0) ∧ Hid (Holds w.heap.size (rowB (zs.take j) m) wr) ∧ Below w.heap.size w wr) (fun i _ => len - (intOf i).toNat)
  case atStart => exact ⟨0, Nat.zero_le _, rfl, Lib.hid (by simp [rowE, HW.out]), HB1, hb1⟩
  case round =>
    obtain ⟨j, hj, rfl, hE, hH, hbel⟩ := hrel
    by_cases hlt : j < len
    · obtain ⟨b, off, z, rfl, hbg, hzj, hcell⟩ := HI.out.at_ (k := j) (by rw [← HL.out]; exact hlt)
      have hcell' : wr.cell? ⟨b, off + j, none⟩ = some (.int .i64 z) := (hbel.cell hbg).trans hcell
      have hzm : z ≤ 9223372036854775807 := HZ.out z (List.mem_of_getElem? hzj)
      have HJ := Lib.hid hzj
      clear hzj hcell
      cases hf : fits z m with
      | false =>
        have D := Lib.hid (fun W => spell_bad z m P W HP.out hzm (fun h => by rw [(fits_iff HP.out).mpr h] at hf; cases hf))
        have HF := Lib.hid hf
        clear hf
        go_wp2_with fail
        refine (D.out _).mono ?_
        rintro e w2 ⟨rfl, hb2⟩
        have hb3 : Below w.heap.size w w2 := hbel.trans (hb2.mono hbel.size)
        clear hb2
        go_wp2
        go_ret2
        have hp : putE z m = 20 := putE_great HW.out HF.out
        have he := rowE_early HW.out HJ.out hE.out (by rw [hp]; omega)
        exact ⟨by rw [rowL_bad (by rw [he, hp]; omega), he, hp]; rfl, hb3.alloc hb3.size _⟩
      | true =>
        obtain ⟨h0, h1⟩ := (fits_iff HP.out).mp hf
        have D := Lib.hid (fun W => spell_fine z m P W HP.out h0 hzm h1)
        have hp : putE z m = 0 := putE_fine HW.out hf
        have HPE := Lib.hid hp
        have HE1 := Lib.hid ((rowE_step HW.out HJ.out hE.out).trans hp)
        have HB1' := Lib.hid (rowB_step (k := m) HJ.out)
        have HPL := Lib.hid (putL_fine HW.out hf)
        clear hf hp h1
        go_wp2_with fail
        refine (D.out _).mono ?_
        rintro e w2 ⟨rfl, hb2⟩
        have hb3 : Below w.heap.size w w2 := hbel.trans (hb2.mono hbel.size)
        obtain ⟨n, rfl⟩ : ∃ n : Nat, z = n := ⟨z.toNat, by omega⟩
        have hsl := slice_m w2.heap.size m HM.out
        have HH2 : Hid (Holds w.heap.size (rowB (zs.take j) m) w2) := Lib.hid (builder_below hH.out hb2)
        clear hb2
        have hlb : (Lib.byteCells (rowB (zs.take j) m)).length + m ≤ 140737488355328 := by
          rw [byteCells_length, rowB_length _ hE.out, Int.toNat_natCast, List.length_take, ← HL.out, Nat.min_eq_left (by omega)]
          have : j * m ≤ 1000 * 8 := Nat.mul_le_mul (by omega) h8
          omega
        have WR := Lib.hid (write_used w.heap.size w.heap.size (Lib.byteCells (rowB (zs.take j) m)) ⟨w2.heap.size, 0, none⟩ m 8 (Lib.byteCells (Lib.leBytes m n)) _
          (builder_below HH2.out (below_alloc _)) (by rw [byteCells_length, Lib.leBytes_length]) (spelt w2 n m h8 138) (byteCells_one _) hlb (by simp; have := hb3.size; omega))
        clear hlb
        go_wp2_with fail
        refine WR.out.mono ?_
        rintro e w4 ⟨rfl, hw4, hb4⟩
        have HH4 : Hid (Holds w.heap.size (rowB (zs.take (j + 1)) m) w4) := Lib.hid (by
          rw [HB1'.out, HPL.out]
          show Lib.BuilderAt _ _ _ _ _ (Lib.byteCells _) w4
          rw [byteCells_append]
          simpa using hw4)
        have hb5 : Below w.heap.size w w4 := (hb3.alloc hb3.size _).trans hb4
        clear hw4 hb4
        go_wp2
        go_roundw
        case rel => exact ⟨j + 1, by omega, by go_num, HE1, HH4, hb5⟩
        case measure => simp [intOf]; omega
    · obtain rfl : j = len := by omega
      have e1 : zs.take j = zs := by rw [HL.out, List.take_length]
      have HE : Hid (rowE zs m = 0) := Lib.hid (by have := hE.out; rwa [e1] at this)
      have HH : Hid (Holds w.heap.size (rowB zs m) wr) := Lib.hid (by have := hH.out; rwa [e1] at this)
      clear hE hH e1
      have ST := Lib.hid (Tryz.Builder_String_any w.heap.size w.heap.size (rowB zs m) wr (.inr HH.out) hbel.size)
      go_wp2_with fail
      refine ST.out.mono ?_
      rintro e w4 ⟨rfl, hb4⟩
      go_wp2
      go_ret2
      exact ⟨by rw [rowL_fine HE.out, HE.out]; rfl, hbel.trans hb4⟩
theorem row_any (A : Option Addr) (cap : Nat) (zs : List Int) (k : Int) (w : World) (hl : zs.length ≤ 1000) (hI : Ints w w.heap.size A zs) (hz : ∀ z ∈ zs, z ≤ 9223372036854775807) :
    Calls Tryz.prog 51 #[.slice A zs.length cap, .int .i64 k] w fun e w' => e = .returned (.tuple #[.string ⟨(rowL zs k).toArray⟩, .int .i64 (rowE zs k)]) ∧ Below w.heap.size w w' := by
  cases hw : wide k with
  | false =>
    have C := Lib.hid (fun W => isWidth_no hw W)
    rw [rowL_wide hw, rowE_wide hw]
    clear hw hI hz hl
    go_enter Tryz.func51, Tryz.ntmps51
    go_wp2_with fail
    refine (C.out _).mono ?_
    rintro e w' ⟨rfl, rfl⟩
    go_wp2
    go_ret2
    exact ⟨rfl, Below.refl _ _⟩
  | true =>
    obtain ⟨P, hP⟩ := pow_of hw
    obtain ⟨m, rfl, _⟩ := hP.nat
    exact row_fine A cap zs m w hl hI hz hw
end Go.Proofs.YtlimcimioeepaaaGreatDoor
set_option linter.unusedVariables false
namespace Go.Proofs.YtlimcimioeepaaaGreatDoor
open Go.RowKit

/-- A builder of the call's own (from base on) that holds bytes. -/
def Bd (base tb : Nat) (L : List UInt8) (w : World) : Prop := Lib.IsBuilder 94 5 base tb (Lib.byteCells L) w
theorem strCells_txt (l : List UInt8) : Lib.strCells (txt l) = Lib.byteCells l := by
  unfold Lib.strCells Lib.byteCells
  rw [txt_list]
theorem is_below {T e : TypeId} {B b : Nat} {bs : List Value} {w w' : World} (h : Lib.IsBuilder T e B b bs w) (hb : Below w.heap.size w w') : Lib.IsBuilder T e B b bs w' := by
  rcases h with h | h
  · exact .inl (builder_below h hb)
  · exact .inr (builder_below h hb)
theorem Bd.below {base tb : Nat} {L : List UInt8} {w w' : World} (h : Bd base tb L w) (hb : Below w.heap.size w w') : Bd base tb L w' := is_below h hb
/-- What is put is the numbers' bytes. -/
theorem row_is {k : Nat} {P : Int} (hW : Wid k P) : ∀ zs : List Int, (∀ z ∈ zs, 0 ≤ z ∧ z < P) → rowE zs k = 0 ∧ rowB zs k = zs.flatMap (u k)
  | [], _ => ⟨by simp [rowE, hW.pow.wide], rfl⟩
  | z :: zs, h => by
    have hz := h z (by simp)
    have ih := row_is hW zs (fun x hx => h x (by simp [hx]))
    have hp := hW.put hz.1 hz.2
    refine ⟨?_, ?_⟩
    · rw [rowE, if_pos hp.2]; exact ih.1
    · show (z :: zs).flatMap (fun z => putL z k) = _
      rw [List.flatMap_cons, List.flatMap_cons, hp.1]
      congr 1
      exact ih.2
set_option maxRecDepth 100000 in
set_option maxHeartbeats 1000000 in
theorem put_any (base tb : Nat) (L : List UInt8) (k : Nat) (P : Int) (zs : List Int) (A : Option Addr) (c : Nat) (w : World) (hW : Wid k P) (hl : zs.length ≤ 1000) (hI : Ints w w.heap.size A zs) (hz : ∀ z ∈ zs, 0 ≤ z ∧ z < P) (hL : L.length ≤ 100000) (hB : Bd base tb L w) (hbw : base ≤ w.heap.size) :
    Calls Tryz.prog 50 #[.int .i64 (k : Int), .slice A zs.length c, .pointer (some ⟨tb, 0, none⟩)] w fun e w' => e = .returned (.tuple #[]) ∧ Bd base tb (L ++ zs.flatMap (u k)) w' ∧ Below base w w' ∧ Keeps w w' := by
  have hle := hW.le_
  have C := Lib.hid (row_any A c zs k w hl hI (fun z hzz => by have := hz z hzz; omega))
  rw [rowL_fine (row_is hW zs hz).1, (row_is hW zs hz).1, (row_is hW zs hz).2] at C
  have hf : (zs.flatMap (u k)).length = k * zs.length := flat_len (u k) k (u_length k) zs
  have hlen : k * zs.length ≤ 4000 := by
    have : k * zs.length ≤ 4 * 1000 := Nat.mul_le_mul (by omega) hl
    omega
  obtain ⟨M, hM⟩ : ∃ M, M = zs.flatMap (u k) := ⟨_, rfl⟩
  rw [← hM] at C hf ⊢
  have HBD := Lib.hid hB
  clear hM hI hz hW hB
  go_enter Tryz.func50, Tryz.ntmps50
  go_wp2_with fail
  refine C.out.mono ?_
  rintro e w1 ⟨rfl, b1⟩
  have h1 := HBD.out.below b1
  have D := Lib.hid (ws_keep base tb (Lib.byteCells L) (txt M) w1 h1 (by rw [Lib.byteCells_length, txt_size]; omega) (Nat.le_trans hbw b1.size))
  have HB1 := Lib.hid b1
  clear b1 h1
  go_wp2_with fail
  refine D.out.mono ?_
  rintro e w2 ⟨rfl, h2, hb2, hk2⟩
  have HF := Lib.hid (show Bd base tb (L ++ M) w2 from .inr (by rw [strCells_txt] at h2; unfold Lib.byteCells at h2 ⊢; rwa [List.map_append]))
  have HBB := Lib.hid ((HB1.out.mono hbw).trans hb2)
  have HKK := Lib.hid ((Keeps.of HB1.out).trans hk2)
  clear h2 hb2 hk2
  go_wp2
  go_end0
  exact ⟨rfl, HF.out, HBB.out, HKK.out⟩
end Go.Proofs.YtlimcimioeepaaaGreatDoor
