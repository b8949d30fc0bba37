/- The contracts of trefoilref04.Preds and Succs in the seat YtpaambpajpmjdaaDoor.
   The contract of trefoilref04.Reach in the seat YtpaambpajpmjdaaDoor.
   No statement is proved here. -/
import Derived.Test.YtpaambpajpmjdaaDoorZM2
import Derived.Test.YtpaambpajpmjdaaDoorZM3
import Derived.Test.YtpaambpajpmjdaaDoorZM1
set_option linter.unusedSimpArgs false
set_option linter.unusedVariables false
namespace Go.Proofs.YtpaambpajpmjdaaDoor
open Go.RowKit

/-- The nodes below n with an edge to x; to which one leads from x. -/
def predsL (n : Nat) (E : List (Int × Int)) (x : Int) : List Int := ((List.range n).map Int.ofNat).filter fun a => decide ((a, x) ∈ E)
def succsL (n : Nat) (E : List (Int × Int)) (x : Int) : List Int := ((List.range n).map Int.ofNat).filter fun a => decide ((x, a) ∈ E)
theorem predsL_step (n : Nat) (E : List (Int × Int)) (x : Int) : predsL (n + 1) E x = if ((n : Int), x) ∈ E then predsL n E x ++ [(n : Int)] else predsL n E x := by
  unfold predsL
  rw [List.range_succ, List.map_append, List.filter_append]
  by_cases h : ((n : Int), x) ∈ E
  · rw [if_pos h]
    simp [h]
  · rw [if_neg h]
    simp [h]
theorem succsL_step (n : Nat) (E : List (Int × Int)) (x : Int) : succsL (n + 1) E x = if (x, (n : Int)) ∈ E then succsL n E x ++ [(n : Int)] else succsL n E x := by
  unfold succsL
  rw [List.range_succ, List.map_append, List.filter_append]
  by_cases h : (x, (n : Int)) ∈ E
  · rw [if_pos h]
    simp [h]
  · rw [if_neg h]
    simp [h]
theorem predsL_length (n : Nat) (E : List (Int × Int)) (x : Int) : (predsL n E x).length ≤ n := by
  unfold predsL
  refine Nat.le_trans (List.length_filter_le _ _) ?_
  simp
theorem succsL_length (n : Nat) (E : List (Int × Int)) (x : Int) : (succsL n E x).length ≤ n := by
  unfold succsL
  refine Nat.le_trans (List.length_filter_le _ _) ?_
  simp
end Go.Proofs.YtpaambpajpmjdaaDoor
set_option linter.unusedVariables false
namespace Go.Proofs.YtpaambpajpmjdaaDoor
open Go.RowKit

theorem roundR_snoc {a : Nat} {E : List (Int × Int)} {i : Nat} {e : Int × Int} (out : List Bool) (h : E[i]? = some e) : roundR a (E.take (i + 1)) out = relaxR a (roundR a (E.take i) out) e := by
  rw [take_snoc' h]
  unfold roundR
  rw [List.foldl_append]
  rfl
theorem fits_nat {n : Nat} {E : List (Int × Int)} (hF : Fits n E) {i : Nat} {e : Int × Int} (h : E[i]? = some e) : ∃ x y : Nat, e = ((x : Int), (y : Int)) ∧ x < n ∧ y < n := by
  have := hF e (List.mem_of_getElem? h)
  refine ⟨e.1.toNat, e.2.toNat, ?_, by omega, by omega⟩
  cases e
  simp only at this
  simp only [Prod.mk.injEq]
  omega
def bools (l : List Bool) : List Value := l.map Value.bool
theorem bools_at {l : List Bool} {j : Nat} (h : j < l.length) : (bools l)[j]? = some (.bool (l.getD j false)) := by
  unfold bools
  rw [List.getElem?_map, List.getElem?_eq_getElem h, List.getD_eq_getElem?_getD, List.getElem?_eq_getElem h]
  rfl
theorem bools_set (l : List Bool) (j : Nat) (b : Bool) : bools (l.set j b) = (bools l).set j (.bool b) := by unfold bools; rw [List.map_set]
theorem relaxR_length (a : Nat) (out : List Bool) (e : Int × Int) : (relaxR a out e).length = out.length := ((relaxR_le a out e).1).symm
theorem roundR_length (a : Nat) (E : List (Int × Int)) (out : List Bool) : (roundR a E out).length = out.length := ((roundR_le a E out).1).symm
/-- A new row of bools, handed out. -/
def GotBools (l : List Bool) (w : World) (e : Ending) (w' : World) : Prop :=
  ∃ g c, e = .returned (.slice (some ⟨g, 0, none⟩) l.length c) ∧ w.heap.size ≤ g ∧ RowV g 4 (bools l) w' ∧ Below w.heap.size w w'

set_option maxRecDepth 100000 in
set_option maxHeartbeats 4000000 in
theorem reach_any (A F : Option Addr) (n c m d : Nat) (E : List (Int × Int)) (a : Nat) (w : World) (hl : n ≤ 1000) (hm : E.length = m) (hk : m ≤ 1000) (ha : a ≤ 1000) (hF : Fits n E) (hP : Pairs w w.heap.size F E) :
    Calls Tryd.prog 50 #[.agg #[.slice A n c, .slice F m d], .int .i64 a] w (GotBools (reach n E a) w) := by
  have HP := Lib.hid hP
  have HM := Lib.hid hm
  have HF := Lib.hid hF
  have hmk := fun W => make_bools n hl W
  obtain ⟨w0, hw0⟩ : ∃ w0, w0 = w.alloc (.cells #[.slice A n c, .slice F m d] 25) := ⟨_, rfl⟩
  have HW0 := Lib.hid hw0
  clear hP hm hF hw0
  go_enter Tryd.func50, Tryd.ntmps50
  go_wp2
  have h0 : RowV (w.heap.size + 1) 4 (bools (reachK n E a 0)) ((w.alloc (.cells #[.slice A n c, .slice F m d] 25)).alloc (.cells (List.replicate n (Value.bool false)).toArray 4)) := by
    have h := RowV.new (w.alloc (.cells #[.slice A n c, .slice F m d] 25)) 4 (List.replicate n (Value.bool false))
    rw [show (w.alloc (.cells #[.slice A n c, .slice F m d] 25)).heap.size = w.heap.size + 1 by simp] at h
    rw [show bools (reachK n E a 0) = List.replicate n (Value.bool false) by unfold bools reachK; rw [List.map_replicate]]
    exact h
  have H0 := Lib.hid h0
  clear h0
  go_loopw [6] (fun k wr => ∃ j : Nat, j ≤ n ∧ k = .int .i64 j ∧ Hid (RowV (w.heap.size + 1) 4 (bools (reachK n E a j)) wr) ∧ Hid (Below (w.heap.size + 1) w0 wr)) (fun k _ => n - (intOf k).toNat)
  case atStart => exact ⟨0, Nat.zero_le _, rfl, H0, Lib.hid (by rw [HW0.out]; exact (Below.refl _ _).alloc (by simp) _)⟩
  case round =>
    obtain ⟨j, hj, rfl, HV, HB⟩ := hrel
    have hbox0 : wr.cell? ⟨w.heap.size, 0, none⟩ = some (.slice A n c) := (HB.out.cell (Nat.lt_succ_self _)).trans (by rw [HW0.out, World.cell?_alloc_at _ _ _ _ rfl]; rfl)
    have hbox1 : wr.cell? ⟨w.heap.size, 1, none⟩ = some (.slice F m d) := (HB.out.cell (Nat.lt_succ_self _)).trans (by rw [HW0.out, World.cell?_alloc_at _ _ _ _ rfl]; rfl)
    by_cases hlt : j < n
    · go_wp2
      go_loopw [7] (fun i wi => ∃ k : Nat, k ≤ m ∧ i = .int .i64 k ∧ Hid (RowV (w.heap.size + 1) 4 (bools (roundR a (E.take k) (reachK n E a j))) wi) ∧ Hid (Below (w.heap.size + 1) w0 wi)) (fun i _ => m - (intOf i).toNat)
      case atStart => exact ⟨0, Nat.zero_le _, rfl, HV, HB⟩
      case round =>
        obtain ⟨k, hk2, rfl, HV2, HB2⟩ := hrel
        have hbox2 : wr.cell? ⟨w.heap.size, 0, none⟩ = some (.slice A n c) := (HB2.out.cell (Nat.lt_succ_self _)).trans (by rw [HW0.out, World.cell?_alloc_at _ _ _ _ rfl]; rfl)
        have hbox3 : wr.cell? ⟨w.heap.size, 1, none⟩ = some (.slice F m d) := (HB2.out.cell (Nat.lt_succ_self _)).trans (by rw [HW0.out, World.cell?_alloc_at _ _ _ _ rfl]; rfl)
        by_cases hlt2 : k < m
        · obtain ⟨bk, o, e, rfl, hbg, hek, hc1, hc2⟩ := HP.out.at_ (k := k) (by rw [HM.out]; exact hlt2)
          obtain ⟨x, y, rfl, hx, hy⟩ := fits_nat HF.out hek
          simp only at hc1 hc2
          have hd1 : wr.cell? ⟨bk, o + k * 2, none⟩ = some (.int .i64 x) := (HB2.out.cell (by show bk < _; omega)).trans (by rw [HW0.out, World.cell?_alloc_lt _ _ _ hbg]; exact hc1)
          have hd2 : wr.cell? ⟨bk, o + k * 2 + 1, none⟩ = some (.int .i64 y) := (HB2.out.cell (by show bk < _; omega)).trans (by rw [HW0.out, World.cell?_alloc_lt _ _ _ hbg]; exact hc2)
          obtain ⟨out, hout⟩ : ∃ out, out = roundR a (E.take k) (reachK n E a j) := ⟨_, rfl⟩
          have hol : out.length = n := by rw [hout, roundR_length, reachK_length]
          have HN := Lib.hid (roundR_snoc (a := a) (reachK n E a j) hek)
          rw [← hout] at HN HV2
          have ho1 := HV2.out.cell (bools_at (l := out) (j := x) (by rw [hol]; exact hx))
          have ho2 := HV2.out.cell (bools_at (l := out) (j := y) (by rw [hol]; exact hy))
          have hof := HV2.out.frozen y
          have hgl : w.heap.size + 1 < wr.heap.size := HV2.out.lt
          have HOL := Lib.hid hol
          clear hc1 hc2 hek hout hol
          by_cases h1 : x = a
          · subst h1
            have HN2 := Lib.hid (show roundR x (E.take (k + 1)) (reachK n E x j) = out.set y true by
              rw [HN.out]
              unfold relaxR
              rw [if_pos (.inl rfl)]
              simp)
            go_wp2
            go_roundw
            case rel => exact ⟨k + 1, by omega, by go_num, Lib.hid (by rw [HN2.out, bools_set]; exact (HV2.out.set y _).alloc _), Lib.hid ((HB2.out.setCell (Nat.le_refl _) _).alloc (by simp [World.setCell]; omega) _)⟩
            case measure => simp [intOf]; omega
          · have h2 : ((x : Int) == (a : Int)) = false := by simpa using fun e => h1 (Int.ofNat_inj.mp e)
            have H1 := Lib.hid h1
            clear h1
            cases hox : out.getD x false with
            | true =>
              have HN2 := Lib.hid (show roundR a (E.take (k + 1)) (reachK n E a j) = out.set y true by
                rw [HN.out]
                unfold relaxR
                rw [if_pos (.inr (by simpa using hox))]
                simp)
              rw [hox] at ho1
              clear hox
              go_wp2
              go_roundw
              case rel => exact ⟨k + 1, by omega, by go_num, Lib.hid (by rw [HN2.out, bools_set]; exact (HV2.out.set y _).alloc _), Lib.hid ((HB2.out.setCell (Nat.le_refl _) _).alloc (by simp [World.setCell]; omega) _)⟩
              case measure => simp [intOf]; omega
            | false =>
              have HN2 := Lib.hid (show roundR a (E.take (k + 1)) (reachK n E a j) = out by
                rw [HN.out]
                unfold relaxR
                rw [if_neg]
                rintro (h | h)
                · exact H1.out (Int.ofNat_inj.mp h)
                · simp only [Int.toNat_natCast] at h
                  rw [hox] at h
                  cases h)
              rw [hox] at ho1
              clear hox
              go_wp2
              go_roundw
              case rel => exact ⟨k + 1, by omega, by go_num, Lib.hid (by rw [HN2.out]; exact HV2.out.alloc _), Lib.hid (HB2.out.alloc (by omega) _)⟩
              case measure => simp [intOf]; omega
        · obtain rfl : k = m := by omega
          have HT : Hid (reachK n E a (j + 1) = roundR a (E.take k) (reachK n E a j)) := Lib.hid (by rw [List.take_of_length_le (by rw [HM.out]; omega)]; rfl)
          go_wp2
          go_roundw
          case rel => exact ⟨j + 1, by omega, by go_num, Lib.hid (by rw [HT.out]; exact HV2.out), HB2⟩
          case measure => simp [intOf]; omega
    · obtain rfl : j = n := by omega
      have HLEN := Lib.hid (reachK_length j E a j)
      go_wp2
      go_ret
      exact ⟨w.heap.size + 1, j, by rw [show (reach j E a).length = j from HLEN.out]; rfl, by omega, HV.out, ((below_alloc _).trans (by rw [← HW0.out]; exact HB.out.mono (by omega)))⟩
end Go.Proofs.YtpaambpajpmjdaaDoor
