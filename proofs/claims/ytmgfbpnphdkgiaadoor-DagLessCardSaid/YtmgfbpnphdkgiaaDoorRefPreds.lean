/- The contracts of trefoilref04.Preds and Succs in the seat YtmgfbpnphdkgiaaDoor. No statement is proved here. -/
import Derived.Test.YtmgfbpnphdkgiaaDoorRefTotal
import Derived.Test.YtmgfbpnphdkgiaaDoorOwn
set_option linter.unusedVariables false
namespace Go.Proofs.YtmgfbpnphdkgiaaDoor
open Go.RowKit

/-- The nodes below n with an edge to x; to which one leads from x. -/
def predsL (n : Nat) (E : List (Int × Int)) (x : Int) : List Int := ((List.range n).map Int.ofNat).filter fun a => decide ((a, x) ∈ E)
def succsL (n : Nat) (E : List (Int × Int)) (x : Int) : List Int := ((List.range n).map Int.ofNat).filter fun a => decide ((x, a) ∈ E)
theorem predsL_step (n : Nat) (E : List (Int × Int)) (x : Int) : predsL (n + 1) E x = if ((n : Int), x) ∈ E then predsL n E x ++ [(n : Int)] else predsL n E x := by
  unfold predsL
  rw [List.range_succ, List.map_append, List.filter_append]
  by_cases h : ((n : Int), x) ∈ E
  · rw [if_pos h]
    simp [h]
  · rw [if_neg h]
    simp [h]
theorem succsL_step (n : Nat) (E : List (Int × Int)) (x : Int) : succsL (n + 1) E x = if (x, (n : Int)) ∈ E then succsL n E x ++ [(n : Int)] else succsL n E x := by
  unfold succsL
  rw [List.range_succ, List.map_append, List.filter_append]
  by_cases h : (x, (n : Int)) ∈ E
  · rw [if_pos h]
    simp [h]
  · rw [if_neg h]
    simp [h]
theorem predsL_length (n : Nat) (E : List (Int × Int)) (x : Int) : (predsL n E x).length ≤ n := by
  unfold predsL
  refine Nat.le_trans (List.length_filter_le _ _) ?_
  simp
theorem succsL_length (n : Nat) (E : List (Int × Int)) (x : Int) : (succsL n E x).length ≤ n := by
  unfold succsL
  refine Nat.le_trans (List.length_filter_le _ _) ?_
  simp
/-- A new list of integers, handed out. -/
def GotInts (zs : List Int) (w : World) (e : Ending) (w' : World) : Prop :=
  ∃ A c, e = .returned (.slice A zs.length c) ∧ Ints w' w'.heap.size A zs ∧ Below w.heap.size w w'

theorem ownI_first (w : World) (o : Obj) : OwnI ((w.alloc o).alloc (.cells #[] 3)) (w.heap.size + 1) (.slice (some ⟨w.heap.size + 1, 0, none⟩) 0 0) [] := by
  have h := OwnI.new (w.alloc o) (w.heap.size + 1) (by simp)
  rwa [show (w.alloc o).heap.size = w.heap.size + 1 by simp] at h
set_option maxRecDepth 100000 in
set_option maxHeartbeats 2000000 in
theorem preds_any (A F : Option Addr) (n c m d : Nat) (E : List (Int × Int)) (x : Int) (w : World) (hl : n ≤ 1000) (hm : E.length = m) (hk : m ≤ 1000) (hP : Pairs w w.heap.size F E) :
    Calls Tryd.prog 28 #[.agg #[.slice A n c, .slice F m d], .int .i64 x] w (GotInts (predsL n E x) w) := by
  have HP := Lib.hid hP
  have C := Lib.hid (fun a W hW => near_any A F n c m d E a x W hm hk hW)
  clear hP hm
  go_enter Tryd.func28, Tryd.ntmps28
  go_wp2
  go_loopw [5, 6] (fun v i wr => ∃ (j k : Nat) (A' : Option Addr) (c' : Nat), j ≤ n ∧ k ≤ j ∧ i = .int .i64 j ∧ v = .slice A' k c' ∧ Hid (k = (predsL j E x).length) ∧ Hid (OwnI wr (w.heap.size + 1) v (predsL j E x)) ∧ Hid (Below (w.heap.size + 1) (w.alloc (.cells #[.slice A n c, .slice F m d] 25)) wr)) (fun _ i _ => n - (intOf i).toNat)
  case atStart => exact ⟨0, 0, _, _, Nat.zero_le _, Nat.le_refl _, rfl, rfl, Lib.hid rfl, Lib.hid (ownI_first w _), Lib.hid ((Below.refl _ _).alloc (by simp) _)⟩
  case round =>
    obtain ⟨j, k, A', c', hj, hkj, rfl, rfl, HK, HO, HB⟩ := hrel
    have hbox0 : wr.cell? ⟨w.heap.size, 0, none⟩ = some (.slice A n c) := (HB.out.cell (Nat.lt_succ_self _)).trans (by rw [World.cell?_alloc_at _ _ _ _ rfl]; rfl)
    have hbox1 : wr.cell? ⟨w.heap.size, 1, none⟩ = some (.slice F m d) := (HB.out.cell (Nat.lt_succ_self _)).trans (by rw [World.cell?_alloc_at _ _ _ _ rfl]; rfl)
    by_cases hlt : j < n
    · have hsz : w.heap.size + 1 ≤ wr.heap.size := by have := HB.out.size; simpa using this
      have C1 := Lib.hid (C.out (j : Int) wr (((HP.out.alloc (Nat.le_refl _) _).below (HB.out.mono (by omega))).more (by omega)))
      have HST := Lib.hid (predsL_step j E x)
      by_cases he : ((j : Int), x) ∈ E
      · rw [decide_eq_true he] at C1
        rw [if_pos he] at HST
        clear he
        go_wp2_with fail
        refine C1.out.mono ?_
        rintro e w1 ⟨rfl, b1⟩
        have HO1 := Lib.hid (HO.out.below b1)
        have HB1 := Lib.hid (HB.out.trans (b1.mono hsz))
        have hsz1 : w.heap.size + 1 ≤ w1.heap.size := Nat.le_trans hsz b1.size
        clear b1
        go_wp2_with (at_builtin; refine wpList_push rfl _ _ rfl w1 (w.heap.size + 1) _ (predsL j E x) (j : Int) k HK.out.symm (by omega) HO1.out hsz1 rfl rfl ?_; intro A2 c2 w2 HO2 HB2; (have HO2' := Lib.hid HO2); (have HB2' := Lib.hid HB2); clear HO2 HB2)
        go_roundw
        case rel => exact ⟨j + 1, k + 1, A2, c2, by omega, by omega, by go_num, rfl, Lib.hid (by rw [HST.out, List.length_append, HK.out]; rfl), Lib.hid (by rw [HST.out]; exact HO2'.out), Lib.hid (HB1.out.trans HB2'.out)⟩
        case measure => simp [intOf]; omega
      · rw [decide_eq_false he] at C1
        rw [if_neg he] at HST
        clear he
        go_wp2_with fail
        refine C1.out.mono ?_
        rintro e w1 ⟨rfl, b1⟩
        have HO1 := Lib.hid (HO.out.below b1)
        have HB1 := Lib.hid (HB.out.trans (b1.mono hsz))
        clear b1
        go_wp2
        go_roundw
        case rel => exact ⟨j + 1, k, A', c', by omega, by omega, by go_num, rfl, Lib.hid (by rw [HST.out, HK.out]), Lib.hid (by rw [HST.out]; exact HO1.out), HB1⟩
        case measure => simp [intOf]; omega
    · obtain rfl : j = n := by omega
      obtain ⟨A2, c2, he, hI⟩ := HO.out.slice
      have HI := Lib.hid hI
      have HE := Lib.hid he
      clear hI he
      go_wp2
      go_ret
      exact ⟨A2, c2, by rw [← HE.out]; rfl, HI.out, (below_alloc _).trans (HB.out.mono (by omega))⟩
set_option maxRecDepth 100000 in
set_option maxHeartbeats 2000000 in
theorem succs_any (A F : Option Addr) (n c m d : Nat) (E : List (Int × Int)) (x : Int) (w : World) (hl : n ≤ 1000) (hm : E.length = m) (hk : m ≤ 1000) (hP : Pairs w w.heap.size F E) :
    Calls Tryd.prog 29 #[.agg #[.slice A n c, .slice F m d], .int .i64 x] w (GotInts (succsL n E x) w) := by
  have HP := Lib.hid hP
  have C := Lib.hid (fun a W hW => near_any A F n c m d E x a W hm hk hW)
  clear hP hm
  go_enter Tryd.func29, Tryd.ntmps29
  go_wp2
  go_loopw [5, 6] (fun v i wr => ∃ (j k : Nat) (A' : Option Addr) (c' : Nat), j ≤ n ∧ k ≤ j ∧ i = .int .i64 j ∧ v = .slice A' k c' ∧ Hid (k = (succsL j E x).length) ∧ Hid (OwnI wr (w.heap.size + 1) v (succsL j E x)) ∧ Hid (Below (w.heap.size + 1) (w.alloc (.cells #[.slice A n c, .slice F m d] 25)) wr)) (fun _ i _ => n - (intOf i).toNat)
  case atStart => exact ⟨0, 0, _, _, Nat.zero_le _, Nat.le_refl _, rfl, rfl, Lib.hid rfl, Lib.hid (ownI_first w _), Lib.hid ((Below.refl _ _).alloc (by simp) _)⟩
  case round =>
    obtain ⟨j, k, A', c', hj, hkj, rfl, rfl, HK, HO, HB⟩ := hrel
    have hbox0 : wr.cell? ⟨w.heap.size, 0, none⟩ = some (.slice A n c) := (HB.out.cell (Nat.lt_succ_self _)).trans (by rw [World.cell?_alloc_at _ _ _ _ rfl]; rfl)
    have hbox1 : wr.cell? ⟨w.heap.size, 1, none⟩ = some (.slice F m d) := (HB.out.cell (Nat.lt_succ_self _)).trans (by rw [World.cell?_alloc_at _ _ _ _ rfl]; rfl)
    by_cases hlt : j < n
    · have hsz : w.heap.size + 1 ≤ wr.heap.size := by have := HB.out.size; simpa using this
      have C1 := Lib.hid (C.out (j : Int) wr (((HP.out.alloc (Nat.le_refl _) _).below (HB.out.mono (by omega))).more (by omega)))
      have HST := Lib.hid (succsL_step j E x)
      by_cases he : (x, (j : Int)) ∈ E
      · rw [decide_eq_true he] at C1
        rw [if_pos he] at HST
        clear he
        go_wp2_with fail
        refine C1.out.mono ?_
        rintro e w1 ⟨rfl, b1⟩
        have HO1 := Lib.hid (HO.out.below b1)
        have HB1 := Lib.hid (HB.out.trans (b1.mono hsz))
        have hsz1 : w.heap.size + 1 ≤ w1.heap.size := Nat.le_trans hsz b1.size
        clear b1
        go_wp2_with (at_builtin; refine wpList_push rfl _ _ rfl w1 (w.heap.size + 1) _ (succsL j E x) (j : Int) k HK.out.symm (by omega) HO1.out hsz1 rfl rfl ?_; intro A2 c2 w2 HO2 HB2; (have HO2' := Lib.hid HO2); (have HB2' := Lib.hid HB2); clear HO2 HB2)
        go_roundw
        case rel => exact ⟨j + 1, k + 1, A2, c2, by omega, by omega, by go_num, rfl, Lib.hid (by rw [HST.out, List.length_append, HK.out]; rfl), Lib.hid (by rw [HST.out]; exact HO2'.out), Lib.hid (HB1.out.trans HB2'.out)⟩
        case measure => simp [intOf]; omega
      · rw [decide_eq_false he] at C1
        rw [if_neg he] at HST
        clear he
        go_wp2_with fail
        refine C1.out.mono ?_
        rintro e w1 ⟨rfl, b1⟩
        have HO1 := Lib.hid (HO.out.below b1)
        have HB1 := Lib.hid (HB.out.trans (b1.mono hsz))
        clear b1
        go_wp2
        go_roundw
        case rel => exact ⟨j + 1, k, A', c', by omega, by omega, by go_num, rfl, Lib.hid (by rw [HST.out, HK.out]), Lib.hid (by rw [HST.out]; exact HO1.out), HB1⟩
        case measure => simp [intOf]; omega
    · obtain rfl : j = n := by omega
      obtain ⟨A2, c2, he, hI⟩ := HO.out.slice
      have HI := Lib.hid hI
      have HE := Lib.hid he
      clear hI he
      go_wp2
      go_ret
      exact ⟨A2, c2, by rw [← HE.out]; rfl, HI.out, (below_alloc _).trans (HB.out.mono (by omega))⟩
end Go.Proofs.YtmgfbpnphdkgiaaDoor
