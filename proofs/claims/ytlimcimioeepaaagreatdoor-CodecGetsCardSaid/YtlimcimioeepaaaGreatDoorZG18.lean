/- slices.Equal over integers, edges, parts and futures, in the seat YtlimcimioeepaaaGreatDoor: their contracts (printed by desc/mk_req.py).
   slices.EqualFunc over barriers, and desc.Same, in the seat YtlimcimioeepaaaGreatDoor: their contracts.
   The contract of desc.Same in the seat YtlimcimioeepaaaGreatDoor (printed by desc/mk_rsame2.py).
   No statement is proved here. -/
import Derived.Test.YtlimcimioeepaaaGreatDoorZG1
import Derived.Test.YtlimcimioeepaaaGreatDoorZG14
import Derived.Test.YtlimcimioeepaaaGreatDoorZG17
set_option linter.unusedVariables false
namespace Go.Proofs.YtlimcimioeepaaaGreatDoor
open Go.RowKit

theorem part_fieldsR : (Tryz.prog.fieldsOf 52).toList.map (fun f => (f.name, f.type, f.offset)) = [("Op", 50, 0), ("Arg", 3, 1), ("Work", 3, 2)] := by kernel_rfl
theorem part_partsR (x y z : Int) (W : World) : (part 50 #[.int .i64 x, .int .i64 y, .int .i64 z] 0).run Tryz.prog W = .ok (.int .i64 x) W ∧ (part 3 #[.int .i64 x, .int .i64 y, .int .i64 z] 1).run Tryz.prog W = .ok (.int .i64 y) W ∧ (part 3 #[.int .i64 x, .int .i64 y, .int .i64 z] 2).run Tryz.prog W = .ok (.int .i64 z) W := ⟨by kernel_rfl, by kernel_rfl, by kernel_rfl⟩
theorem part_eqR (x y z u v s : Int) (W : World) : (Op.equalIn 10000 52 (.agg #[.int .i64 x, .int .i64 y, .int .i64 z]) (.agg #[.int .i64 u, .int .i64 v, .int .i64 s])).run Tryz.prog W = .ok (x == u && (y == v && z == s)) W := by
  have hf := part_fieldsR
  rw [run_equalIn_agg (d := 9999) W 52 _ _ (by kernel_rfl) (by kernel_rfl)]
  generalize (Tryz.prog.fieldsOf 52).toList = fs at hf
  match fs, hf with
  | [], hf => simp at hf
  | [_], hf => simp at hf
  | [_, _], hf => simp at hf
  | _ :: _ :: _ :: _ :: _, hf => simp at hf
  | [f, g, k], hf =>
    simp only [List.map_cons, List.map_nil, List.cons.injEq, Prod.mk.injEq, and_true] at hf
    obtain ⟨⟨n1, t1, o1⟩, ⟨n2, t2, o2⟩, n3, t3, o3⟩ := hf
    have e0 := fun a b W => run_equalIn_int (P := Tryz.prog) W 9998 50 .i64 .i64 a b Tryz.underlying50
    have e1 := fun a b W => run_equalIn_int (P := Tryz.prog) W 9998 3 .i64 .i64 a b Tryz.underlying3
    have p1 := fun a b c W => (part_partsR a b c W).1
    have p2 := fun a b c W => (part_partsR a b c W).2.1
    have p3 := fun a b c W => (part_partsR a b c W).2.2
    simp only [Op.eqFields, n1, n2, n3, t1, t2, t3, o1, o2, o3]
    by_cases h1 : x = u
    · subst h1
      by_cases h2 : y = v
      · subst h2
        by_cases h3 : z = s
        · simp [p1, p2, p3, e0, e1, h3]
        · simp [p1, p2, p3, e0, e1, h3]
      · simp [p1, p2, p3, e0, e1, h2]
    · simp [p1, p2, p3, e0, e1, h1]
theorem part_neq_runR (x y z u v s : Int) (W : World) : (binOp .neq 52 (.agg #[.int .i64 x, .int .i64 y, .int .i64 z]) (.agg #[.int .i64 u, .int .i64 v, .int .i64 s])).run Tryz.prog W = .ok (.bool (!(x == u && (y == v && z == s)))) W := by
  rw [run_neq_struct, part_eqR]
  rfl
theorem eq_parts (B : Nat) (A1 A2 : Option Addr) (c1 c2 n m : Nat) (xs ys : List (Int × Int × Int)) (r : Bool) (hr : r = true ↔ xs = ys) (w : World) (hn : xs.length = n) (hm : ys.length = m) (hx : n ≤ 1000) (hy : m ≤ 1000) (h1 : Trips w B A1 xs) (h2 : Trips w B A2 ys) :
    Calls Tryz.prog 36 #[.slice A1 n c1, .slice A2 m c2] w fun e w' => e = .returned (.bool r) ∧ ∃ N, w' = w.drewN N := by
  have HN := Lib.hid hn
  have HM := Lib.hid hm
  have HR := Lib.hid hr
  have H1 := Lib.hid h1
  have H2 := Lib.hid h2
  clear hn hm h1 h2 hr
  by_cases hnm : n = m
  · subst hnm
    go_enter Tryz.func36, Tryz.ntmps36
    go_wp2
    go_loopw [13] (fun i wr => ∃ j N : Nat, j ≤ n ∧ i = .int .i64 j ∧ Hid (xs.take j = ys.take j) ∧ wr = w.drewN N) (fun i _ => n - (intOf i).toNat)
    case atStart => exact ⟨0, 0, Nat.zero_le _, rfl, Lib.hid rfl, rfl⟩
    case round =>
      obtain ⟨j, N, hj, rfl, HT, rfl⟩ := hrel
      by_cases hlt : j < n
      · obtain ⟨b1, o1, x1, x2, x3, rfl, _, hx1, hc1, hc2, hc3⟩ := H1.out.at_ (k := j) (by rw [HN.out]; exact hlt)
        obtain ⟨b2, o2, y1, y2, y3, rfl, _, hy1, hd1, hd2, hd3⟩ := H2.out.at_ (k := j) (by rw [HM.out]; exact hlt)
        have hrun := fun W => part_neq_runR x1 x2 x3 y1 y2 y3 W
        have HX := Lib.hid hx1
        have HY := Lib.hid hy1
        clear hx1 hy1
        by_cases hxy : (x1, x2, x3) = (y1, y2, y3)
        · injection hxy with h1 h2
          injection h2 with h2 h3
          subst h1 h2 h3
          have hb : (x1 == x1 && (x2 == x2 && x3 == x3)) = true := by simp
          simp only [hb] at hrun
          go_wp2
          go_quiet (fail)
          go_wp2
          go_roundw
          case rel => exact ⟨j + 1, _, by omega, by go_num, Lib.hid (take_next HT.out HX.out HY.out), rfl⟩
          case measure => simp [intOf]; omega
        · have hb : (x1 == y1 && (x2 == y2 && x3 == y3)) = false := by
            rw [← Bool.not_eq_true]
            intro h
            simp only [Bool.and_eq_true, beq_iff_eq] at h
            exact hxy (by rw [h.1, h.2.1, h.2.2])
          simp only [hb] at hrun
          have HNO := Lib.hid (show r = false by rw [← Bool.not_eq_true]; exact fun h => take_part HX.out HY.out hxy (HR.out.mp h))
          clear hxy
          go_wp2
          go_quiet (fail)
          go_wp2
          go_ret
          exact ⟨by rw [HNO.out]; rfl, _, drews w N _⟩
      · obtain rfl : j = n := by omega
        have HYES := Lib.hid (HR.out.mpr (take_ext (by rw [HN.out, HM.out]) (by rw [HN.out]; exact HT.out)))
        go_wp2
        go_ret
        exact ⟨by rw [HYES.out]; rfl, _, rfl⟩
  · have hb : ((n : Int) != (m : Int)) = true := by simp; omega
    have HNO := Lib.hid (show r = false by rw [← Bool.not_eq_true]; exact fun h => hnm (by rw [← HN.out, ← HM.out, HR.out.mp h]))
    go_enter Tryz.func36, Tryz.ntmps36
    go_wp2
    go_ret
    exact ⟨by rw [HNO.out]; rfl, 0, rfl⟩

theorem future_fieldsR : (Tryz.prog.fieldsOf 58).toList.map (fun f => (f.name, f.type, f.offset)) = [("Maker", 3, 0), ("User", 3, 1), ("At", 3, 2)] := by kernel_rfl
theorem future_partsR (x y z : Int) (W : World) : (part 3 #[.int .i64 x, .int .i64 y, .int .i64 z] 0).run Tryz.prog W = .ok (.int .i64 x) W ∧ (part 3 #[.int .i64 x, .int .i64 y, .int .i64 z] 1).run Tryz.prog W = .ok (.int .i64 y) W ∧ (part 3 #[.int .i64 x, .int .i64 y, .int .i64 z] 2).run Tryz.prog W = .ok (.int .i64 z) W := ⟨by kernel_rfl, by kernel_rfl, by kernel_rfl⟩
theorem future_eqR (x y z u v s : Int) (W : World) : (Op.equalIn 10000 58 (.agg #[.int .i64 x, .int .i64 y, .int .i64 z]) (.agg #[.int .i64 u, .int .i64 v, .int .i64 s])).run Tryz.prog W = .ok (x == u && (y == v && z == s)) W := by
  have hf := future_fieldsR
  rw [run_equalIn_agg (d := 9999) W 58 _ _ (by kernel_rfl) (by kernel_rfl)]
  generalize (Tryz.prog.fieldsOf 58).toList = fs at hf
  match fs, hf with
  | [], hf => simp at hf
  | [_], hf => simp at hf
  | [_, _], hf => simp at hf
  | _ :: _ :: _ :: _ :: _, hf => simp at hf
  | [f, g, k], hf =>
    simp only [List.map_cons, List.map_nil, List.cons.injEq, Prod.mk.injEq, and_true] at hf
    obtain ⟨⟨n1, t1, o1⟩, ⟨n2, t2, o2⟩, n3, t3, o3⟩ := hf
    have e0 := fun a b W => run_equalIn_int (P := Tryz.prog) W 9998 3 .i64 .i64 a b Tryz.underlying3
    have e1 := fun a b W => run_equalIn_int (P := Tryz.prog) W 9998 3 .i64 .i64 a b Tryz.underlying3
    have p1 := fun a b c W => (future_partsR a b c W).1
    have p2 := fun a b c W => (future_partsR a b c W).2.1
    have p3 := fun a b c W => (future_partsR a b c W).2.2
    simp only [Op.eqFields, n1, n2, n3, t1, t2, t3, o1, o2, o3]
    by_cases h1 : x = u
    · subst h1
      by_cases h2 : y = v
      · subst h2
        by_cases h3 : z = s
        · simp [p1, p2, p3, e0, e1, h3]
        · simp [p1, p2, p3, e0, e1, h3]
      · simp [p1, p2, p3, e0, e1, h2]
    · simp [p1, p2, p3, e0, e1, h1]
theorem future_neq_runR (x y z u v s : Int) (W : World) : (binOp .neq 58 (.agg #[.int .i64 x, .int .i64 y, .int .i64 z]) (.agg #[.int .i64 u, .int .i64 v, .int .i64 s])).run Tryz.prog W = .ok (.bool (!(x == u && (y == v && z == s)))) W := by
  rw [run_neq_struct, future_eqR]
  rfl
theorem eq_futures (B : Nat) (A1 A2 : Option Addr) (c1 c2 n m : Nat) (xs ys : List (Int × Int × Int)) (r : Bool) (hr : r = true ↔ xs = ys) (w : World) (hn : xs.length = n) (hm : ys.length = m) (hx : n ≤ 1000) (hy : m ≤ 1000) (h1 : Trips w B A1 xs) (h2 : Trips w B A2 ys) :
    Calls Tryz.prog 38 #[.slice A1 n c1, .slice A2 m c2] w fun e w' => e = .returned (.bool r) ∧ ∃ N, w' = w.drewN N := by
  have HN := Lib.hid hn
  have HM := Lib.hid hm
  have HR := Lib.hid hr
  have H1 := Lib.hid h1
  have H2 := Lib.hid h2
  clear hn hm h1 h2 hr
  by_cases hnm : n = m
  · subst hnm
    go_enter Tryz.func38, Tryz.ntmps38
    go_wp2
    go_loopw [13] (fun i wr => ∃ j N : Nat, j ≤ n ∧ i = .int .i64 j ∧ Hid (xs.take j = ys.take j) ∧ wr = w.drewN N) (fun i _ => n - (intOf i).toNat)
    case atStart => exact ⟨0, 0, Nat.zero_le _, rfl, Lib.hid rfl, rfl⟩
    case round =>
      obtain ⟨j, N, hj, rfl, HT, rfl⟩ := hrel
      by_cases hlt : j < n
      · obtain ⟨b1, o1, x1, x2, x3, rfl, _, hx1, hc1, hc2, hc3⟩ := H1.out.at_ (k := j) (by rw [HN.out]; exact hlt)
        obtain ⟨b2, o2, y1, y2, y3, rfl, _, hy1, hd1, hd2, hd3⟩ := H2.out.at_ (k := j) (by rw [HM.out]; exact hlt)
        have hrun := fun W => future_neq_runR x1 x2 x3 y1 y2 y3 W
        have HX := Lib.hid hx1
        have HY := Lib.hid hy1
        clear hx1 hy1
        by_cases hxy : (x1, x2, x3) = (y1, y2, y3)
        · injection hxy with h1 h2
          injection h2 with h2 h3
          subst h1 h2 h3
          have hb : (x1 == x1 && (x2 == x2 && x3 == x3)) = true := by simp
          simp only [hb] at hrun
          go_wp2
          go_quiet (fail)
          go_wp2
          go_roundw
          case rel => exact ⟨j + 1, _, by omega, by go_num, Lib.hid (take_next HT.out HX.out HY.out), rfl⟩
          case measure => simp [intOf]; omega
        · have hb : (x1 == y1 && (x2 == y2 && x3 == y3)) = false := by
            rw [← Bool.not_eq_true]
            intro h
            simp only [Bool.and_eq_true, beq_iff_eq] at h
            exact hxy (by rw [h.1, h.2.1, h.2.2])
          simp only [hb] at hrun
          have HNO := Lib.hid (show r = false by rw [← Bool.not_eq_true]; exact fun h => take_part HX.out HY.out hxy (HR.out.mp h))
          clear hxy
          go_wp2
          go_quiet (fail)
          go_wp2
          go_ret
          exact ⟨by rw [HNO.out]; rfl, _, drews w N _⟩
      · obtain rfl : j = n := by omega
        have HYES := Lib.hid (HR.out.mpr (take_ext (by rw [HN.out, HM.out]) (by rw [HN.out]; exact HT.out)))
        go_wp2
        go_ret
        exact ⟨by rw [HYES.out]; rfl, _, rfl⟩
  · have hb : ((n : Int) != (m : Int)) = true := by simp; omega
    have HNO := Lib.hid (show r = false by rw [← Bool.not_eq_true]; exact fun h => hnm (by rw [← HN.out, ← HM.out, HR.out.mp h]))
    go_enter Tryz.func38, Tryz.ntmps38
    go_wp2
    go_ret
    exact ⟨by rw [HNO.out]; rfl, 0, rfl⟩

theorem eq_ints' (B : Nat) (A1 A2 : Option Addr) (c1 c2 n m : Nat) (xs ys : List Int) (r : Bool) (hr : r = true ↔ xs = ys) (w : World) (hn : xs.length = n) (hm : ys.length = m) (hx : n ≤ 1000) (hy : m ≤ 1000) (h1 : Ints w B A1 xs) (h2 : Ints w B A2 ys) :
    Calls Tryz.prog 35 #[.slice A1 n c1, .slice A2 m c2] w fun e w' => e = .returned (.bool r) ∧ ∃ N, w' = w.drewN N := by
  have HN := Lib.hid hn
  have HM := Lib.hid hm
  have HR := Lib.hid hr
  have H1 := Lib.hid h1
  have H2 := Lib.hid h2
  clear hn hm h1 h2 hr
  by_cases hnm : n = m
  · subst hnm
    go_enter Tryz.func35, Tryz.ntmps35
    go_wp2
    go_loopw [13] (fun i wr => ∃ j N : Nat, j ≤ n ∧ i = .int .i64 j ∧ Hid (xs.take j = ys.take j) ∧ wr = w.drewN N) (fun i _ => n - (intOf i).toNat)
    case atStart => exact ⟨0, 0, Nat.zero_le _, rfl, Lib.hid rfl, rfl⟩
    case round =>
      obtain ⟨j, N, hj, rfl, HT, rfl⟩ := hrel
      by_cases hlt : j < n
      · obtain ⟨b1, o1, x, rfl, _, hx1, hc1⟩ := H1.out.at_ (k := j) (by rw [HN.out]; exact hlt)
        obtain ⟨b2, o2, y, rfl, _, hy1, hc2⟩ := H2.out.at_ (k := j) (by rw [HM.out]; exact hlt)
        have HX := Lib.hid hx1
        have HY := Lib.hid hy1
        clear hx1 hy1
        by_cases hxy : x = y
        · subst hxy
          go_wp2
          go_quiet (fail)
          go_wp2
          go_roundw
          case rel => exact ⟨j + 1, _, by omega, by go_num, Lib.hid (take_next HT.out HX.out HY.out), rfl⟩
          case measure => simp [intOf]; omega
        · have hb : (x != y) = true := by simpa using hxy
          have HNO := Lib.hid (show r = false by rw [← Bool.not_eq_true]; exact fun h => take_part HX.out HY.out hxy (HR.out.mp h))
          clear hxy
          go_wp2
          go_quiet (fail)
          go_wp2
          go_ret
          exact ⟨by rw [HNO.out]; rfl, _, drews w N _⟩
      · obtain rfl : j = n := by omega
        have HYES := Lib.hid (HR.out.mpr (take_ext (by rw [HN.out, HM.out]) (by rw [HN.out]; exact HT.out)))
        go_wp2
        go_ret
        exact ⟨by rw [HYES.out]; rfl, _, rfl⟩
  · have hb : ((n : Int) != (m : Int)) = true := by simp; omega
    have HNO := Lib.hid (show r = false by rw [← Bool.not_eq_true]; exact fun h => hnm (by rw [← HN.out, ← HM.out, HR.out.mp h]))
    go_enter Tryz.func35, Tryz.ntmps35
    go_wp2
    go_ret
    exact ⟨by rw [HNO.out]; rfl, 0, rfl⟩

theorem eq_edges' (B : Nat) (A1 A2 : Option Addr) (c1 c2 n m : Nat) (xs ys : List (Int × Int)) (r : Bool) (hr : r = true ↔ xs = ys) (w : World) (hn : xs.length = n) (hm : ys.length = m) (hx : n ≤ 1000) (hy : m ≤ 1000) (h1 : Pairs w B A1 xs) (h2 : Pairs w B A2 ys) :
    Calls Tryz.prog 37 #[.slice A1 n c1, .slice A2 m c2] w fun e w' => e = .returned (.bool r) ∧ ∃ N, w' = w.drewN N := by
  have HN := Lib.hid hn
  have HM := Lib.hid hm
  have HR := Lib.hid hr
  have H1 := Lib.hid h1
  have H2 := Lib.hid h2
  clear hn hm h1 h2 hr
  by_cases hnm : n = m
  · subst hnm
    go_enter Tryz.func37, Tryz.ntmps37
    go_wp2
    go_loopw [13] (fun i wr => ∃ j N : Nat, j ≤ n ∧ i = .int .i64 j ∧ Hid (xs.take j = ys.take j) ∧ wr = w.drewN N) (fun i _ => n - (intOf i).toNat)
    case atStart => exact ⟨0, 0, Nat.zero_le _, rfl, Lib.hid rfl, rfl⟩
    case round =>
      obtain ⟨j, N, hj, rfl, HT, rfl⟩ := hrel
      by_cases hlt : j < n
      · obtain ⟨b1, o1, ⟨x1, x2⟩, rfl, _, hx1, hc1, hc2⟩ := H1.out.at_ (k := j) (by rw [HN.out]; exact hlt)
        obtain ⟨b2, o2, ⟨y1, y2⟩, rfl, _, hy1, hd1, hd2⟩ := H2.out.at_ (k := j) (by rw [HM.out]; exact hlt)
        simp only at hc1 hc2 hd1 hd2
        have hrun := fun W => edge_neq_run x1 x2 y1 y2 W
        have HX := Lib.hid hx1
        have HY := Lib.hid hy1
        clear hx1 hy1
        by_cases hxy : (x1, x2) = (y1, y2)
        · injection hxy with h1 h2
          subst h1 h2
          have hb : (x1 == x1 && x2 == x2) = true := by simp
          simp only [hb] at hrun
          go_wp2
          go_quiet (fail)
          go_wp2
          go_roundw
          case rel => exact ⟨j + 1, _, by omega, by go_num, Lib.hid (take_next HT.out HX.out HY.out), rfl⟩
          case measure => simp [intOf]; omega
        · have hb : (x1 == y1 && x2 == y2) = false := by
            rw [← Bool.not_eq_true]
            intro h
            simp only [Bool.and_eq_true, beq_iff_eq] at h
            exact hxy (by rw [h.1, h.2])
          simp only [hb] at hrun
          have HNO := Lib.hid (show r = false by rw [← Bool.not_eq_true]; exact fun h => take_part HX.out HY.out hxy (HR.out.mp h))
          clear hxy
          go_wp2
          go_quiet (fail)
          go_wp2
          go_ret
          exact ⟨by rw [HNO.out]; rfl, _, drews w N _⟩
      · obtain rfl : j = n := by omega
        have HYES := Lib.hid (HR.out.mpr (take_ext (by rw [HN.out, HM.out]) (by rw [HN.out]; exact HT.out)))
        go_wp2
        go_ret
        exact ⟨by rw [HYES.out]; rfl, _, rfl⟩
  · have hb : ((n : Int) != (m : Int)) = true := by simp; omega
    have HNO := Lib.hid (show r = false by rw [← Bool.not_eq_true]; exact fun h => hnm (by rw [← HN.out, ← HM.out, HR.out.mp h]))
    go_enter Tryz.func37, Tryz.ntmps37
    go_wp2
    go_ret
    exact ⟨by rw [HNO.out]; rfl, 0, rfl⟩

end Go.Proofs.YtlimcimioeepaaaGreatDoor
set_option linter.unusedVariables false
namespace Go.Proofs.YtlimcimioeepaaaGreatDoor
open Go.RowKit

structure St2 (w : World) (A1 : Option Addr) (n1 c1 : Nat) (A2 : Option Addr) (n2 c2 : Nat) (B1 : Option Addr) (m1 d1 : Nat) (B2 : Option Addr) (m2 d2 : Nat) (xs ys us vs : List Int) (W : World) : Prop where
  bel : Below w.heap.size w W
  a0 : W.cell? ⟨w.heap.size, 0, none⟩ = some (.slice A1 n1 c1)
  a1 : W.cell? ⟨w.heap.size, 1, none⟩ = some (.slice A2 n2 c2)
  b0 : W.cell? ⟨w.heap.size + 1, 0, none⟩ = some (.slice B1 m1 d1)
  b1 : W.cell? ⟨w.heap.size + 1, 1, none⟩ = some (.slice B2 m2 d2)
  xs : Ints W w.heap.size A1 xs
  ys : Ints W w.heap.size A2 ys
  us : Ints W w.heap.size B1 us
  vs : Ints W w.heap.size B2 vs
theorem St2.next {w w1 w2 : World} {A1 : Option Addr} {n1 c1 : Nat} {A2 : Option Addr} {n2 c2 : Nat} {B1 : Option Addr} {m1 d1 : Nat} {B2 : Option Addr} {m2 d2 : Nat} {xs ys us vs : List Int} (h : St2 w A1 n1 c1 A2 n2 c2 B1 m1 d1 B2 m2 d2 xs ys us vs w1) (hb : Below w1.heap.size w1 w2) : St2 w A1 n1 c1 A2 n2 c2 B1 m1 d1 B2 m2 d2 xs ys us vs w2 :=
  ⟨h.bel.trans (hb.mono h.bel.size), (hb.cell (World.block_lt_of_cell? _ _ h.a0)).trans h.a0, (hb.cell (World.block_lt_of_cell? _ _ h.a1)).trans h.a1, (hb.cell (World.block_lt_of_cell? _ _ h.b0)).trans h.b0, (hb.cell (World.block_lt_of_cell? _ _ h.b1)).trans h.b1,
    h.xs.keep fun a ha => hb.cell (Nat.lt_of_lt_of_le ha h.bel.size), h.ys.keep fun a ha => hb.cell (Nat.lt_of_lt_of_le ha h.bel.size), h.us.keep fun a ha => hb.cell (Nat.lt_of_lt_of_le ha h.bel.size), h.vs.keep fun a ha => hb.cell (Nat.lt_of_lt_of_le ha h.bel.size)⟩
set_option maxRecDepth 100000 in
set_option maxHeartbeats 4000000 in
theorem same1_any (A1 : Option Addr) (n1 c1 : Nat) (A2 : Option Addr) (n2 c2 : Nat) (B1 : Option Addr) (m1 d1 : Nat) (B2 : Option Addr) (m2 d2 : Nat) (xs ys us vs : List Int) (r : Bool) (hr : r = true ↔ xs = us ∧ ys = vs) (w : World)
    (hn1 : xs.length = n1) (hn2 : ys.length = n2) (hm1 : us.length = m1) (hm2 : vs.length = m2) (l1 : n1 ≤ 1000) (l2 : n2 ≤ 1000) (l3 : m1 ≤ 1000) (l4 : m2 ≤ 1000) (hx : Ints w w.heap.size A1 xs) (hy : Ints w w.heap.size A2 ys) (hu : Ints w w.heap.size B1 us) (hv : Ints w w.heap.size B2 vs) :
    Calls Tryz.prog 34 #[.agg #[.slice A1 n1 c1, .slice A2 n2 c2], .agg #[.slice B1 m1 d1, .slice B2 m2 d2]] w fun e w' => e = .returned (.bool r) ∧ Below w.heap.size w w' := by
  have X0 : Hid (St2 w A1 n1 c1 A2 n2 c2 B1 m1 d1 B2 m2 d2 xs ys us vs ((w.alloc (.cells #[.slice A1 n1 c1, .slice A2 n2 c2] 49)).alloc (.cells #[.slice B1 m1 d1, .slice B2 m2 d2] 49))) := Lib.hid (by
    have hs : (w.alloc (.cells #[.slice A1 n1 c1, .slice A2 n2 c2] 49)).heap.size = w.heap.size + 1 := by simp
    have hb : Below w.heap.size w ((w.alloc (.cells #[.slice A1 n1 c1, .slice A2 n2 c2] 49)).alloc (.cells #[.slice B1 m1 d1, .slice B2 m2 d2] 49)) := (below_alloc _).trans ((below_alloc _).mono (by omega))
    refine ⟨hb, ?_, ?_, ?_, ?_, hx.below hb, hy.below hb, hu.below hb, hv.below hb⟩
    · rw [World.cell?_alloc_lt _ _ _ (by show w.heap.size < _; omega), World.cell?_alloc_at _ _ _ _ rfl]; rfl
    · rw [World.cell?_alloc_lt _ _ _ (by show w.heap.size < _; omega), World.cell?_alloc_at _ _ _ _ rfl]; rfl
    · rw [World.cell?_alloc_at _ _ _ _ hs.symm]; rfl
    · rw [World.cell?_alloc_at _ _ _ _ hs.symm]; rfl)
  have C1 := Lib.hid (fun (r : Bool) (hr : r = true ↔ xs = us) (W : World) (h : St2 w A1 n1 c1 A2 n2 c2 B1 m1 d1 B2 m2 d2 xs ys us vs W) => (eq_ints' w.heap.size A1 B1 c1 d1 n1 m1 xs us r hr W hn1 hm1 l1 l3 h.xs h.us).mono fun e w' k => show e = .returned (.bool r) ∧ Below W.heap.size W w' from ⟨k.1, by obtain ⟨_, N, hN⟩ := k; rw [hN]; exact below_drewN (Below.refl _ _) N⟩)
  have C2 := Lib.hid (fun (r : Bool) (hr : r = true ↔ ys = vs) (W : World) (h : St2 w A1 n1 c1 A2 n2 c2 B1 m1 d1 B2 m2 d2 xs ys us vs W) => (eq_ints' w.heap.size A2 B2 c2 d2 n2 m2 ys vs r hr W hn2 hm2 l2 l4 h.ys h.vs).mono fun e w' k => show e = .returned (.bool r) ∧ Below W.heap.size W w' from ⟨k.1, by obtain ⟨_, N, hN⟩ := k; rw [hN]; exact below_drewN (Below.refl _ _) N⟩)
  clear hx hy hu hv
  by_cases p1 : xs = us
  · by_cases p2 : ys = vs
    · obtain rfl : r = true := hr.mpr ⟨p1, p2⟩
      have D1 := Lib.hid (C1.out true ⟨fun _ => p1, fun _ => rfl⟩)
      have D2 := Lib.hid (C2.out true ⟨fun _ => p2, fun _ => rfl⟩)
      clear hr p1 p2
      go_enter Tryz.func34, Tryz.ntmps34
      go_wp2_with fail
      refine (D1.out _ X0.out).mono ?_
      rintro e w2 ⟨rfl, b⟩
      have X2 := Lib.hid (X0.out.next b)
      clear b
      have e1 := X2.out.a1
      have e2 := X2.out.b1
      go_wp2_with fail
      refine (D2.out _ X2.out).mono ?_
      rintro e w3 ⟨rfl, b⟩
      have X3 := Lib.hid (X2.out.next b)
      clear b e1 e2
      go_wp2
      go_ret
      exact ⟨rfl, X3.out.bel⟩
    · obtain rfl : r = false := by rw [← Bool.not_eq_true]; exact fun h => p2 (hr.mp h).2
      have D1 := Lib.hid (C1.out true ⟨fun _ => p1, fun _ => rfl⟩)
      have D2 := Lib.hid (C2.out false ⟨fun q => Bool.noConfusion q, fun q => absurd q p2⟩)
      clear hr p1 p2
      go_enter Tryz.func34, Tryz.ntmps34
      go_wp2_with fail
      refine (D1.out _ X0.out).mono ?_
      rintro e w2 ⟨rfl, b⟩
      have X2 := Lib.hid (X0.out.next b)
      clear b
      have e1 := X2.out.a1
      have e2 := X2.out.b1
      go_wp2_with fail
      refine (D2.out _ X2.out).mono ?_
      rintro e w3 ⟨rfl, b⟩
      have X3 := Lib.hid (X2.out.next b)
      clear b e1 e2
      go_wp2
      go_ret
      exact ⟨rfl, X3.out.bel⟩
  · obtain rfl : r = false := by rw [← Bool.not_eq_true]; exact fun h => p1 (hr.mp h).1
    have D1 := Lib.hid (C1.out false ⟨fun q => Bool.noConfusion q, fun q => absurd q p1⟩)
    clear hr p1
    go_enter Tryz.func34, Tryz.ntmps34
    go_wp2_with fail
    refine (D1.out _ X0.out).mono ?_
    rintro e w2 ⟨rfl, b⟩
    have X2 := Lib.hid (X0.out.next b)
    clear b
    go_wp2
    go_ret
    exact ⟨rfl, X2.out.bel⟩
set_option maxRecDepth 100000 in
set_option maxHeartbeats 4000000 in
theorem eq_bars (A1 A2 : Option Addr) (c1 c2 n m : Nat) (xs ys : List (List Int × List Int)) (r : Bool) (hr : r = true ↔ xs = ys) (w : World) (hn : xs.length = n) (hm : ys.length = m) (hx : n ≤ 1000) (hy : m ≤ 1000)
    (hb1 : ∀ b ∈ xs, b.1.length ≤ 400 ∧ b.2.length ≤ 400) (hb2 : ∀ b ∈ ys, b.1.length ≤ 400 ∧ b.2.length ≤ 400) (h1 : Bars w w.heap.size A1 xs) (h2 : Bars w w.heap.size A2 ys) :
    Calls Tryz.prog 39 #[.slice A1 n c1, .slice A2 m c2, .func (.func 34) #[] #[]] w fun e w' => e = .returned (.bool r) ∧ Below w.heap.size w w' := by
  have HN := Lib.hid hn
  have HM := Lib.hid hm
  have HR := Lib.hid hr
  have H1 := Lib.hid h1
  have H2 := Lib.hid h2
  have HB1 := Lib.hid hb1
  have HB2 := Lib.hid hb2
  clear hn hm h1 h2 hr hb1 hb2
  by_cases hnm : n = m
  · subst hnm
    go_enter Tryz.func39, Tryz.ntmps39
    go_wp2
    go_loopw [17] (fun i wr => ∃ j : Nat, j ≤ n ∧ i = .int .i64 j ∧ Hid (xs.take j = ys.take j) ∧ Hid (Below w.heap.size w wr)) (fun i _ => n - (intOf i).toNat)
    case atStart => exact ⟨0, Nat.zero_le _, rfl, Lib.hid rfl, Lib.hid (Below.refl _ _)⟩
    case round =>
      obtain ⟨j, hj, rfl, HT, HBW⟩ := hrel
      by_cases hlt : j < n
      · obtain ⟨bk, o1, x1, x2, P1, n1, k1, P2, n2, k2, rfl, hbk, hx1, hl1, hl2, hc1, hc2, hi1, hi2, _, _⟩ := (H1.out.below HBW.out).at_ (k := j) (by rw [HN.out]; exact hlt)
        obtain ⟨bj, o2, y1, y2, Q1, m1, q1, Q2, m2, q2, rfl, hbj, hy1, hl3, hl4, hd1, hd2, hi3, hi4, _, _⟩ := (H2.out.below HBW.out).at_ (k := j) (by rw [HM.out]; exact hlt)
        have hsz := HBW.out.size
        have hd1' := fun o => (World.cell?_alloc_lt wr _ (o := o) (World.block_lt_of_cell? _ _ hd1)).trans hd1
        have hd2' := fun o => (World.cell?_alloc_lt wr _ (o := o) (World.block_lt_of_cell? _ _ hd2)).trans hd2
        have hz1 := HB1.out _ (List.mem_of_getElem? hx1)
        have hz2 := HB2.out _ (List.mem_of_getElem? hy1)
        simp only at hz1 hz2
        have C := Lib.hid (fun (r' : Bool) (hr' : r' = true ↔ x1 = y1 ∧ x2 = y2) (W : World) (hb : Below wr.heap.size wr W) => same1_any P1 n1 k1 P2 n2 k2 Q1 m1 q1 Q2 m2 q2 x1 x2 y1 y2 r' hr' W hl1 hl2 hl3 hl4 (by omega) (by omega) (by omega) (by omega)
          (((hi1.more hsz).below hb).more hb.size) (((hi2.more hsz).below hb).more hb.size) (((hi3.more hsz).below hb).more hb.size) (((hi4.more hsz).below hb).more hb.size))
        have HX := Lib.hid hx1
        have HY := Lib.hid hy1
        have hb2 : Hid (∀ o o', Below wr.heap.size wr ((wr.alloc o).alloc o')) := Lib.hid (fun o o' => (below_alloc o).trans ((below_alloc o').mono (by simp)))
        clear hx1 hy1 hl1 hl2 hl3 hl4 hz1 hz2 hi1 hi2 hi3 hi4
        by_cases hxy : (x1, x2) = (y1, y2)
        · have C1 := Lib.hid (C.out true ⟨fun _ => by injection hxy with h1 h2; exact ⟨h1, h2⟩, fun _ => rfl⟩)
          have HT2 := Lib.hid (take_next HT.out HX.out (by rw [HY.out, hxy]))
          clear hxy
          go_wp2_with fail
          refine (C1.out _ (hb2.out _ _)).mono ?_
          rintro e w2 ⟨rfl, b⟩
          have HB := Lib.hid (HBW.out.trans (((hb2.out _ _).trans (b.mono (hb2.out _ _).size)).mono HBW.out.size))
          clear b hd1' hd2' hc1 hc2 hd1 hd2
          go_wp2
          go_roundw
          case rel => exact ⟨j + 1, by omega, by go_num, HT2, HB⟩
          case measure => simp [intOf]; omega
        · have C1 := Lib.hid (C.out false ⟨fun q => Bool.noConfusion q, fun q => absurd (by rw [q.1, q.2]) hxy⟩)
          have HNO := Lib.hid (show r = false by rw [← Bool.not_eq_true]; exact fun h => take_part HX.out HY.out hxy (HR.out.mp h))
          clear hxy
          go_wp2_with fail
          refine (C1.out _ (hb2.out _ _)).mono ?_
          rintro e w2 ⟨rfl, b⟩
          have HB := Lib.hid (HBW.out.trans (((hb2.out _ _).trans (b.mono (hb2.out _ _).size)).mono HBW.out.size))
          clear b hd1' hd2' hc1 hc2 hd1 hd2
          go_wp2
          go_ret
          exact ⟨by rw [HNO.out]; rfl, HB.out⟩
      · obtain rfl : j = n := by omega
        have HYES := Lib.hid (HR.out.mpr (take_ext (by rw [HN.out, HM.out]) (by rw [HN.out]; exact HT.out)))
        go_wp2
        go_ret
        exact ⟨by rw [HYES.out]; rfl, HBW.out⟩
  · have hb : ((n : Int) != (m : Int)) = true := by simp; omega
    have HNO := Lib.hid (show r = false by rw [← Bool.not_eq_true]; exact fun h => hnm (by rw [← HN.out, ← HM.out, HR.out.mp h]))
    go_enter Tryz.func39, Tryz.ntmps39
    go_wp2
    go_ret
    exact ⟨by rw [HNO.out]; rfl, Below.refl _ _⟩
end Go.Proofs.YtlimcimioeepaaaGreatDoor
set_option linter.unusedVariables false
namespace Go.Proofs.YtlimcimioeepaaaGreatDoor
open Go.RowKit

theorem drew_below {P : Program} {f : FuncId} {args : Array Value} {W : World} {r : Bool} (h : Calls P f args W fun e w' => e = .returned (.bool r) ∧ ∃ N, w' = W.drewN N) : Calls P f args W fun e w' => e = .returned (.bool r) ∧ Below W.heap.size W w' :=
  h.mono fun e w' ⟨he, N, hN⟩ => ⟨he, by rw [hN]; exact below_drewN (Below.refl _ _) N⟩
set_option maxRecDepth 100000 in
set_option maxHeartbeats 8000000 in
theorem same_any5 (s s' : Sh) (T T' : Task) (w : World) (hF : FewT T) (hF' : FewT T') (hT : IsT w w.heap.size s T) (hT' : IsT w w.heap.size s' T') :
    Calls Tryz.prog 18 #[s.arg T.period T.deadline, s'.arg T'.period T'.deadline] w fun e w' => e = .returned (.bool (decide (T = T'))) ∧ Below w.heap.size w w' := by
  have B0 := Lib.hid (BxS.start T.period T.deadline T'.period T'.deadline hT hT')
  obtain ⟨P, np, pc, E, ne, ec, F, nf, fc, R, nr, rc⟩ := s
  obtain ⟨P', np', pc', E', ne', ec', F', nf', fc', R', nr', rc'⟩ := s'
  obtain ⟨p, q, ps, es, fs, bs⟩ := T
  obtain ⟨p', q', ps', es', fs', bs'⟩ := T'
  have hp := hT.hp
  have he := hT.he
  have hf := hT.hf
  have hr := hT.hr
  have hp' := hT'.hp
  have he' := hT'.he
  have hf' := hT'.hf
  have hr' := hT'.hr
  have ln := hF.np
  have le := hF.ne
  have lf := hF.nf
  have lr := hF.nr
  have ln' := hF'.np
  have le' := hF'.ne
  have lf' := hF'.nf
  have lr' := hF'.nr
  have hBL := hF.bars
  have hBL' := hF'.bars
  simp only at hp he hf hr hp' he' hf' hr' ln le lf lr ln' le' lf' lr' hBL hBL'
  rw [hp] at ln
  rw [he] at le
  rw [hf] at lf
  rw [hr] at lr
  rw [hp'] at ln'
  rw [he'] at le'
  rw [hf'] at lf'
  rw [hr'] at lr'
  simp only [Sh.arg]
  simp only at B0
  obtain ⟨X, hX⟩ : ∃ X : World → Prop, X = BxS w p q ⟨P, np, pc, E, ne, ec, F, nf, fc, R, nr, rc⟩ ⟨p, q, ps, es, fs, bs⟩ p' q' ⟨P', np', pc', E', ne', ec', F', nf', fc', R', nr', rc'⟩ ⟨p', q', ps', es', fs', bs'⟩ := ⟨_, rfl⟩
  have HX := Lib.hid hX
  have C2 := Lib.hid (fun (r : Bool) (hr : r = true ↔ ps = ps') (W : World) (h : X W) => drew_below (eq_parts W.heap.size P P' pc pc' np np' ps ps' r hr W hp hp' (by omega) (by omega) (by rw [hX] at h; exact h.t.parts) (by rw [hX] at h; exact h.t'.parts)))
  have C3 := Lib.hid (fun (r : Bool) (hr : r = true ↔ es = es') (W : World) (h : X W) => drew_below (eq_edges' W.heap.size E E' ec ec' ne ne' es es' r hr W he he' (by omega) (by omega) (by rw [hX] at h; exact h.t.edges) (by rw [hX] at h; exact h.t'.edges)))
  have C4 := Lib.hid (fun (r : Bool) (hr : r = true ↔ fs = fs') (W : World) (h : X W) => drew_below (eq_futures W.heap.size F F' fc fc' nf nf' fs fs' r hr W hf hf' (by omega) (by omega) (by rw [hX] at h; exact h.t.futures) (by rw [hX] at h; exact h.t'.futures)))
  have C5 := Lib.hid (fun (r : Bool) (hr0 : r = true ↔ bs = bs') (W : World) (h : X W) => eq_bars R R' rc rc' nr nr' bs bs' r hr0 W hr hr' (by omega) (by omega) hBL hBL' (by rw [hX] at h; exact h.t.bars) (by rw [hX] at h; exact h.t'.bars))
  have XN := Lib.hid (fun (w1 w2 : World) (h : X w1) (hb : Below w1.heap.size w1 w2) => show X w2 by rw [hX] at h ⊢; exact h.next hb)
  have XC := Lib.hid (fun (W : World) (h : X W) => show W.cell? ⟨w.heap.size, 1, none⟩ = some (.int .i64 q) ∧ W.cell? ⟨w.heap.size + 1, 1, none⟩ = some (.int .i64 q') ∧ W.cell? ⟨w.heap.size, 2, none⟩ = some (.slice P np pc) ∧ W.cell? ⟨w.heap.size + 1, 2, none⟩ = some (.slice P' np' pc') ∧ W.cell? ⟨w.heap.size, 3, none⟩ = some (.slice E ne ec) ∧ W.cell? ⟨w.heap.size + 1, 3, none⟩ = some (.slice E' ne' ec') ∧ W.cell? ⟨w.heap.size, 4, none⟩ = some (.slice F nf fc) ∧ W.cell? ⟨w.heap.size + 1, 4, none⟩ = some (.slice F' nf' fc') ∧ W.cell? ⟨w.heap.size, 5, none⟩ = some (.slice R nr rc) ∧ W.cell? ⟨w.heap.size + 1, 5, none⟩ = some (.slice R' nr' rc') by
    rw [hX] at h
    exact ⟨h.b.c1, h.d1, h.b.c2, h.d2, h.b.c3, h.d3, h.b.c4, h.d4, h.b.c5, h.d5⟩)
  have XB := Lib.hid (fun (W : World) (h : X W) => show Below w.heap.size w W by rw [hX] at h; exact h.b.bel)
  rw [← hX] at B0
  have HEQ : Hid ((⟨p, q, ps, es, fs, bs⟩ : Task) = ⟨p', q', ps', es', fs', bs'⟩ ↔ p = p' ∧ q = q' ∧ ps = ps' ∧ es = es' ∧ fs = fs' ∧ bs = bs') := Lib.hid (by rw [Task.mk.injEq])
  obtain ⟨r, hres⟩ : ∃ r, r = decide ((⟨p, q, ps, es, fs, bs⟩ : Task) = ⟨p', q', ps', es', fs', bs'⟩) := ⟨_, rfl⟩
  rw [← hres]
  have HRES := Lib.hid hres
  have HYES := Lib.hid (fun h : p = p' ∧ q = q' ∧ ps = ps' ∧ es = es' ∧ fs = fs' ∧ bs = bs' => show r = true by rw [HRES.out]; exact decide_eq_true (HEQ.out.mpr h))
  have HNO := Lib.hid (fun h : ¬ (p = p' ∧ q = q' ∧ ps = ps' ∧ es = es' ∧ fs = fs' ∧ bs = bs') => show r = false by rw [HRES.out]; exact decide_eq_false fun k => h (HEQ.out.mp k))
  clear hX hT hT' hF hF' hp he hf hr hp' he' hf' hr' hres hBL hBL' ln le lf lr ln' le' lf' lr'
  by_cases p0 : p = p'
  · have P0 := Lib.hid p0
    have g0 : (p == p') = true := by simpa using p0
    clear p0
    by_cases p1 : q = q'
    · have P1 := Lib.hid p1
      have g1 : (q == q') = true := by simpa using p1
      clear p1
      by_cases p2 : ps = ps'
      · have P2 := Lib.hid p2
        clear p2
        by_cases p3 : es = es'
        · have P3 := Lib.hid p3
          clear p3
          by_cases p4 : fs = fs'
          · have P4 := Lib.hid p4
            clear p4
            by_cases p5 : bs = bs'
            · have P5 := Lib.hid p5
              clear p5
              have HR := Lib.hid (HYES.out ⟨P0.out, P1.out, P2.out, P3.out, P4.out, P5.out⟩)
              go_enter Tryz.func18, Tryz.ntmps18
              go_wp2_with fail
              refine (C2.out true ⟨fun _ => P2.out, fun _ => rfl⟩ _ B0.out).mono ?_
              rintro e w1 ⟨rfl, b⟩
              have B1 := Lib.hid (XN.out _ _ B0.out b)
              clear b
              obtain ⟨k1, k2, k3, k4, k5, k6, k7, k8, k9, k10⟩ := XC.out _ B1.out
              go_wp2_with fail
              refine (C3.out true ⟨fun _ => P3.out, fun _ => rfl⟩ _ B1.out).mono ?_
              rintro e w2 ⟨rfl, b⟩
              have B2 := Lib.hid (XN.out _ _ B1.out b)
              clear b k1 k2 k3 k4 k5 k6 k7 k8 k9 k10
              obtain ⟨k1, k2, k3, k4, k5, k6, k7, k8, k9, k10⟩ := XC.out _ B2.out
              go_wp2_with fail
              refine (C4.out true ⟨fun _ => P4.out, fun _ => rfl⟩ _ B2.out).mono ?_
              rintro e w3 ⟨rfl, b⟩
              have B3 := Lib.hid (XN.out _ _ B2.out b)
              clear b k1 k2 k3 k4 k5 k6 k7 k8 k9 k10
              obtain ⟨k1, k2, k3, k4, k5, k6, k7, k8, k9, k10⟩ := XC.out _ B3.out
              go_wp2_with fail
              refine (C5.out true ⟨fun _ => P5.out, fun _ => rfl⟩ _ B3.out).mono ?_
              rintro e w4 ⟨rfl, b⟩
              have B4 := Lib.hid (XN.out _ _ B3.out b)
              clear b k1 k2 k3 k4 k5 k6 k7 k8 k9 k10
              go_wp2
              go_ret
              exact ⟨by rw [HR.out]; rfl, XB.out _ B4.out⟩
            · have P5 := Lib.hid p5
              clear p5
              have HR := Lib.hid (HNO.out fun k => P5.out k.2.2.2.2.2)
              go_enter Tryz.func18, Tryz.ntmps18
              go_wp2_with fail
              refine (C2.out true ⟨fun _ => P2.out, fun _ => rfl⟩ _ B0.out).mono ?_
              rintro e w1 ⟨rfl, b⟩
              have B1 := Lib.hid (XN.out _ _ B0.out b)
              clear b
              obtain ⟨k1, k2, k3, k4, k5, k6, k7, k8, k9, k10⟩ := XC.out _ B1.out
              go_wp2_with fail
              refine (C3.out true ⟨fun _ => P3.out, fun _ => rfl⟩ _ B1.out).mono ?_
              rintro e w2 ⟨rfl, b⟩
              have B2 := Lib.hid (XN.out _ _ B1.out b)
              clear b k1 k2 k3 k4 k5 k6 k7 k8 k9 k10
              obtain ⟨k1, k2, k3, k4, k5, k6, k7, k8, k9, k10⟩ := XC.out _ B2.out
              go_wp2_with fail
              refine (C4.out true ⟨fun _ => P4.out, fun _ => rfl⟩ _ B2.out).mono ?_
              rintro e w3 ⟨rfl, b⟩
              have B3 := Lib.hid (XN.out _ _ B2.out b)
              clear b k1 k2 k3 k4 k5 k6 k7 k8 k9 k10
              obtain ⟨k1, k2, k3, k4, k5, k6, k7, k8, k9, k10⟩ := XC.out _ B3.out
              go_wp2_with fail
              refine (C5.out false ⟨fun k => Bool.noConfusion k, fun k => absurd k P5.out⟩ _ B3.out).mono ?_
              rintro e w4 ⟨rfl, b⟩
              have B4 := Lib.hid (XN.out _ _ B3.out b)
              clear b k1 k2 k3 k4 k5 k6 k7 k8 k9 k10
              go_wp2
              go_ret
              exact ⟨by rw [HR.out]; rfl, XB.out _ B4.out⟩
          · have P4 := Lib.hid p4
            clear p4
            have HR := Lib.hid (HNO.out fun k => P4.out k.2.2.2.2.1)
            go_enter Tryz.func18, Tryz.ntmps18
            go_wp2_with fail
            refine (C2.out true ⟨fun _ => P2.out, fun _ => rfl⟩ _ B0.out).mono ?_
            rintro e w1 ⟨rfl, b⟩
            have B1 := Lib.hid (XN.out _ _ B0.out b)
            clear b
            obtain ⟨k1, k2, k3, k4, k5, k6, k7, k8, k9, k10⟩ := XC.out _ B1.out
            go_wp2_with fail
            refine (C3.out true ⟨fun _ => P3.out, fun _ => rfl⟩ _ B1.out).mono ?_
            rintro e w2 ⟨rfl, b⟩
            have B2 := Lib.hid (XN.out _ _ B1.out b)
            clear b k1 k2 k3 k4 k5 k6 k7 k8 k9 k10
            obtain ⟨k1, k2, k3, k4, k5, k6, k7, k8, k9, k10⟩ := XC.out _ B2.out
            go_wp2_with fail
            refine (C4.out false ⟨fun k => Bool.noConfusion k, fun k => absurd k P4.out⟩ _ B2.out).mono ?_
            rintro e w3 ⟨rfl, b⟩
            have B3 := Lib.hid (XN.out _ _ B2.out b)
            clear b k1 k2 k3 k4 k5 k6 k7 k8 k9 k10
            go_wp2
            go_ret
            exact ⟨by rw [HR.out]; rfl, XB.out _ B3.out⟩
        · have P3 := Lib.hid p3
          clear p3
          have HR := Lib.hid (HNO.out fun k => P3.out k.2.2.2.1)
          go_enter Tryz.func18, Tryz.ntmps18
          go_wp2_with fail
          refine (C2.out true ⟨fun _ => P2.out, fun _ => rfl⟩ _ B0.out).mono ?_
          rintro e w1 ⟨rfl, b⟩
          have B1 := Lib.hid (XN.out _ _ B0.out b)
          clear b
          obtain ⟨k1, k2, k3, k4, k5, k6, k7, k8, k9, k10⟩ := XC.out _ B1.out
          go_wp2_with fail
          refine (C3.out false ⟨fun k => Bool.noConfusion k, fun k => absurd k P3.out⟩ _ B1.out).mono ?_
          rintro e w2 ⟨rfl, b⟩
          have B2 := Lib.hid (XN.out _ _ B1.out b)
          clear b k1 k2 k3 k4 k5 k6 k7 k8 k9 k10
          go_wp2
          go_ret
          exact ⟨by rw [HR.out]; rfl, XB.out _ B2.out⟩
      · have P2 := Lib.hid p2
        clear p2
        have HR := Lib.hid (HNO.out fun k => P2.out k.2.2.1)
        go_enter Tryz.func18, Tryz.ntmps18
        go_wp2_with fail
        refine (C2.out false ⟨fun k => Bool.noConfusion k, fun k => absurd k P2.out⟩ _ B0.out).mono ?_
        rintro e w1 ⟨rfl, b⟩
        have B1 := Lib.hid (XN.out _ _ B0.out b)
        clear b
        go_wp2
        go_ret
        exact ⟨by rw [HR.out]; rfl, XB.out _ B1.out⟩
    · have P1 := Lib.hid p1
      have g1 : (q == q') = false := by simpa using p1
      clear p1
      have HR := Lib.hid (HNO.out fun k => P1.out k.2.1)
      go_enter Tryz.func18, Tryz.ntmps18
      go_wp2
      go_ret
      exact ⟨by rw [HR.out]; rfl, XB.out _ B0.out⟩
  · have P0 := Lib.hid p0
    have g0 : (p == p') = false := by simpa using p0
    clear p0
    have HR := Lib.hid (HNO.out fun k => P0.out k.1)
    go_enter Tryz.func18, Tryz.ntmps18
    go_wp2
    go_ret
    exact ⟨by rw [HR.out]; rfl, XB.out _ B0.out⟩
end Go.Proofs.YtlimcimioeepaaaGreatDoor
