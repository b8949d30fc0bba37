/- lower.Node, Last and Same over lowered tasks, in the seat YtmelgolnmnebpaaGreatDoor: their contracts.
   Layer 7's example, in plain words, in the seat YtmelgolnmnebpaaGreatDoor.
   No statement is proved here. -/
import Derived.Test.YtmelgolnmnebpaaGreatDoorZM22
import Derived.Test.YtmelgolnmnebpaaGreatDoorZM20
set_option linter.unusedSimpArgs false
set_option linter.unusedVariables false
namespace Go.Proofs.YtmelgolnmnebpaaGreatDoor
open Go.RowKit

theorem piece_fields : (Tryz.prog.fieldsOf 72).toList.map (fun f => (f.name, f.type, f.offset)) = [("Part", 3, 0), ("Step", 3, 1)] := by kernel_rfl
theorem piece_eq (x y u v : Int) (W : World) : (Op.equalIn 10000 72 (.agg #[.int .i64 x, .int .i64 y]) (.agg #[.int .i64 u, .int .i64 v])).run Tryz.prog W = .ok (x == u && y == v) W := by
  have hf := piece_fields
  rw [run_equalIn_agg (d := 9999) W 72 _ _ (by kernel_rfl) (by kernel_rfl)]
  generalize (Tryz.prog.fieldsOf 72).toList = fs at hf
  match fs, hf with
  | [], hf => simp at hf
  | [_], hf => simp at hf
  | _ :: _ :: _ :: _, hf => simp at hf
  | [f, g], hf =>
    simp only [List.map_cons, List.map_nil, List.cons.injEq, Prod.mk.injEq, and_true] at hf
    obtain ⟨⟨n1, t1, o1⟩, n2, t2, o2⟩ := hf
    have e1 := fun a b W => run_equalIn_int (P := Tryz.prog) W 9998 3 .i64 .i64 a b Tryz.underlying3
    have p1 := fun a b W => (part_int a b W).1
    have p2 := fun a b W => (part_int a b W).2
    simp only [Op.eqFields, n1, n2, t1, t2, o1, o2]
    by_cases h1 : x = u
    · subst h1
      by_cases h2 : y = v
      · simp [p1, p2, e1, h2]
      · simp [p1, p2, e1, h2]
    · simp [p1, p2, e1, h1]
theorem piece_neq_run (x y u v : Int) (W : World) : (binOp .neq 72 (.agg #[.int .i64 x, .int .i64 y]) (.agg #[.int .i64 u, .int .i64 v])).run Tryz.prog W = .ok (.bool (!(x == u && y == v))) W := by
  rw [run_neq_struct, piece_eq]
  rfl
theorem piece_eql_run (x y u v : Int) (W : World) : (binOp .eql 72 (.agg #[.int .i64 x, .int .i64 y]) (.agg #[.int .i64 u, .int .i64 v])).run Tryz.prog W = .ok (.bool (x == u && y == v)) W := by
  rw [run_eql_struct, piece_eq]
  rfl
set_option maxHeartbeats 800000 in
theorem eq_pieces (B : Nat) (A1 A2 : Option Addr) (c1 c2 : Nat) (xs ys : List (Int × Int)) (w : World) (hx : xs.length ≤ 1000) (hy : ys.length ≤ 1000) (h1 : Pairs w B A1 xs) (h2 : Pairs w B A2 ys) :
    Calls Tryz.prog 63 #[.slice A1 xs.length c1, .slice A2 ys.length c2] w fun e w' => e = .returned (.bool (decide (xs = ys))) ∧ ∃ N, w' = w.drewN N := by
  obtain ⟨n, hn⟩ : ∃ n, n = xs.length := ⟨_, rfl⟩
  obtain ⟨m, hm⟩ : ∃ m, m = ys.length := ⟨_, rfl⟩
  rw [← hn, ← hm]
  rw [← hn] at hx
  rw [← hm] at hy
  have HN := Lib.hid hn
  have HM := Lib.hid hm
  have H1 := Lib.hid h1
  have H2 := Lib.hid h2
  clear hn hm h1 h2
  by_cases hnm : n = m
  · subst hnm
    go_enter Tryz.func63, Tryz.ntmps63
    go_wp2
    go_loopw [13] (fun i wr => ∃ j N : Nat, j ≤ n ∧ i = .int .i64 j ∧ Hid (xs.take j = ys.take j) ∧ wr = w.drewN N) (fun i _ => n - (intOf i).toNat)
    case atStart => exact ⟨0, 0, Nat.zero_le _, rfl, Lib.hid rfl, rfl⟩
    case round =>
      obtain ⟨j, N, hj, rfl, HT, rfl⟩ := hrel
      by_cases hlt : j < n
      · obtain ⟨b1, o1, ⟨x1, x2⟩, rfl, _, hx1, hc1, hc2⟩ := H1.out.at_ (k := j) (by rw [← HN.out]; exact hlt)
        obtain ⟨b2, o2, ⟨y1, y2⟩, rfl, _, hy1, hd1, hd2⟩ := H2.out.at_ (k := j) (by rw [← HM.out]; exact hlt)
        simp only at hc1 hc2 hd1 hd2
        have hrun := fun W => piece_neq_run x1 x2 y1 y2 W
        have HX := Lib.hid hx1
        have HY := Lib.hid hy1
        clear hx1 hy1
        by_cases hxy : (x1, x2) = (y1, y2)
        · injection hxy with h1 h2
          subst h1 h2
          have hb : (x1 == x1 && x2 == x2) = true := by simp
          simp only [hb] at hrun
          go_wp2
          go_quiet (fail)
          go_wp2
          go_roundw
          case rel => exact ⟨j + 1, _, by omega, by go_num, Lib.hid (take_next HT.out HX.out HY.out), rfl⟩
          case measure => simp [intOf]; omega
        · have hb : (x1 == y1 && x2 == y2) = false := by
            rw [Bool.and_eq_false_iff]
            by_cases h1 : x1 = y1
            · exact .inr (by simpa using fun h2 => hxy (by rw [h1, h2]))
            · exact .inl (by simpa using h1)
          simp only [hb] at hrun
          have HXY := Lib.hid hxy
          clear hxy
          go_wp2
          go_quiet (fail)
          go_wp2
          go_ret
          exact ⟨by rw [decide_eq_false (take_part HX.out HY.out HXY.out)]; rfl, _, drews w N _⟩
      · obtain rfl : j = n := by omega
        go_wp2
        go_ret
        exact ⟨by rw [decide_eq_true (take_ext (by rw [← HN.out, ← HM.out]) (by rw [← HN.out]; exact HT.out))]; rfl, _, rfl⟩
  · have hb : ((n : Int) != (m : Int)) = true := by simp; omega
    go_enter Tryz.func63, Tryz.ntmps63
    go_wp2
    go_ret
    exact ⟨by rw [decide_eq_false (fun e : xs = ys => hnm (by rw [HN.out, HM.out, e]))]; rfl, 0, rfl⟩

/-- A lowered task, as it is handed over. -/
structure IsL (w : World) (A : Option Addr) (n c : Nat) (F : Option Addr) (m d : Nat) (R : Option Addr) (k e : Nat) (W : List Int) (E P : List (Int × Int)) : Prop where
  g : IsG w A n c F m d W E
  hk : P.length = k
  lk : k ≤ 400
  pcs : Pairs w w.heap.size R P
theorem IsL.below {w w' : World} {A : Option Addr} {n c : Nat} {F : Option Addr} {m d : Nat} {R : Option Addr} {k e : Nat} {W : List Int} {E P : List (Int × Int)} (h : IsL w A n c F m d R k e W E P) (hb : Below w.heap.size w w') : IsL w' A n c F m d R k e W E P :=
  ⟨h.g.below hb, h.hk, h.lk, (h.pcs.below hb).more hb.size⟩
theorem OwnP.pairs {w : World} {base : Nat} {v : Value} {ps : List (Int × Int)} (h : OwnP w base v ps) : ∃ A c, v = .slice A ps.length c ∧ Pairs w w.heap.size A ps := by
  rcases h.2 with ⟨rfl, hn⟩ | ⟨g, cap, cur, rfl, hg, hgg, rest⟩
  · have : ps = [] := List.eq_nil_of_length_eq_zero hn
    subst this
    exact ⟨none, 0, rfl, fun h0 => absurd h0 (by simp)⟩
  · refine ⟨some ⟨g, 0, none⟩, cap, rfl, fun _ => ⟨g, 0, rfl, (Array.getElem?_eq_some_iff.1 hgg).1, fun k e he => ?_⟩⟩
    obtain ⟨h1, h2⟩ := flatE_at he
    have h' : w.ownsRow base 72 2 (.slice (some ⟨g, 0, none⟩) ps.length cap) ps.length (flatE ps) := h
    have c1 := h'.cells (g := g) rfl _ _ h1
    have c2 := h'.cells (g := g) rfl _ _ h2
    rw [addr_add] at c1 c2
    rw [show 0 + (k * 2 + 1) = 0 + k * 2 + 1 by omega] at c2
    exact ⟨c1, c2⟩
theorem own_isL {w : World} {b : Nat} {u v x : Value} {W : List Int} {E P : List (Int × Int)} (ht : Tab64 w) (hu : OwnI w b u W) (hv : OwnE w b v E) (hx : OwnP w b x P) (hW : W.length ≤ 400) (hE : E.length ≤ 400) (hP : P.length ≤ 400) :
    ∃ A c F d R e, u = .slice A W.length c ∧ v = .slice F E.length d ∧ x = .slice R P.length e ∧ IsL w A W.length c F E.length d R P.length e W E P := by
  obtain ⟨A, c, F, d, rfl, rfl, hg⟩ := own_isG ht hu hv hW hE
  obtain ⟨R, e, rfl, hp⟩ := hx.pairs
  exact ⟨A, c, F, d, R, e, rfl, rfl, rfl, hg, rfl, hP, hp⟩
/-- The first place of a piece; -1: there is none. -/
def idxV (P : List (Int × Int)) (p : Int × Int) : Int := if p ∈ P then (P.idxOf p : Int) else -1
theorem idxV_at {P : List (Int × Int)} {p : Int × Int} {j : Nat} (h : P[j]? = some p) (hn : p ∉ P.take j) : idxV P p = (j : Int) := by
  unfold idxV
  rw [if_pos (List.mem_of_getElem? h)]
  have hj := (List.getElem?_eq_some_iff.mp h).1
  have e : P = P.take j ++ p :: P.drop (j + 1) := by
    rw [← (List.getElem?_eq_some_iff.mp h).2, List.getElem_cons_drop, List.take_append_drop]
  have h2 : (P.take j ++ p :: P.drop (j + 1)).idxOf p = j := by
    rw [List.idxOf_append, if_neg hn, List.idxOf_cons_self, List.length_take]
    omega
  rw [← e] at h2
  rw [h2]
theorem idxV_no {P : List (Int × Int)} {p : Int × Int} (h : p ∉ P) : idxV P p = -1 := by unfold idxV; rw [if_neg h]
/-- The last place among the first j whose part that is; -1: there is none. -/
def lastK (P : List (Int × Int)) (x : Int) : Nat → Int
  | 0 => -1
  | j + 1 => if (P.getD j (0, 0)).1 = x then (j : Int) else lastK P x j
def lastV (P : List (Int × Int)) (x : Int) : Int := if x < 0 then -1 else lastK P x P.length
set_option maxRecDepth 100000 in
set_option maxHeartbeats 4000000 in
theorem index_any (B k e : Nat) (R : Option Addr) (P : List (Int × Int)) (p1 p2 : Int) (w : World) (hk : P.length = k) (hl : k ≤ 1000) (hP : Pairs w w.heap.size R P) :
    Calls Tryz.prog 61 #[.slice R k e, .agg #[.int .i64 p1, .int .i64 p2]] w fun e w' => e = .returned (.int .i64 (idxV P (p1, p2))) ∧ Below w.heap.size w w' := by
  have HP := Lib.hid hP
  have HK := Lib.hid hk
  obtain ⟨w0, hw0⟩ : ∃ w0, w0 = w.alloc (.cells #[.int .i64 p1, .int .i64 p2] 72) := ⟨_, rfl⟩
  have hb0 : Below w.heap.size w w0 := by rw [hw0]; exact below_alloc _
  have hr0 : w0.heap[w.heap.size]? = some (.cells #[.int .i64 p1, .int .i64 p2] 72 (0, 0)) := by rw [hw0]; exact heap_alloc_new w _
  have HB0 := Lib.hid hb0
  have HR0 := Lib.hid hr0
  clear hP hk hb0 hr0
  go_enter Tryz.func61, Tryz.ntmps61
  go_wp2
  rw [← hw0]
  clear hw0
  go_loopw [8] (fun i wr => ∃ j N : Nat, j ≤ k ∧ i = .int .i64 j ∧ Hid ((p1, p2) ∉ P.take j) ∧ wr = w0.drewN N) (fun i _ => k - (intOf i).toNat)
  case atStart => exact ⟨0, 0, Nat.zero_le _, rfl, Lib.hid (by simp), rfl⟩
  case round =>
    obtain ⟨j, N, hj, rfl, HT, rfl⟩ := hrel
    by_cases hlt : j < k
    · obtain ⟨b1, o1, ⟨x1, x2⟩, rfl, hbl, hx1, hc1, hc2⟩ := HP.out.at_ (k := j) (by rw [HK.out]; exact hlt)
      simp only at hc1 hc2
      have hrun := fun W => piece_eql_run p1 p2 x1 x2 W
      have HX := Lib.hid hx1
      have d1 := (HB0.out.cell (p := ⟨b1, o1 + j * 2, none⟩) hbl).trans hc1
      have d2 := (HB0.out.cell (p := ⟨b1, o1 + j * 2 + 1, none⟩) hbl).trans hc2
      have q0 : w0.cell? ⟨w.heap.size, 0, none⟩ = some (.int .i64 p1) := by rw [cell_of_row _ _ _ _ _ _ HR0.out]; rfl
      have q1 : w0.cell? ⟨w.heap.size, 1, none⟩ = some (.int .i64 p2) := by rw [cell_of_row _ _ _ _ _ _ HR0.out]; rfl
      clear hx1 hc1 hc2 hbl
      by_cases hxy : (p1, p2) = (x1, x2)
      · injection hxy with h1 h2
        subst h1 h2
        have hb : (p1 == p1 && p2 == p2) = true := by simp
        simp only [hb] at hrun
        go_wp2
        go_quiet (fail)
        go_wp2
        go_ret
        exact ⟨by rw [idxV_at HX.out HT.out]; rfl, HB0.out.trans (below_drewN (below_drewN (Below.refl _ _) _) _)⟩
      · have hb : (p1 == x1 && p2 == x2) = false := by
          rw [Bool.and_eq_false_iff]
          by_cases h1 : p1 = x1
          · exact .inr (by simpa using fun h2 => hxy (by rw [h1, h2]))
          · exact .inl (by simpa using h1)
        simp only [hb] at hrun
        have HXY := Lib.hid hxy
        clear hxy
        go_wp2
        go_quiet (fail)
        go_wp2
        go_roundw
        case rel => exact ⟨j + 1, _, by omega, by go_num, Lib.hid (by
          rw [List.take_add_one, HX.out]
          intro h
          rcases List.mem_append.mp h with h | h
          · exact HT.out h
          · exact HXY.out (by simpa using h)), rfl⟩
        case measure => simp [intOf]; omega
    · obtain rfl : k = j := by omega
      have HN : Hid ((p1, p2) ∉ P) := Lib.hid (by have h := HT.out; rwa [List.take_of_length_le (by rw [HK.out]; exact Nat.le_refl _)] at h)
      go_wp2
      go_ret
      exact ⟨by rw [idxV_no HN.out]; rfl, HB0.out.trans (below_drewN (Below.refl _ _) _)⟩
section
variable {A : Option Addr} {n c : Nat} {F : Option Addr} {m d : Nat} {R : Option Addr} {k e : Nat} {W : List Int} {E P : List (Int × Int)}
set_option maxRecDepth 100000 in
set_option maxHeartbeats 2000000 in
theorem nodeL_any (w : World) (p1 p2 : Int) (h : IsL w A n c F m d R k e W E P) :
    Calls Tryz.prog 33 #[.agg #[.slice A n c, .slice F m d, .slice R k e], .agg #[.int .i64 p1, .int .i64 p2]] w fun e w' => e = .returned (.int .i64 (idxV P (p1, p2))) ∧ Below w.heap.size w w' := by
  obtain ⟨w0, hw0⟩ : ∃ w0, w0 = (w.alloc (.cells #[.slice A n c, .slice F m d, .slice R k e] 35)).alloc (.cells #[.int .i64 p1, .int .i64 p2] 72) := ⟨_, rfl⟩
  have hb0 : Below w.heap.size w w0 := by rw [hw0]; exact below_alloc2 _ _
  have C := index_any 0 k e R P p1 p2 w0 h.hk (by have := h.lk; omega) ((h.pcs.below hb0).more hb0.size)
  have HB0 := Lib.hid hb0
  have HC := Lib.hid C
  clear h hb0 C
  go_enter Tryz.func33, Tryz.ntmps33
  go_wp2_with fail
  rw [← hw0]
  clear hw0
  refine HC.out.mono ?_
  rintro e w1 ⟨rfl, b1⟩
  have HB1 := Lib.hid (HB0.out.trans (b1.mono HB0.out.size))
  clear b1
  go_wp2
  go_ret
  exact ⟨rfl, HB1.out⟩
set_option maxRecDepth 100000 in
set_option maxHeartbeats 2000000 in
theorem lastL_any (w : World) (x : Int) (h1 : -9223372036854775808 ≤ x) (h2 : x ≤ 9223372036854775807) (h : IsL w A n c F m d R k e W E P) :
    Calls Tryz.prog 32 #[.agg #[.slice A n c, .slice F m d, .slice R k e], .int .i64 x] w fun e w' => e = .returned (.int .i64 (lastV P x)) ∧ Below w.heap.size w w' := by
  obtain ⟨w0, hw0⟩ : ∃ w0, w0 = w.alloc (.cells #[.slice A n c, .slice F m d, .slice R k e] 35) := ⟨_, rfl⟩
  have hb0 : Below w.heap.size w w0 := by rw [hw0]; exact below_alloc _
  have hr0 : w0.heap[w.heap.size]? = some (.cells #[.slice A n c, .slice F m d, .slice R k e] 35 (0, 0)) := by rw [hw0]; exact heap_alloc_new w _
  have q2 : w0.cell? ⟨w.heap.size, 2, none⟩ = some (.slice R k e) := by rw [cell_of_row _ _ _ _ _ _ hr0]; rfl
  have HB0 := Lib.hid hb0
  have HP := Lib.hid h.pcs
  have HK := Lib.hid h.hk
  have hlk := h.lk
  clear hb0 hr0 h
  by_cases hx : x < 0
  · have HV : Hid (lastV P x = -1) := Lib.hid (by unfold lastV; rw [if_pos hx])
    go_enter Tryz.func32, Tryz.ntmps32
    go_wp2
    rw [← hw0]
    go_ret
    exact ⟨by rw [HV.out]; rfl, HB0.out⟩
  · have HV : Hid (lastV P x = lastK P x k) := Lib.hid (by unfold lastV; rw [if_neg hx, HK.out])
    have hx2 : decide (x < 0) = false := decide_eq_false hx
    go_enter Tryz.func32, Tryz.ntmps32
    go_wp2
    rw [← hw0]
    clear hw0
    go_loopw [5] (fun i wr => ∃ j : Nat, j ≤ k ∧ i = .int .i64 ((j : Int) - 1) ∧ Hid (lastV P x = lastK P x j) ∧ wr = w0) (fun i _ => (intOf i + 1).toNat)
    case atStart => exact ⟨k, Nat.le_refl _, by go_num, HV, rfl⟩
    case round =>
      obtain ⟨j, hj, rfl, HJ, rfl⟩ := hrel
      cases j with
      | zero =>
        go_wp2
        go_ret
        exact ⟨by rw [HJ.out]; rfl, HB0.out⟩
      | succ i =>
        obtain ⟨b1, o1, ⟨x1, x2⟩, rfl, hbl, hx1, hc1, hc2⟩ := HP.out.at_ (k := i) (by rw [HK.out]; omega)
        simp only at hc1 hc2
        have d1 := (HB0.out.cell (p := ⟨b1, o1 + i * 2, none⟩) hbl).trans hc1
        have HGD : Hid ((P.getD i (0, 0)).1 = x1) := Lib.hid (by rw [List.getD_eq_getElem?_getD, hx1]; rfl)
        have e1 : ((i + 1 : Nat) : Int) - 1 = (i : Int) := by omega
        rw [e1]
        clear hx1 hc1 hc2 hbl e1
        by_cases hxx : x1 = x
        · have HR : Hid (lastV P x = (i : Int)) := Lib.hid (by rw [HJ.out, lastK, if_pos (by rw [HGD.out]; exact hxx)])
          have hb : (x1 == x) = true := by simpa using hxx
          clear hxx
          go_wp2
          go_ret
          exact ⟨by rw [HR.out]; rfl, HB0.out⟩
        · have HR : Hid (lastV P x = lastK P x i) := Lib.hid (by rw [HJ.out, lastK, if_neg (by rw [HGD.out]; exact hxx)])
          have hb : (x1 == x) = false := by simpa using hxx
          have hxe : ¬ x1 = x := hxx
          clear hxx
          go_wp2
          go_roundw
          case rel => exact ⟨i, by omega, by go_num, HR, trivial⟩
          case measure => simp [intOf]
end
section
variable {A : Option Addr} {n c : Nat} {F : Option Addr} {m d : Nat} {R : Option Addr} {k e : Nat} {W : List Int} {E P : List (Int × Int)} {A' : Option Addr} {n' c' : Nat} {F' : Option Addr} {m' d' : Nat} {R' : Option Addr} {k' e' : Nat} {W' : List Int} {E' P' : List (Int × Int)}
set_option maxRecDepth 100000 in
set_option maxHeartbeats 2000000 in
theorem sameL_any (w : World) (h : IsL w A n c F m d R k e W E P) (h' : IsL w A' n' c' F' m' d' R' k' e' W' E' P') :
    Calls Tryz.prog 34 #[.agg #[.slice A n c, .slice F m d, .slice R k e], .agg #[.slice A' n' c', .slice F' m' d', .slice R' k' e']] w fun e w' => e = .returned (.bool (decide ((W = W' ∧ E = E') ∧ P = P'))) ∧ Below w.heap.size w w' := by
  obtain ⟨w0, hw0⟩ : ∃ w0, w0 = (w.alloc (.cells #[.slice A n c, .slice F m d, .slice R k e] 35)).alloc (.cells #[.slice A' n' c', .slice F' m' d', .slice R' k' e'] 35) := ⟨_, rfl⟩
  have hb0 : Below w.heap.size w w0 := by rw [hw0]; exact below_alloc2 _ _
  have r0 : w0.heap[w.heap.size]? = some (.cells #[.slice A n c, .slice F m d, .slice R k e] 35 (0, 0)) := by
    rw [hw0]
    have h1 := heap_alloc_new w (.cells #[.slice A n c, .slice F m d, .slice R k e] 35)
    rw [(below_alloc (w := w.alloc (.cells #[.slice A n c, .slice F m d, .slice R k e] 35)) (.cells #[.slice A' n' c', .slice F' m' d', .slice R' k' e'] 35)).block _ (by simp)]
    exact h1
  have r1 : w0.heap[w.heap.size + 1]? = some (.cells #[.slice A' n' c', .slice F' m' d', .slice R' k' e'] 35 (0, 0)) := by
    rw [hw0]
    have h1 := heap_alloc_new (w.alloc (.cells #[.slice A n c, .slice F m d, .slice R k e] 35)) (.cells #[.slice A' n' c', .slice F' m' d', .slice R' k' e'] 35)
    simpa using h1
  have C1 := same_done w0 (h.g.below hb0) (h'.g.below hb0)
  have C2 := Lib.hid (fun (w1 : World) (hb : Below w0.heap.size w0 w1) => eq_pieces w1.heap.size R R' e e' P P' w1 (by rw [h.hk]; have := h.lk; omega) (by rw [h'.hk]; have := h'.lk; omega) ((((h.pcs.below hb0).more hb0.size).below hb).more hb.size) ((((h'.pcs.below hb0).more hb0.size).below hb).more hb.size))
  rw [h.hk, h'.hk] at C2
  have HB0 := Lib.hid hb0
  have HR0 := Lib.hid r0
  have HR1 := Lib.hid r1
  have hs0 : w.heap.size + 1 < w0.heap.size := (Array.getElem?_eq_some_iff.mp r1).1
  have HC1 := Lib.hid C1
  clear h h' hb0 r0 r1 C1
  by_cases h1 : W = W' ∧ E = E'
  · rw [decide_eq_true h1] at HC1
    have hr : decide ((W = W' ∧ E = E') ∧ P = P') = decide (P = P') := by simp [h1]
    rw [hr]
    obtain ⟨r, hr⟩ : ∃ r, r = decide (P = P') := ⟨_, rfl⟩
    simp only [← hr] at C2 ⊢
    clear h1 hr
    go_enter Tryz.func34, Tryz.ntmps34
    go_wp2_with fail
    rw [← hw0]
    clear hw0
    refine HC1.out.mono ?_
    rintro e w1 ⟨rfl, b1⟩
    have q0 : w1.cell? ⟨w.heap.size, 2, none⟩ = some (.slice R k e) := by rw [cell_of_row _ _ _ _ _ _ ((b1.block _ (by omega)).trans HR0.out)]; rfl
    have q1 : w1.cell? ⟨w.heap.size + 1, 2, none⟩ = some (.slice R' k' e') := by rw [cell_of_row _ _ _ _ _ _ ((b1.block _ (by omega)).trans HR1.out)]; rfl
    have CC := Lib.hid (C2.out w1 b1)
    have HB1 := Lib.hid (HB0.out.trans (b1.mono HB0.out.size))
    clear b1 HC1 C2
    go_wp2_with fail
    refine CC.out.mono ?_
    rintro e w2 ⟨rfl, N, rfl⟩
    go_wp2
    go_ret
    exact ⟨rfl, HB1.out.trans ((below_drewN (Below.refl _ _) N).mono HB1.out.size)⟩
  · rw [decide_eq_false h1] at HC1
    rw [decide_eq_false (fun q : (W = W' ∧ E = E') ∧ P = P' => h1 q.1)]
    clear h1 C2
    go_enter Tryz.func34, Tryz.ntmps34
    go_wp2_with fail
    rw [← hw0]
    clear hw0
    refine HC1.out.mono ?_
    rintro e w1 ⟨rfl, b1⟩
    have HB1 := Lib.hid (HB0.out.trans (b1.mono HB0.out.size))
    clear b1
    go_wp2
    go_ret
    exact ⟨rfl, HB1.out⟩
end
end Go.Proofs.YtmelgolnmnebpaaGreatDoor
set_option linter.unusedVariables false
namespace Go.Proofs.YtmelgolnmnebpaaGreatDoor
open Go.RowKit

def exL : Task := ⟨8, 8, [(0, 0, 2), (0, 0, 5)], [], [(0, 1, 3)], []⟩
def roL : Task := ⟨8, 8, [(0, 0, 2), (0, 0, 5)], [(0, 1), (1, 0)], [], []⟩
theorem exLFew : FewT exL := ⟨by decide, by decide, by decide, by decide, by decide⟩
theorem roLFew : FewT roL := ⟨by decide, by decide, by decide, by decide, by decide⟩
theorem exLMay : MayT exL where
  few := by unfold ManyT; decide
  time := by decide
  parts := by decide
  edges := ⟨by unfold Fits; decide, by decide, by decide⟩
  futures := by
    refine ⟨fun f hf => ?_, by decide⟩
    obtain rfl : f = (0, 1, 3) := by simpa [exL] using hf
    refine ⟨by decide, by decide, by decide, by decide, fun e he => ?_⟩
    have : e = (0, 0, 5) := by
      have h2 : (exL.parts)[1]? = some (0, 0, 5) := rfl
      rw [show ((0, 1, 3) : Int × Int × Int).2.1.toNat = 1 from rfl, h2] at he
      exact (Option.some.inj he).symm
    rw [this]
    decide
  bars := fun b hb => by simp [exL] at hb
theorem roLMay : MayT roL where
  few := by unfold ManyT; decide
  time := by decide
  parts := by decide
  edges := ⟨by unfold Fits; decide, by decide, by decide⟩
  futures := ⟨fun f hf => by simp [roL] at hf, by decide⟩
  bars := fun b hb => by simp [roL] at hb
theorem exLW : lowW exL = [2, 3, 2] := by decide +kernel
theorem exLE : lowE exL = [(1, 2), (0, 2)] := by decide +kernel
theorem exLP : lowP exL = [(0, 0), (1, 0), (1, 1)] := by decide +kernel
theorem roLW : lowW roL = [2, 5] := by decide +kernel
theorem roLE : lowE roL = [(0, 1), (1, 0)] := by decide +kernel
theorem exLFits : Fits 3 [(1, 2), (0, 2)] := by unfold Fits; decide
theorem exLGood : May [2, 3, 2] [(1, 2), (0, 2)] := ⟨by decide, by decide, by unfold WorkOk; decide, exLFits, by decide, by decide, acyc_of exLFits (by decide)⟩
theorem exLOk : LowOk exL := ⟨exLMay, by rw [exLW, exLE]; exact exLGood⟩
theorem exLX : lowX exL = 0 := lowX_zero.mpr exLOk
theorem exLWv : lowWv exL = [2, 3, 2] := by unfold lowWv; rw [if_pos exLOk, exLW]
theorem exLEv : lowEv exL = [(1, 2), (0, 2)] := by unfold lowEv; rw [if_pos exLOk, exLE]
theorem exLPv : lowPv exL = [(0, 0), (1, 0), (1, 1)] := by unfold lowPv; rw [if_pos exLOk, exLP]
theorem roLX : lowX roL = 70 := by
  unfold lowX
  rw [if_pos roLMay, if_neg]
  rw [roLW, roLE]
  intro h
  exact h.acyc 0 ((reach_iff (n := 2) (by unfold Fits; decide) 0 0).mp (by decide))
theorem exLIdx : idxV [(0, 0), (1, 0), (1, 1)] (1, 1) = 2 := by decide
theorem exLLast0 : lastV [(0, 0), (1, 0), (1, 1)] 0 = 0 := by decide
theorem exLLast7 : lastV [(0, 0), (1, 0), (1, 1)] 7 = -1 := by decide
end Go.Proofs.YtmelgolnmnebpaaGreatDoor
