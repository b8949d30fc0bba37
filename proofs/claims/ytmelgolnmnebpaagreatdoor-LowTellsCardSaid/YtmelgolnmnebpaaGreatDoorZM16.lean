/- The contract of trefoilref04.Same in the seat YtmelgolnmnebpaaGreatDoor.
   The contract of trefoilref05.Same in the seat YtmelgolnmnebpaaGreatDoor.
   The contract of trefoilref05.Same in the seat YtmelgolnmnebpaaGreatDoor (printed by desc/mk_same.py).
   No statement is proved here. -/
import Derived.Test.YtmelgolnmnebpaaGreatDoorZM1
import Derived.Laws.StructEq
import Derived.Test.YtmelgolnmnebpaaGreatDoorZDescCheck
set_option linter.unusedSimpArgs false
set_option linter.unusedVariables false
namespace Go.Proofs.YtmelgolnmnebpaaGreatDoor
open Go.RowKit

theorem below_alloc2 {w : World} (o o2 : Obj) : Below w.heap.size w ((w.alloc o).alloc o2) := (below_alloc o).alloc (by simp) o2
theorem edge_fields : (Tryz.prog.fieldsOf 69).toList.map (fun f => (f.name, f.type, f.offset)) = [("From", 3, 0), ("To", 3, 1)] := by kernel_rfl
theorem part_int (x y : Int) (W : World) : (part 3 #[.int .i64 x, .int .i64 y] 0).run Tryz.prog W = .ok (.int .i64 x) W ∧ (part 3 #[.int .i64 x, .int .i64 y] 1).run Tryz.prog W = .ok (.int .i64 y) W := ⟨by kernel_rfl, by kernel_rfl⟩
theorem edge_eq (x y u v : Int) (W : World) : (Op.equalIn 10000 69 (.agg #[.int .i64 x, .int .i64 y]) (.agg #[.int .i64 u, .int .i64 v])).run Tryz.prog W = .ok (x == u && y == v) W := by
  have hf := edge_fields
  rw [run_equalIn_agg (d := 9999) W 69 _ _ (by kernel_rfl) (by kernel_rfl)]
  generalize (Tryz.prog.fieldsOf 69).toList = fs at hf
  match fs, hf with
  | [], hf => simp at hf
  | [_], hf => simp at hf
  | _ :: _ :: _ :: _, hf => simp at hf
  | [f, g], hf =>
    simp only [List.map_cons, List.map_nil, List.cons.injEq, Prod.mk.injEq, and_true] at hf
    obtain ⟨⟨n1, t1, o1⟩, n2, t2, o2⟩ := hf
    have e1 := fun a b W => run_equalIn_int (P := Tryz.prog) W 9998 3 .i64 .i64 a b Tryz.underlying3
    have p1 := fun a b W => (part_int a b W).1
    have p2 := fun a b W => (part_int a b W).2
    simp only [Op.eqFields, n1, n2, t1, t2, o1, o2]
    by_cases h1 : x = u
    · subst h1
      by_cases h2 : y = v
      · simp [p1, p2, e1, h2]
      · simp [p1, p2, e1, h2]
    · simp [p1, p2, e1, h1]
theorem edge_neq_run (x y u v : Int) (W : World) : (binOp .neq 69 (.agg #[.int .i64 x, .int .i64 y]) (.agg #[.int .i64 u, .int .i64 v])).run Tryz.prog W = .ok (.bool (!(x == u && y == v))) W := by
  rw [run_neq_struct, edge_eq]
  rfl
theorem edge_eql_run (x y u v : Int) (W : World) : (binOp .eql 69 (.agg #[.int .i64 x, .int .i64 y]) (.agg #[.int .i64 u, .int .i64 v])).run Tryz.prog W = .ok (.bool (x == u && y == v)) W := by
  rw [run_eql_struct, edge_eq]
  rfl
set_option maxRecDepth 100000 in
set_option maxHeartbeats 2000000 in
theorem same_any (A F A' F' : Option Addr) (n c m d n' c' m' d' : Nat) (W W' : List Int) (E E' : List (Int × Int)) (w : World) (hn : W.length = n) (hm : E.length = m) (hn' : W'.length = n') (hm' : E'.length = m')
    (l1 : n ≤ 1000) (l2 : m ≤ 1000) (l3 : n' ≤ 1000) (l4 : m' ≤ 1000) (hI : Ints w w.heap.size A W) (hP : Pairs w w.heap.size F E) (hI' : Ints w w.heap.size A' W') (hP' : Pairs w w.heap.size F' E') :
    Calls Tryz.prog 41 #[.agg #[.slice A n c, .slice F m d], .agg #[.slice A' n' c', .slice F' m' d']] w fun e w' => e = .returned (.bool (decide (W = W' ∧ E = E'))) ∧ Below w.heap.size w w' := by
  have HI := Lib.hid hI
  have HN := Lib.hid hn
  have HP := Lib.hid hP
  have HM := Lib.hid hm
  have HI' := Lib.hid hI'
  have HN' := Lib.hid hn'
  have HP' := Lib.hid hP'
  have HM' := Lib.hid hm'
  obtain ⟨r, hr⟩ : ∃ r, r = decide (W = W' ∧ E = E') := ⟨_, rfl⟩
  rw [← hr]
  have HR := Lib.hid hr
  clear hI hn hP hm hI' hn' hP' hm' hr
  by_cases h1 : n = n'
  · subst h1
    by_cases h2 : m = m'
    · subst h2
      go_enter Tryz.func41, Tryz.ntmps41
      go_wp2
      go_loopw [5] (fun i wr => ∃ j N : Nat, j ≤ n ∧ i = .int .i64 j ∧ Hid (W.take j = W'.take j) ∧ wr = ((w.alloc (.cells #[.slice A n c, .slice F m d] 32)).alloc (.cells #[.slice A' n c', .slice F' m d'] 32)).drewN N) (fun i _ => n - (intOf i).toNat)
      case atStart => exact ⟨0, 0, Nat.zero_le _, rfl, Lib.hid rfl, rfl⟩
      case round =>
        obtain ⟨j, N, hj, rfl, HT, rfl⟩ := hrel
        by_cases hlt : j < n
        · obtain ⟨b1, o1, x, rfl, hb1, hx1, hc1⟩ := HI.out.at_ (k := j) (by rw [HN.out]; exact hlt)
          obtain ⟨b2, o2, y, rfl, hb2, hy1, hc2⟩ := HI'.out.at_ (k := j) (by rw [HN'.out]; exact hlt)
          have HX := Lib.hid hx1
          have HY := Lib.hid hy1
          clear hx1 hy1
          by_cases hxy : x = y
          · subst hxy
            go_wp2
            go_quiet (fail)
            go_wp2
            go_roundw
            case rel => exact ⟨j + 1, _, by omega, by go_num, Lib.hid (take_next HT.out HX.out HY.out), rfl⟩
            case measure => simp [intOf]; omega
          · have hb : (x != y) = true := by simpa using hxy
            have HXY := Lib.hid hxy
            clear hxy
            go_wp2
            go_quiet (fail)
            go_wp2
            go_ret
            exact ⟨by rw [HR.out, decide_eq_false (fun e : W = W' ∧ E = E' => take_part HX.out HY.out HXY.out e.1)]; rfl, below_drewN (below_drewN (below_alloc2 _ _) N) _⟩
        · obtain rfl : j = n := by omega
          have HWW := Lib.hid (take_ext (by rw [HN.out, HN'.out]) (by rw [HN.out]; exact HT.out) : W = W')
          go_wp2
          go_loopw [6] (fun i wr => ∃ k M : Nat, k ≤ m ∧ i = .int .i64 k ∧ Hid (E.take k = E'.take k) ∧ wr = ((w.alloc (.cells #[.slice A j c, .slice F m d] 32)).alloc (.cells #[.slice A' j c', .slice F' m d'] 32)).drewN M) (fun i _ => m - (intOf i).toNat)
          case atStart => exact ⟨0, N, Nat.zero_le _, rfl, Lib.hid rfl, rfl⟩
          case round =>
            obtain ⟨k, M, hk, rfl, HU, rfl⟩ := hrel
            by_cases hlt2 : k < m
            · obtain ⟨b1, o1, ⟨x1, x2⟩, rfl, hb1, hx1, hc1, hc2⟩ := HP.out.at_ (k := k) (by rw [HM.out]; exact hlt2)
              obtain ⟨b2, o2, ⟨y1, y2⟩, rfl, hb2, hy1, hd1, hd2⟩ := HP'.out.at_ (k := k) (by rw [HM'.out]; exact hlt2)
              simp only at hc1 hc2 hd1 hd2
              have HX := Lib.hid hx1
              have HY := Lib.hid hy1
              clear hx1 hy1
              have hrun := fun W => edge_neq_run x1 x2 y1 y2 W
              by_cases hxy : (x1, x2) = (y1, y2)
              · injection hxy with h1 h2
                subst h1 h2
                have hb : (x1 == x1 && x2 == x2) = true := by simp
                simp only [hb] at hrun
                go_wp2
                go_quiet (fail)
                go_wp2
                go_roundw
                case rel => exact ⟨k + 1, _, by omega, by go_num, Lib.hid (take_next HU.out HX.out HY.out), rfl⟩
                case measure => simp [intOf]; omega
              · have hb : (x1 == y1 && x2 == y2) = false := by
                  rw [Bool.and_eq_false_iff]
                  by_cases h1 : x1 = y1
                  · exact .inr (by simpa using fun h2 => hxy (by rw [h1, h2]))
                  · exact .inl (by simpa using h1)
                simp only [hb] at hrun
                have HXY := Lib.hid hxy
                clear hxy
                go_wp2
                go_quiet (fail)
                go_wp2
                go_ret
                exact ⟨by rw [HR.out, decide_eq_false (fun e : W = W' ∧ E = E' => take_part HX.out HY.out HXY.out e.2)]; rfl, below_drewN (below_drewN (below_alloc2 _ _) M) _⟩
            · obtain rfl : k = m := by omega
              have HEE := Lib.hid (take_ext (by rw [HM.out, HM'.out]) (by rw [HM.out]; exact HU.out) : E = E')
              go_wp2
              go_ret
              exact ⟨by rw [HR.out, decide_eq_true (⟨HWW.out, HEE.out⟩ : W = W' ∧ E = E')]; rfl, below_drewN (below_alloc2 _ _) M⟩
    · have hb : ((m : Int) != (m' : Int)) = true := by simp; omega
      have HNO := Lib.hid (fun e : W = W' ∧ E = E' => h2 (by rw [← HM.out, ← HM'.out, e.2]))
      clear h2
      go_enter Tryz.func41, Tryz.ntmps41
      go_wp2
      go_ret
      exact ⟨by rw [HR.out, decide_eq_false HNO.out]; rfl, below_alloc2 _ _⟩
  · have hb : ((n : Int) != (n' : Int)) = true := by simp; omega
    have HNO := Lib.hid (fun e : W = W' ∧ E = E' => h1 (by rw [← HN.out, ← HN'.out, e.1]))
    clear h1
    go_enter Tryz.func41, Tryz.ntmps41
    go_wp2
    go_ret
    exact ⟨by rw [HR.out, decide_eq_false HNO.out]; rfl, below_alloc2 _ _⟩
end Go.Proofs.YtmelgolnmnebpaaGreatDoor
set_option linter.unusedVariables false
namespace Go.Proofs.YtmelgolnmnebpaaGreatDoor
open Go.RowKit

theorem part_fields : (Tryz.prog.fieldsOf 62).toList.map (fun f => (f.name, f.type, f.offset)) = [("Op", 60, 0), ("Arg", 3, 1), ("Work", 3, 2)] := by kernel_rfl
theorem future_fields : (Tryz.prog.fieldsOf 67).toList.map (fun f => (f.name, f.type, f.offset)) = [("Maker", 3, 0), ("User", 3, 1), ("At", 3, 2)] := by kernel_rfl
theorem part3 (t : TypeId) (ht : t = 3 ∨ t = 60) (x y z : Int) (W : World) : (part t #[.int .i64 x, .int .i64 y, .int .i64 z] 0).run Tryz.prog W = .ok (.int .i64 x) W ∧ (part t #[.int .i64 x, .int .i64 y, .int .i64 z] 1).run Tryz.prog W = .ok (.int .i64 y) W ∧ (part t #[.int .i64 x, .int .i64 y, .int .i64 z] 2).run Tryz.prog W = .ok (.int .i64 z) W := by
  rcases ht with rfl | rfl
  · exact ⟨by kernel_rfl, by kernel_rfl, by kernel_rfl⟩
  · exact ⟨by kernel_rfl, by kernel_rfl, by kernel_rfl⟩
theorem part_eq (x y z u v t : Int) (W : World) : (Op.equalIn 10000 62 (.agg #[.int .i64 x, .int .i64 y, .int .i64 z]) (.agg #[.int .i64 u, .int .i64 v, .int .i64 t])).run Tryz.prog W = .ok (x == u && (y == v && z == t)) W := by
  have hf := part_fields
  rw [run_equalIn_agg (d := 9999) W 62 _ _ (by kernel_rfl) (by kernel_rfl)]
  generalize (Tryz.prog.fieldsOf 62).toList = fs at hf
  match fs, hf with
  | [], hf => simp at hf
  | [_], hf => simp at hf
  | [_, _], hf => simp at hf
  | _ :: _ :: _ :: _ :: _, hf => simp at hf
  | [f, g, h], hf =>
    simp only [List.map_cons, List.map_nil, List.cons.injEq, Prod.mk.injEq, and_true] at hf
    obtain ⟨⟨n1, t1, o1⟩, ⟨n2, t2, o2⟩, n3, t3, o3⟩ := hf
    have e1 := fun a b W => run_equalIn_int (P := Tryz.prog) W 9998 3 .i64 .i64 a b Tryz.underlying3
    have e2 := fun a b W => run_equalIn_int (P := Tryz.prog) W 9998 60 .i64 .i64 a b Tryz.underlying60
    have p1 := fun a b c W => (part3 60 (.inr rfl) a b c W).1
    have p2 := fun a b c W => (part3 3 (.inl rfl) a b c W).2.1
    have p3 := fun a b c W => (part3 3 (.inl rfl) a b c W).2.2
    simp only [Op.eqFields, n1, n2, n3, t1, t2, t3, o1, o2, o3]
    by_cases h1 : x = u
    · subst h1
      by_cases h2 : y = v
      · subst h2
        by_cases h3 : z = t
        · simp [p1, p2, p3, e1, e2, h3]
        · simp [p1, p2, p3, e1, e2, h3]
      · simp [p1, p2, p3, e1, e2, h2]
    · simp [p1, p2, p3, e1, e2, h1]
theorem future_eq (x y z u v t : Int) (W : World) : (Op.equalIn 10000 67 (.agg #[.int .i64 x, .int .i64 y, .int .i64 z]) (.agg #[.int .i64 u, .int .i64 v, .int .i64 t])).run Tryz.prog W = .ok (x == u && (y == v && z == t)) W := by
  have hf := future_fields
  rw [run_equalIn_agg (d := 9999) W 67 _ _ (by kernel_rfl) (by kernel_rfl)]
  generalize (Tryz.prog.fieldsOf 67).toList = fs at hf
  match fs, hf with
  | [], hf => simp at hf
  | [_], hf => simp at hf
  | [_, _], hf => simp at hf
  | _ :: _ :: _ :: _ :: _, hf => simp at hf
  | [f, g, h], hf =>
    simp only [List.map_cons, List.map_nil, List.cons.injEq, Prod.mk.injEq, and_true] at hf
    obtain ⟨⟨n1, t1, o1⟩, ⟨n2, t2, o2⟩, n3, t3, o3⟩ := hf
    have e1 := fun a b W => run_equalIn_int (P := Tryz.prog) W 9998 3 .i64 .i64 a b Tryz.underlying3
    have p1 := fun a b c W => (part3 3 (.inl rfl) a b c W).1
    have p2 := fun a b c W => (part3 3 (.inl rfl) a b c W).2.1
    have p3 := fun a b c W => (part3 3 (.inl rfl) a b c W).2.2
    simp only [Op.eqFields, n1, n2, n3, t1, t2, t3, o1, o2, o3]
    by_cases h1 : x = u
    · subst h1
      by_cases h2 : y = v
      · subst h2
        by_cases h3 : z = t
        · simp [p1, p2, p3, e1, h3]
        · simp [p1, p2, p3, e1, h3]
      · simp [p1, p2, p3, e1, h2]
    · simp [p1, p2, p3, e1, h1]
theorem part_neq_run (x y z u v t : Int) (W : World) : (binOp .neq 62 (.agg #[.int .i64 x, .int .i64 y, .int .i64 z]) (.agg #[.int .i64 u, .int .i64 v, .int .i64 t])).run Tryz.prog W = .ok (.bool (!(x == u && (y == v && z == t)))) W := by
  rw [run_neq_struct, part_eq]
  rfl
theorem future_neq_run (x y z u v t : Int) (W : World) : (binOp .neq 67 (.agg #[.int .i64 x, .int .i64 y, .int .i64 z]) (.agg #[.int .i64 u, .int .i64 v, .int .i64 t])).run Tryz.prog W = .ok (.bool (!(x == u && (y == v && z == t)))) W := by
  rw [run_neq_struct, future_eq]
  rfl
theorem trip_neq {x y z u v t : Int} (h : (x, y, z) ≠ (u, v, t)) : (x == u && (y == v && z == t)) = false := by
  rw [Bool.and_eq_false_iff, Bool.and_eq_false_iff]
  by_cases h1 : x = u
  · by_cases h2 : y = v
    · refine .inr (.inr ?_)
      simp only [beq_eq_false_iff_ne]
      exact fun h3 => h (by rw [h1, h2, h3])
    · exact .inr (.inl (by simpa using h2))
  · exact .inl (by simpa using h1)
end Go.Proofs.YtmelgolnmnebpaaGreatDoor
set_option linter.unusedVariables false
namespace Go.Proofs.YtmelgolnmnebpaaGreatDoor
open Go.RowKit

/-- Two tasks lie in boxes of the call's own (it began in w), and as they came. -/
structure BxS (w : World) (p q : Int) (s : Sh) (T : Task) (p' q' : Int) (s' : Sh) (T' : Task) (w' : World) : Prop where
  b : BxD w p q s.P s.np s.pc s.E s.ne s.ec s.F s.nf s.fc s.R s.nr s.rc w'
  d0 : w'.cell? ⟨w.heap.size + 1, 0, none⟩ = some (.int .i64 p')
  d1 : w'.cell? ⟨w.heap.size + 1, 1, none⟩ = some (.int .i64 q')
  d2 : w'.cell? ⟨w.heap.size + 1, 2, none⟩ = some (.slice s'.P s'.np s'.pc)
  d3 : w'.cell? ⟨w.heap.size + 1, 3, none⟩ = some (.slice s'.E s'.ne s'.ec)
  d4 : w'.cell? ⟨w.heap.size + 1, 4, none⟩ = some (.slice s'.F s'.nf s'.fc)
  d5 : w'.cell? ⟨w.heap.size + 1, 5, none⟩ = some (.slice s'.R s'.nr s'.rc)
  t : IsT w' w'.heap.size s T
  t' : IsT w' w'.heap.size s' T'
theorem BxS.next {w w1 w2 : World} {p q : Int} {s : Sh} {T : Task} {p' q' : Int} {s' : Sh} {T' : Task} (h : BxS w p q s T p' q' s' T' w1) (hb : Below w1.heap.size w1 w2) : BxS w p q s T p' q' s' T' w2 := by
  have hlt : w.heap.size + 1 < w1.heap.size := World.block_lt_of_cell? _ _ h.d0
  exact ⟨h.b.next hb, (hb.cell hlt).trans h.d0, (hb.cell hlt).trans h.d1, (hb.cell hlt).trans h.d2, (hb.cell hlt).trans h.d3, (hb.cell hlt).trans h.d4, (hb.cell hlt).trans h.d5, (h.t.below hb).more hb.size, (h.t'.below hb).more hb.size⟩
theorem BxS.start {w : World} {s s' : Sh} {T T' : Task} (p q p' q' : Int) (h : IsT w w.heap.size s T) (h' : IsT w w.heap.size s' T') :
    BxS w p q s T p' q' s' T' ((w.alloc (.cells #[.int .i64 p, .int .i64 q, .slice s.P s.np s.pc, .slice s.E s.ne s.ec, .slice s.F s.nf s.fc, .slice s.R s.nr s.rc] 27)).alloc (.cells #[.int .i64 p', .int .i64 q', .slice s'.P s'.np s'.pc, .slice s'.E s'.ne s'.ec, .slice s'.F s'.nf s'.fc, .slice s'.R s'.nr s'.rc] 27)) := by
  obtain ⟨w1, h1⟩ : ∃ w1, w1 = w.alloc (.cells #[.int .i64 p, .int .i64 q, .slice s.P s.np s.pc, .slice s.E s.ne s.ec, .slice s.F s.nf s.fc, .slice s.R s.nr s.rc] 27) := ⟨_, rfl⟩
  rw [← h1]
  have s1 : w1.heap.size = w.heap.size + 1 := by rw [h1]; simp
  have b1 : Below w.heap.size w w1 := by rw [h1]; exact below_alloc _
  have hD : BxD w p q s.P s.np s.pc s.E s.ne s.ec s.F s.nf s.fc s.R s.nr s.rc w1 := by rw [h1]; exact BxD.start w p q _ _ _ _ _ _ _ _ _ _ _ _
  have b2 := below_alloc (w := w1) (.cells #[.int .i64 p', .int .i64 q', .slice s'.P s'.np s'.pc, .slice s'.E s'.ne s'.ec, .slice s'.F s'.nf s'.fc, .slice s'.R s'.nr s'.rc] 27)
  refine ⟨hD.next b2, ?_, ?_, ?_, ?_, ?_, ?_, (((h.below b1).more b1.size).below b2).more b2.size, (((h'.below b1).more b1.size).below b2).more b2.size⟩ <;> (rw [World.cell?_alloc_at _ _ _ _ s1.symm]; rfl)
end Go.Proofs.YtmelgolnmnebpaaGreatDoor
