/- The contract of trefoilref04.Same in the seat YtlimcimioeepaaaGreatDoor.
   The contract of trefoilref05.Same in the seat YtlimcimioeepaaaGreatDoor.
   The contract of trefoilref05.Same in the seat YtlimcimioeepaaaGreatDoor (printed by desc/mk_same.py).
   No statement is proved here. -/
import Derived.Test.YtlimcimioeepaaaGreatDoorZG1
import Derived.Laws.StructEq
import Derived.Test.YtlimcimioeepaaaGreatDoorZDescCheck
set_option linter.unusedVariables false
namespace Go.Proofs.YtlimcimioeepaaaGreatDoor
open Go.RowKit

theorem below_alloc2 {w : World} (o o2 : Obj) : Below w.heap.size w ((w.alloc o).alloc o2) := (below_alloc o).alloc (by simp) o2
theorem edge_fields : (Tryz.prog.fieldsOf 56).toList.map (fun f => (f.name, f.type, f.offset)) = [("From", 3, 0), ("To", 3, 1)] := by kernel_rfl
theorem part_int (x y : Int) (W : World) : (part 3 #[.int .i64 x, .int .i64 y] 0).run Tryz.prog W = .ok (.int .i64 x) W ∧ (part 3 #[.int .i64 x, .int .i64 y] 1).run Tryz.prog W = .ok (.int .i64 y) W := ⟨by kernel_rfl, by kernel_rfl⟩
theorem edge_eq (x y u v : Int) (W : World) : (Op.equalIn 10000 56 (.agg #[.int .i64 x, .int .i64 y]) (.agg #[.int .i64 u, .int .i64 v])).run Tryz.prog W = .ok (x == u && y == v) W := by
  have hf := edge_fields
  rw [run_equalIn_agg (d := 9999) W 56 _ _ (by kernel_rfl) (by kernel_rfl)]
  generalize (Tryz.prog.fieldsOf 56).toList = fs at hf
  match fs, hf with
  | [], hf => simp at hf
  | [_], hf => simp at hf
  | _ :: _ :: _ :: _, hf => simp at hf
  | [f, g], hf =>
    simp only [List.map_cons, List.map_nil, List.cons.injEq, Prod.mk.injEq, and_true] at hf
    obtain ⟨⟨n1, t1, o1⟩, n2, t2, o2⟩ := hf
    have e1 := fun a b W => run_equalIn_int (P := Tryz.prog) W 9998 3 .i64 .i64 a b Tryz.underlying3
    have p1 := fun a b W => (part_int a b W).1
    have p2 := fun a b W => (part_int a b W).2
    simp only [Op.eqFields, n1, n2, t1, t2, o1, o2]
    by_cases h1 : x = u
    · subst h1
      by_cases h2 : y = v
      · simp [p1, p2, e1, h2]
      · simp [p1, p2, e1, h2]
    · simp [p1, p2, e1, h1]
theorem edge_neq_run (x y u v : Int) (W : World) : (binOp .neq 56 (.agg #[.int .i64 x, .int .i64 y]) (.agg #[.int .i64 u, .int .i64 v])).run Tryz.prog W = .ok (.bool (!(x == u && y == v))) W := by
  rw [run_neq_struct, edge_eq]
  rfl
theorem edge_eql_run (x y u v : Int) (W : World) : (binOp .eql 56 (.agg #[.int .i64 x, .int .i64 y]) (.agg #[.int .i64 u, .int .i64 v])).run Tryz.prog W = .ok (.bool (x == u && y == v)) W := by
  rw [run_eql_struct, edge_eq]
  rfl
set_option maxRecDepth 100000 in
set_option maxHeartbeats 2000000 in
theorem same_any (A F A' F' : Option Addr) (n c m d n' c' m' d' : Nat) (W W' : List Int) (E E' : List (Int × Int)) (w : World) (hn : W.length = n) (hm : E.length = m) (hn' : W'.length = n') (hm' : E'.length = m')
    (l1 : n ≤ 1000) (l2 : m ≤ 1000) (l3 : n' ≤ 1000) (l4 : m' ≤ 1000) (hI : Ints w w.heap.size A W) (hP : Pairs w w.heap.size F E) (hI' : Ints w w.heap.size A' W') (hP' : Pairs w w.heap.size F' E') :
    Calls Tryz.prog 40 #[.agg #[.slice A n c, .slice F m d], .agg #[.slice A' n' c', .slice F' m' d']] w fun e w' => e = .returned (.bool (decide (W = W' ∧ E = E'))) ∧ Below w.heap.size w w' := by
  have HI := Lib.hid hI
  have HN := Lib.hid hn
  have HP := Lib.hid hP
  have HM := Lib.hid hm
  have HI' := Lib.hid hI'
  have HN' := Lib.hid hn'
  have HP' := Lib.hid hP'
  have HM' := Lib.hid hm'
  obtain ⟨r, hr⟩ : ∃ r, r = decide (W = W' ∧ E = E') := ⟨_, rfl⟩
  rw [← hr]
  have HR := Lib.hid hr
  clear hI hn hP hm hI' hn' hP' hm' hr
  by_cases h1 : n = n'
  · subst h1
    by_cases h2 : m = m'
    · subst h2
      go_enter Tryz.func40, Tryz.ntmps40
      go_wp2
      go_loopw [5] (fun i wr => ∃ j N : Nat, j ≤ n ∧ i = .int .i64 j ∧ Hid (W.take j = W'.take j) ∧ wr = ((w.alloc (.cells #[.slice A n c, .slice F m d] 85)).alloc (.cells #[.slice A' n c', .slice F' m d'] 85)).drewN N) (fun i _ => n - (intOf i).toNat)
      case atStart => exact ⟨0, 0, Nat.zero_le _, rfl, Lib.hid rfl, rfl⟩
      case round =>
        obtain ⟨j, N, hj, rfl, HT, rfl⟩ := hrel
        by_cases hlt : j < n
        · obtain ⟨b1, o1, x, rfl, hb1, hx1, hc1⟩ := HI.out.at_ (k := j) (by rw [HN.out]; exact hlt)
          obtain ⟨b2, o2, y, rfl, hb2, hy1, hc2⟩ := HI'.out.at_ (k := j) (by rw [HN'.out]; exact hlt)
          have HX := Lib.hid hx1
          have HY := Lib.hid hy1
          clear hx1 hy1
          by_cases hxy : x = y
          · subst hxy
            go_wp2
            go_quiet (fail)
            go_wp2
            go_roundw
            case rel => exact ⟨j + 1, _, by omega, by go_num, Lib.hid (take_next HT.out HX.out HY.out), rfl⟩
            case measure => simp [intOf]; omega
          · have hb : (x != y) = true := by simpa using hxy
            have HXY := Lib.hid hxy
            clear hxy
            go_wp2
            go_quiet (fail)
            go_wp2
            go_ret
            exact ⟨by rw [HR.out, decide_eq_false (fun e : W = W' ∧ E = E' => take_part HX.out HY.out HXY.out e.1)]; rfl, below_drewN (below_drewN (below_alloc2 _ _) N) _⟩
        · obtain rfl : j = n := by omega
          have HWW := Lib.hid (take_ext (by rw [HN.out, HN'.out]) (by rw [HN.out]; exact HT.out) : W = W')
          go_wp2
          go_loopw [6] (fun i wr => ∃ k M : Nat, k ≤ m ∧ i = .int .i64 k ∧ Hid (E.take k = E'.take k) ∧ wr = ((w.alloc (.cells #[.slice A j c, .slice F m d] 85)).alloc (.cells #[.slice A' j c', .slice F' m d'] 85)).drewN M) (fun i _ => m - (intOf i).toNat)
          case atStart => exact ⟨0, N, Nat.zero_le _, rfl, Lib.hid rfl, rfl⟩
          case round =>
            obtain ⟨k, M, hk, rfl, HU, rfl⟩ := hrel
            by_cases hlt2 : k < m
            · obtain ⟨b1, o1, ⟨x1, x2⟩, rfl, hb1, hx1, hc1, hc2⟩ := HP.out.at_ (k := k) (by rw [HM.out]; exact hlt2)
              obtain ⟨b2, o2, ⟨y1, y2⟩, rfl, hb2, hy1, hd1, hd2⟩ := HP'.out.at_ (k := k) (by rw [HM'.out]; exact hlt2)
              simp only at hc1 hc2 hd1 hd2
              have HX := Lib.hid hx1
              have HY := Lib.hid hy1
              clear hx1 hy1
              have hrun := fun W => edge_neq_run x1 x2 y1 y2 W
              by_cases hxy : (x1, x2) = (y1, y2)
              · injection hxy with h1 h2
                subst h1 h2
                have hb : (x1 == x1 && x2 == x2) = true := by simp
                simp only [hb] at hrun
                go_wp2
                go_quiet (fail)
                go_wp2
                go_roundw
                case rel => exact ⟨k + 1, _, by omega, by go_num, Lib.hid (take_next HU.out HX.out HY.out), rfl⟩
                case measure => simp [intOf]; omega
              · have hb : (x1 == y1 && x2 == y2) = false := by
                  rw [Bool.and_eq_false_iff]
                  by_cases h1 : x1 = y1
                  · exact .inr (by simpa using fun h2 => hxy (by rw [h1, h2]))
                  · exact .inl (by simpa using h1)
                simp only [hb] at hrun
                have HXY := Lib.hid hxy
                clear hxy
                go_wp2
                go_quiet (fail)
                go_wp2
                go_ret
                exact ⟨by rw [HR.out, decide_eq_false (fun e : W = W' ∧ E = E' => take_part HX.out HY.out HXY.out e.2)]; rfl, below_drewN (below_drewN (below_alloc2 _ _) M) _⟩
            · obtain rfl : k = m := by omega
              have HEE := Lib.hid (take_ext (by rw [HM.out, HM'.out]) (by rw [HM.out]; exact HU.out) : E = E')
              go_wp2
              go_ret
              exact ⟨by rw [HR.out, decide_eq_true (⟨HWW.out, HEE.out⟩ : W = W' ∧ E = E')]; rfl, below_drewN (below_alloc2 _ _) M⟩
    · have hb : ((m : Int) != (m' : Int)) = true := by simp; omega
      have HNO := Lib.hid (fun e : W = W' ∧ E = E' => h2 (by rw [← HM.out, ← HM'.out, e.2]))
      clear h2
      go_enter Tryz.func40, Tryz.ntmps40
      go_wp2
      go_ret
      exact ⟨by rw [HR.out, decide_eq_false HNO.out]; rfl, below_alloc2 _ _⟩
  · have hb : ((n : Int) != (n' : Int)) = true := by simp; omega
    have HNO := Lib.hid (fun e : W = W' ∧ E = E' => h1 (by rw [← HN.out, ← HN'.out, e.1]))
    clear h1
    go_enter Tryz.func40, Tryz.ntmps40
    go_wp2
    go_ret
    exact ⟨by rw [HR.out, decide_eq_false HNO.out]; rfl, below_alloc2 _ _⟩
end Go.Proofs.YtlimcimioeepaaaGreatDoor
set_option linter.unusedVariables false
namespace Go.Proofs.YtlimcimioeepaaaGreatDoor
open Go.RowKit

theorem part_fields : (Tryz.prog.fieldsOf 52).toList.map (fun f => (f.name, f.type, f.offset)) = [("Op", 50, 0), ("Arg", 3, 1), ("Work", 3, 2)] := by kernel_rfl
theorem future_fields : (Tryz.prog.fieldsOf 58).toList.map (fun f => (f.name, f.type, f.offset)) = [("Maker", 3, 0), ("User", 3, 1), ("At", 3, 2)] := by kernel_rfl
theorem part3 (t : TypeId) (ht : t = 3 ∨ t = 50) (x y z : Int) (W : World) : (part t #[.int .i64 x, .int .i64 y, .int .i64 z] 0).run Tryz.prog W = .ok (.int .i64 x) W ∧ (part t #[.int .i64 x, .int .i64 y, .int .i64 z] 1).run Tryz.prog W = .ok (.int .i64 y) W ∧ (part t #[.int .i64 x, .int .i64 y, .int .i64 z] 2).run Tryz.prog W = .ok (.int .i64 z) W := by
  rcases ht with rfl | rfl
  · exact ⟨by kernel_rfl, by kernel_rfl, by kernel_rfl⟩
  · exact ⟨by kernel_rfl, by kernel_rfl, by kernel_rfl⟩
theorem part_eq (x y z u v t : Int) (W : World) : (Op.equalIn 10000 52 (.agg #[.int .i64 x, .int .i64 y, .int .i64 z]) (.agg #[.int .i64 u, .int .i64 v, .int .i64 t])).run Tryz.prog W = .ok (x == u && (y == v && z == t)) W := by
  have hf := part_fields
  rw [run_equalIn_agg (d := 9999) W 52 _ _ (by kernel_rfl) (by kernel_rfl)]
  generalize (Tryz.prog.fieldsOf 52).toList = fs at hf
  match fs, hf with
  | [], hf => simp at hf
  | [_], hf => simp at hf
  | [_, _], hf => simp at hf
  | _ :: _ :: _ :: _ :: _, hf => simp at hf
  | [f, g, h], hf =>
    simp only [List.map_cons, List.map_nil, List.cons.injEq, Prod.mk.injEq, and_true] at hf
    obtain ⟨⟨n1, t1, o1⟩, ⟨n2, t2, o2⟩, n3, t3, o3⟩ := hf
    have e1 := fun a b W => run_equalIn_int (P := Tryz.prog) W 9998 3 .i64 .i64 a b Tryz.underlying3
    have e2 := fun a b W => run_equalIn_int (P := Tryz.prog) W 9998 50 .i64 .i64 a b Tryz.underlying50
    have p1 := fun a b c W => (part3 50 (.inr rfl) a b c W).1
    have p2 := fun a b c W => (part3 3 (.inl rfl) a b c W).2.1
    have p3 := fun a b c W => (part3 3 (.inl rfl) a b c W).2.2
    simp only [Op.eqFields, n1, n2, n3, t1, t2, t3, o1, o2, o3]
    by_cases h1 : x = u
    · subst h1
      by_cases h2 : y = v
      · subst h2
        by_cases h3 : z = t
        · simp [p1, p2, p3, e1, e2, h3]
        · simp [p1, p2, p3, e1, e2, h3]
      · simp [p1, p2, p3, e1, e2, h2]
    · simp [p1, p2, p3, e1, e2, h1]
theorem future_eq (x y z u v t : Int) (W : World) : (Op.equalIn 10000 58 (.agg #[.int .i64 x, .int .i64 y, .int .i64 z]) (.agg #[.int .i64 u, .int .i64 v, .int .i64 t])).run Tryz.prog W = .ok (x == u && (y == v && z == t)) W := by
  have hf := future_fields
  rw [run_equalIn_agg (d := 9999) W 58 _ _ (by kernel_rfl) (by kernel_rfl)]
  generalize (Tryz.prog.fieldsOf 58).toList = fs at hf
  match fs, hf with
  | [], hf => simp at hf
  | [_], hf => simp at hf
  | [_, _], hf => simp at hf
  | _ :: _ :: _ :: _ :: _, hf => simp at hf
  | [f, g, h], hf =>
    simp only [List.map_cons, List.map_nil, List.cons.injEq, Prod.mk.injEq, and_true] at hf
    obtain ⟨⟨n1, t1, o1⟩, ⟨n2, t2, o2⟩, n3, t3, o3⟩ := hf
    have e1 := fun a b W => run_equalIn_int (P := Tryz.prog) W 9998 3 .i64 .i64 a b Tryz.underlying3
    have p1 := fun a b c W => (part3 3 (.inl rfl) a b c W).1
    have p2 := fun a b c W => (part3 3 (.inl rfl) a b c W).2.1
    have p3 := fun a b c W => (part3 3 (.inl rfl) a b c W).2.2
    simp only [Op.eqFields, n1, n2, n3, t1, t2, t3, o1, o2, o3]
    by_cases h1 : x = u
    · subst h1
      by_cases h2 : y = v
      · subst h2
        by_cases h3 : z = t
        · simp [p1, p2, p3, e1, h3]
        · simp [p1, p2, p3, e1, h3]
      · simp [p1, p2, p3, e1, h2]
    · simp [p1, p2, p3, e1, h1]
theorem part_neq_run (x y z u v t : Int) (W : World) : (binOp .neq 52 (.agg #[.int .i64 x, .int .i64 y, .int .i64 z]) (.agg #[.int .i64 u, .int .i64 v, .int .i64 t])).run Tryz.prog W = .ok (.bool (!(x == u && (y == v && z == t)))) W := by
  rw [run_neq_struct, part_eq]
  rfl
theorem future_neq_run (x y z u v t : Int) (W : World) : (binOp .neq 58 (.agg #[.int .i64 x, .int .i64 y, .int .i64 z]) (.agg #[.int .i64 u, .int .i64 v, .int .i64 t])).run Tryz.prog W = .ok (.bool (!(x == u && (y == v && z == t)))) W := by
  rw [run_neq_struct, future_eq]
  rfl
theorem trip_neq {x y z u v t : Int} (h : (x, y, z) ≠ (u, v, t)) : (x == u && (y == v && z == t)) = false := by
  rw [Bool.and_eq_false_iff, Bool.and_eq_false_iff]
  by_cases h1 : x = u
  · by_cases h2 : y = v
    · refine .inr (.inr ?_)
      simp only [beq_eq_false_iff_ne]
      exact fun h3 => h (by rw [h1, h2, h3])
    · exact .inr (.inl (by simpa using h2))
  · exact .inl (by simpa using h1)
end Go.Proofs.YtlimcimioeepaaaGreatDoor
set_option linter.unusedVariables false
namespace Go.Proofs.YtlimcimioeepaaaGreatDoor
open Go.RowKit

/-- Two tasks lie in boxes of the call's own (it began in w), and as they came. -/
structure BxS (w : World) (p q : Int) (s : Sh) (T : Task) (p' q' : Int) (s' : Sh) (T' : Task) (w' : World) : Prop where
  b : BxD w p q s.P s.np s.pc s.E s.ne s.ec s.F s.nf s.fc s.R s.nr s.rc w'
  d0 : w'.cell? ⟨w.heap.size + 1, 0, none⟩ = some (.int .i64 p')
  d1 : w'.cell? ⟨w.heap.size + 1, 1, none⟩ = some (.int .i64 q')
  d2 : w'.cell? ⟨w.heap.size + 1, 2, none⟩ = some (.slice s'.P s'.np s'.pc)
  d3 : w'.cell? ⟨w.heap.size + 1, 3, none⟩ = some (.slice s'.E s'.ne s'.ec)
  d4 : w'.cell? ⟨w.heap.size + 1, 4, none⟩ = some (.slice s'.F s'.nf s'.fc)
  d5 : w'.cell? ⟨w.heap.size + 1, 5, none⟩ = some (.slice s'.R s'.nr s'.rc)
  t : IsT w' w'.heap.size s T
  t' : IsT w' w'.heap.size s' T'
theorem BxS.next {w w1 w2 : World} {p q : Int} {s : Sh} {T : Task} {p' q' : Int} {s' : Sh} {T' : Task} (h : BxS w p q s T p' q' s' T' w1) (hb : Below w1.heap.size w1 w2) : BxS w p q s T p' q' s' T' w2 := by
  have hlt : w.heap.size + 1 < w1.heap.size := World.block_lt_of_cell? _ _ h.d0
  exact ⟨h.b.next hb, (hb.cell hlt).trans h.d0, (hb.cell hlt).trans h.d1, (hb.cell hlt).trans h.d2, (hb.cell hlt).trans h.d3, (hb.cell hlt).trans h.d4, (hb.cell hlt).trans h.d5, (h.t.below hb).more hb.size, (h.t'.below hb).more hb.size⟩
theorem BxS.start {w : World} {s s' : Sh} {T T' : Task} (p q p' q' : Int) (h : IsT w w.heap.size s T) (h' : IsT w w.heap.size s' T') :
    BxS w p q s T p' q' s' T' ((w.alloc (.cells #[.int .i64 p, .int .i64 q, .slice s.P s.np s.pc, .slice s.E s.ne s.ec, .slice s.F s.nf s.fc, .slice s.R s.nr s.rc] 27)).alloc (.cells #[.int .i64 p', .int .i64 q', .slice s'.P s'.np s'.pc, .slice s'.E s'.ne s'.ec, .slice s'.F s'.nf s'.fc, .slice s'.R s'.nr s'.rc] 27)) := by
  obtain ⟨w1, h1⟩ : ∃ w1, w1 = w.alloc (.cells #[.int .i64 p, .int .i64 q, .slice s.P s.np s.pc, .slice s.E s.ne s.ec, .slice s.F s.nf s.fc, .slice s.R s.nr s.rc] 27) := ⟨_, rfl⟩
  rw [← h1]
  have s1 : w1.heap.size = w.heap.size + 1 := by rw [h1]; simp
  have b1 : Below w.heap.size w w1 := by rw [h1]; exact below_alloc _
  have hD : BxD w p q s.P s.np s.pc s.E s.ne s.ec s.F s.nf s.fc s.R s.nr s.rc w1 := by rw [h1]; exact BxD.start w p q _ _ _ _ _ _ _ _ _ _ _ _
  have b2 := below_alloc (w := w1) (.cells #[.int .i64 p', .int .i64 q', .slice s'.P s'.np s'.pc, .slice s'.E s'.ne s'.ec, .slice s'.F s'.nf s'.fc, .slice s'.R s'.nr s'.rc] 27)
  refine ⟨hD.next b2, ?_, ?_, ?_, ?_, ?_, ?_, (((h.below b1).more b1.size).below b2).more b2.size, (((h'.below b1).more b1.size).below b2).more b2.size⟩ <;> (rw [World.cell?_alloc_at _ _ _ _ s1.symm]; rfl)
set_option maxRecDepth 100000 in
set_option maxHeartbeats 8000000 in
theorem dsame_any (s s' : Sh) (T T' : Task) (w : World) (hF : FewT T) (hF' : FewT T') (hT : IsT w w.heap.size s T) (hT' : IsT w w.heap.size s' T') :
    Calls Tryz.prog 19 #[s.arg T.period T.deadline, s'.arg T'.period T'.deadline] w fun e w' => e = .returned (.bool (decide (T = T'))) ∧ Below w.heap.size w w' := by
  have B0 := Lib.hid (BxS.start T.period T.deadline T'.period T'.deadline hT hT')
  obtain ⟨P, np, pc, E, ne, ec, F, nf, fc, R, nr, rc⟩ := s
  obtain ⟨P', np', pc', E', ne', ec', F', nf', fc', R', nr', rc'⟩ := s'
  obtain ⟨p, q, ps, es, fs, bs⟩ := T
  obtain ⟨p', q', ps', es', fs', bs'⟩ := T'
  have hp := hT.hp
  have he := hT.he
  have hf := hT.hf
  have hr := hT.hr
  have hp' := hT'.hp
  have he' := hT'.he
  have hf' := hT'.hf
  have hr' := hT'.hr
  have ln := hF.np
  have le := hF.ne
  have lf := hF.nf
  have lr := hF.nr
  have le' := hF'.ne
  simp only at hp he hf hr hp' he' hf' hr' ln le lf lr le'
  rw [hp] at ln
  rw [he] at le
  rw [hf] at lf
  rw [hr] at lr
  rw [he'] at le'
  have HP := Lib.hid hp
  have HE := Lib.hid he
  have HFL := Lib.hid hf
  have HRL := Lib.hid hr
  have HP' := Lib.hid hp'
  have HE' := Lib.hid he'
  have HFL' := Lib.hid hf'
  have HRL' := Lib.hid hr'
  have HBL := Lib.hid hF.bars
  have HBL' := Lib.hid hF'.bars
  simp only [Sh.arg]
  simp only at B0
  have HEQ : Hid ((⟨p, q, ps, es, fs, bs⟩ : Task) = ⟨p', q', ps', es', fs', bs'⟩ ↔ p = p' ∧ q = q' ∧ ps = ps' ∧ es = es' ∧ fs = fs' ∧ bs = bs') := Lib.hid (by rw [Task.mk.injEq])
  obtain ⟨r, hres⟩ : ∃ r, r = decide ((⟨p, q, ps, es, fs, bs⟩ : Task) = ⟨p', q', ps', es', fs', bs'⟩) := ⟨_, rfl⟩
  rw [← hres]
  have HNO := Lib.hid (fun h : ¬ (p = p' ∧ q = q' ∧ ps = ps' ∧ es = es' ∧ fs = fs' ∧ bs = bs') => show r = false by rw [hres]; exact decide_eq_false (fun k => h (HEQ.out.mp k)))
  have HYES := Lib.hid (fun h : p = p' ∧ q = q' ∧ ps = ps' ∧ es = es' ∧ fs = fs' ∧ bs = bs' => show r = true by rw [hres]; exact decide_eq_true (HEQ.out.mpr h))
  have CE := Lib.hid (fun (W' : World) (h1 : Pairs W' W'.heap.size E es) (h2 : Pairs W' W'.heap.size E' es') => same_any none E none E' 0 0 ne ec 0 0 ne' ec' [] [] es es' W' rfl he rfl he' (by omega) (by omega) (by omega) (by omega) (Ints.nil_ _ _ _) h1 (Ints.nil_ _ _ _) h2)
  obtain ⟨re, hre⟩ : ∃ b : Bool, b = decide (([] : List Int) = [] ∧ es = es') := ⟨_, rfl⟩
  rw [← hre] at CE
  have HRT := Lib.hid (fun h : es = es' => show re = true by rw [hre]; exact decide_eq_true ⟨rfl, h⟩)
  have HRF := Lib.hid (fun h : ¬ es = es' => show re = false by rw [hre]; exact decide_eq_false (fun k => h k.2))
  clear hT hT' hF hF' hres hp he hf hr hp' he' hf' hr' HEQ hre
  by_cases h0 : p = p'
  · subst h0
    by_cases h1 : q = q'
    · subst h1
      by_cases h2 : np = np'
      · subst h2
        by_cases h3 : nf = nf'
        · subst h3
          by_cases h4 : nr = nr'
          · subst h4
            by_cases h5 : es = es'
            · have HES := Lib.hid h5
              obtain rfl := HRT.out h5
              clear h5
              go_enter Tryz.func19, Tryz.ntmps19
              go_wp2_with fail
              refine (CE.out _ B0.out.t.edges B0.out.t'.edges).mono ?_
              rintro e w1 ⟨rfl, b⟩
              have B1 := Lib.hid (B0.out.next b)
              clear b
              have hbel := B1.out.b.bel
              have hc2 : w1.cell? ⟨w.heap.size, 2, none⟩ = some (.slice P np pc) := B1.out.b.c2
              have hc4 : w1.cell? ⟨w.heap.size, 4, none⟩ = some (.slice F nf fc) := B1.out.b.c4
              have hc5 : w1.cell? ⟨w.heap.size, 5, none⟩ = some (.slice R nr rc) := B1.out.b.c5
              have hd2 : w1.cell? ⟨w.heap.size + 1, 2, none⟩ = some (.slice P' np pc') := B1.out.d2
              have hd4 : w1.cell? ⟨w.heap.size + 1, 4, none⟩ = some (.slice F' nf fc') := B1.out.d4
              have hd5 : w1.cell? ⟨w.heap.size + 1, 5, none⟩ = some (.slice R' nr rc') := B1.out.d5
              have HB := Lib.hid hbel
              clear hbel
              go_wp2
              go_loopw [5] (fun i wr => ∃ j N : Nat, j ≤ np ∧ i = .int .i64 j ∧ Hid (ps.take j = ps'.take j) ∧ wr = w1.drewN N) (fun i _ => np - (intOf i).toNat)
              case atStart => exact ⟨0, 0, Nat.zero_le _, rfl, Lib.hid rfl, rfl⟩
              case round =>
                obtain ⟨j, N, hj, rfl, HTK, rfl⟩ := hrel
                by_cases hlt : j < np
                · obtain ⟨b1, o1, x1, x2, x3, hP1, _, hx1, a1, a2, a3⟩ := B1.out.t.parts.at_ (k := j) (by rw [HP.out]; exact hlt)
                  obtain ⟨b2, o2, y1, y2, y3, hP2, _, hy1, z1, z2, z3⟩ := B1.out.t'.parts.at_ (k := j) (by rw [HP'.out]; exact hlt)
                  simp only at hP1 hP2
                  subst hP1 hP2
                  have HX := Lib.hid hx1
                  have HY := Lib.hid hy1
                  clear hx1 hy1
                  have hrun := fun W => part_neq_run x1 x2 x3 y1 y2 y3 W
                  by_cases hxy : (x1, x2, x3) = (y1, y2, y3)
                  · injection hxy with h1 hxy
                    injection hxy with h2 h3
                    subst h1 h2 h3
                    have hb : (x1 == x1 && (x2 == x2 && x3 == x3)) = true := by simp
                    simp only [hb] at hrun
                    go_wp2
                    go_quiet (fail)
                    go_wp2
                    go_roundw
                    case rel => exact ⟨j + 1, _, by omega, by go_num, Lib.hid (take_next HTK.out HX.out HY.out), rfl⟩
                    case measure => simp [intOf]; omega
                  · have hb := trip_neq hxy
                    simp only [hb] at hrun
                    have HXY := Lib.hid hxy
                    clear hxy
                    have HN := Lib.hid (HNO.out (fun k => take_part HX.out HY.out HXY.out k.2.2.1))
                    go_wp2
                    go_quiet (fail)
                    go_wp2
                    go_ret
                    exact ⟨by rw [HN.out]; rfl, below_drewN (below_drewN HB.out N) _⟩
                · have e : j = np := by omega
                  subst e
                  have HPP := Lib.hid (take_ext (by rw [HP.out, HP'.out]) (by rw [HP.out]; exact HTK.out) : ps = ps')
                  clear HTK
                  go_wp2
                  go_loopw [6] (fun i wr => ∃ j2 N : Nat, j2 ≤ nf ∧ i = .int .i64 j2 ∧ Hid (fs.take j2 = fs'.take j2) ∧ wr = w1.drewN N) (fun i _ => nf - (intOf i).toNat)
                  case atStart => exact ⟨0, N, Nat.zero_le _, rfl, Lib.hid rfl, rfl⟩
                  case round =>
                    obtain ⟨j2, N, hj2, rfl, HTK, rfl⟩ := hrel
                    by_cases hlt2 : j2 < nf
                    · obtain ⟨b1, o1, x1, x2, x3, hP1, _, hx1, a1, a2, a3⟩ := B1.out.t.futures.at_ (k := j2) (by rw [HFL.out]; exact hlt2)
                      obtain ⟨b2, o2, y1, y2, y3, hP2, _, hy1, z1, z2, z3⟩ := B1.out.t'.futures.at_ (k := j2) (by rw [HFL'.out]; exact hlt2)
                      simp only at hP1 hP2
                      subst hP1 hP2
                      have HX := Lib.hid hx1
                      have HY := Lib.hid hy1
                      clear hx1 hy1
                      have hrun := fun W => future_neq_run x1 x2 x3 y1 y2 y3 W
                      by_cases hxy : (x1, x2, x3) = (y1, y2, y3)
                      · injection hxy with h1 hxy
                        injection hxy with h2 h3
                        subst h1 h2 h3
                        have hb : (x1 == x1 && (x2 == x2 && x3 == x3)) = true := by simp
                        simp only [hb] at hrun
                        go_wp2
                        go_quiet (fail)
                        go_wp2
                        go_roundw
                        case rel => exact ⟨j2 + 1, _, by omega, by go_num, Lib.hid (take_next HTK.out HX.out HY.out), rfl⟩
                        case measure => simp [intOf]; omega
                      · have hb := trip_neq hxy
                        simp only [hb] at hrun
                        have HXY := Lib.hid hxy
                        clear hxy
                        have HN := Lib.hid (HNO.out (fun k => take_part HX.out HY.out HXY.out k.2.2.2.2.1))
                        go_wp2
                        go_quiet (fail)
                        go_wp2
                        go_ret
                        exact ⟨by rw [HN.out]; rfl, below_drewN (below_drewN HB.out N) _⟩
                    · have e : j2 = nf := by omega
                      subst e
                      have HFF := Lib.hid (take_ext (by rw [HFL.out, HFL'.out]) (by rw [HFL.out]; exact HTK.out) : fs = fs')
                      clear HTK
                      go_wp2
                      go_loopw [7] (fun i wr => ∃ j3 N : Nat, j3 ≤ nr ∧ i = .int .i64 j3 ∧ Hid (bs.take j3 = bs'.take j3) ∧ wr = w1.drewN N) (fun i _ => nr - (intOf i).toNat)
                      case atStart => exact ⟨0, N, Nat.zero_le _, rfl, Lib.hid rfl, rfl⟩
                      case round =>
                        obtain ⟨j3, N, hj3, rfl, HTK, rfl⟩ := hrel
                        by_cases hlt3 : j3 < nr
                        · obtain ⟨b1, o1, xs, ys, A1, n1, c1, A2, n2, c2, hP1, _, hx1, hl1, hl2, a1, a2, hi1, hi2, _, _⟩ := B1.out.t.bars.at_ (k := j3) (by rw [HRL.out]; exact hlt3)
                          obtain ⟨b2, o2, xs', ys', A1', n1', c1', A2', n2', c2', hP2, _, hy1, hl1', hl2', z1, z2, hi1', hi2', _, _⟩ := B1.out.t'.bars.at_ (k := j3) (by rw [HRL'.out]; exact hlt3)
                          simp only at hP1 hP2
                          subst hP1 hP2 hl1 hl2 hl1' hl2'
                          have q1 := HBL.out _ (List.mem_of_getElem? hx1)
                          have q2 := HBL'.out _ (List.mem_of_getElem? hy1)
                          simp only at q1 q2
                          have HX := Lib.hid hx1
                          have HY := Lib.hid hy1
                          have C1 := Lib.hid (fun n => (ints_any w1.heap.size A1 A1' c1 c1' xs xs' (w1.drewN (N + n)) (by omega) (by omega) (hi1.below (below_drewN (Below.refl _ _) (N + n))) (hi1'.below (below_drewN (Below.refl _ _) (N + n)))).mono fun e w' h => show e = .returned (.bool (decide (xs = xs'))) ∧ ∃ m, w' = w1.drewN (N + m) from ⟨h.1, by obtain ⟨M, hM⟩ := h.2; exact ⟨n + M, by rw [hM, drews, Nat.add_assoc]⟩⟩)
                          have C2 := Lib.hid (fun n => (ints_any w1.heap.size A2 A2' c2 c2' ys ys' (w1.drewN (N + n)) (by omega) (by omega) (hi2.below (below_drewN (Below.refl _ _) (N + n))) (hi2'.below (below_drewN (Below.refl _ _) (N + n)))).mono fun e w' h => show e = .returned (.bool (decide (ys = ys'))) ∧ ∃ m, w' = w1.drewN (N + m) from ⟨h.1, by obtain ⟨M, hM⟩ := h.2; exact ⟨n + M, by rw [hM, drews, Nat.add_assoc]⟩⟩)
                          obtain ⟨r1, hr1⟩ : ∃ b : Bool, b = decide (xs = xs') := ⟨_, rfl⟩
                          obtain ⟨r2, hr2⟩ : ∃ b : Bool, b = decide (ys = ys') := ⟨_, rfl⟩
                          simp only [← hr1] at C1
                          simp only [← hr2] at C2
                          have HR1 := Lib.hid hr1
                          have HR2 := Lib.hid hr2
                          obtain ⟨m1, hm1⟩ : ∃ m, m = xs.length := ⟨_, rfl⟩
                          obtain ⟨m2, hm2⟩ : ∃ m, m = ys.length := ⟨_, rfl⟩
                          obtain ⟨m3, hm3⟩ : ∃ m, m = xs'.length := ⟨_, rfl⟩
                          obtain ⟨m4, hm4⟩ : ∃ m, m = ys'.length := ⟨_, rfl⟩
                          simp only [← hm1, ← hm3] at C1
                          simp only [← hm2, ← hm4] at C2
                          rw [← hm1] at a1
                          rw [← hm2] at a2
                          rw [← hm3] at z1
                          rw [← hm4] at z2
                          clear hx1 hy1 hi1 hi2 hi1' hi2' hr1 hr2 hm1 hm2 hm3 hm4 q1 q2
                          cases hc1 : r1 with
                          | false =>
                            rw [hc1] at C1
                            have HN := Lib.hid (HNO.out (fun k => take_part HX.out HY.out (by
                              intro h
                              injection h with h _
                              have := HR1.out
                              rw [hc1, decide_eq_true h] at this
                              cases this) k.2.2.2.2.2))
                            clear hc1 HR1 HR2 C2
                            go_wp2_with fail
                            go_quiet (first
                              | (go_at_call_of 41 (Value.slice A1 m1 c1); exact C1.out _))
                            go_wp2
                            go_ret
                            exact ⟨by rw [HN.out]; rfl, below_drewN (below_drewN HB.out N) _⟩
                          | true =>
                            rw [hc1] at C1
                            cases hc2' : r2 with
                            | false =>
                              rw [hc2'] at C2
                              have HN := Lib.hid (HNO.out (fun k => take_part HX.out HY.out (by
                                intro h
                                injection h with _ h
                                have := HR2.out
                                rw [hc2', decide_eq_true h] at this
                                cases this) k.2.2.2.2.2))
                              clear hc1 hc2' HR1 HR2
                              go_wp2_with fail
                              go_quiet (first
                                | (go_at_call_of 41 (Value.slice A1 m1 c1); exact C1.out _)
                                | (go_at_call_of 41 (Value.slice A2 m2 c2); exact C2.out _))
                              go_wp2
                              go_ret
                              exact ⟨by rw [HN.out]; rfl, below_drewN (below_drewN HB.out N) _⟩
                            | true =>
                              rw [hc2'] at C2
                              have HXY := Lib.hid (show (xs, ys) = (xs', ys') by
                                have k1 := HR1.out
                                have k2 := HR2.out
                                rw [hc1] at k1
                                rw [hc2'] at k2
                                rw [of_decide_eq_true k1.symm, of_decide_eq_true k2.symm])
                              clear hc1 hc2' HR1 HR2
                              go_wp2_with fail
                              go_quiet (first
                                | (go_at_call_of 41 (Value.slice A1 m1 c1); exact C1.out _)
                                | (go_at_call_of 41 (Value.slice A2 m2 c2); exact C2.out _))
                              go_wp2
                              go_roundw
                              case rel => exact ⟨j3 + 1, _, by omega, by go_num, Lib.hid (take_next HTK.out HX.out (by rw [HXY.out]; exact HY.out)), rfl⟩
                              case measure => simp [intOf]; omega
                        · have e : j3 = nr := by omega
                          subst e
                          have HBB := Lib.hid (take_ext (by rw [HRL.out, HRL'.out]) (by rw [HRL.out]; exact HTK.out) : bs = bs')
                          have HY := Lib.hid (HYES.out ⟨by first | trivial | rfl, by first | trivial | rfl, HPP.out, HES.out, HFF.out, HBB.out⟩)
                          go_wp2
                          go_ret
                          exact ⟨by rw [HY.out]; rfl, below_drewN HB.out N⟩
            · have HN := Lib.hid (HNO.out (fun k => h5 k.2.2.2.1))
              obtain rfl := HRF.out h5
              clear h5
              go_enter Tryz.func19, Tryz.ntmps19
              go_wp2_with fail
              refine (CE.out _ B0.out.t.edges B0.out.t'.edges).mono ?_
              rintro e w1 ⟨rfl, b⟩
              have B1 := Lib.hid (B0.out.next b)
              clear b
              go_wp2
              go_ret
              exact ⟨by rw [HN.out]; rfl, B1.out.b.bel⟩
          · have hb : ((nr : Int) != (nr' : Int)) = true := by simp; omega
            have HN := Lib.hid (HNO.out (fun k => h4 (by rw [← HRL.out, ← HRL'.out, k.2.2.2.2.2])))
            clear h4
            go_enter Tryz.func19, Tryz.ntmps19
            go_wp2
            go_ret
            exact ⟨by rw [HN.out]; rfl, B0.out.b.bel⟩
        · have hb : ((nf : Int) != (nf' : Int)) = true := by simp; omega
          have HN := Lib.hid (HNO.out (fun k => h3 (by rw [← HFL.out, ← HFL'.out, k.2.2.2.2.1])))
          clear h3
          go_enter Tryz.func19, Tryz.ntmps19
          go_wp2
          go_ret
          exact ⟨by rw [HN.out]; rfl, B0.out.b.bel⟩
      · have hb : ((np : Int) != (np' : Int)) = true := by simp; omega
        have HN := Lib.hid (HNO.out (fun k => h2 (by rw [← HP.out, ← HP'.out, k.2.2.1])))
        clear h2
        go_enter Tryz.func19, Tryz.ntmps19
        go_wp2
        go_ret
        exact ⟨by rw [HN.out]; rfl, B0.out.b.bel⟩
    · have hb : (q != q') = true := by simpa using h1
      have HN := Lib.hid (HNO.out (fun k => h1 k.2.1))
      clear h1
      go_enter Tryz.func19, Tryz.ntmps19
      go_wp2
      go_ret
      exact ⟨by rw [HN.out]; rfl, B0.out.b.bel⟩
  · have hb : (p != p') = true := by simpa using h0
    have HN := Lib.hid (HNO.out (fun k => h0 k.1))
    clear h0
    go_enter Tryz.func19, Tryz.ntmps19
    go_wp2
    go_ret
    exact ⟨by rw [HN.out]; rfl, B0.out.b.bel⟩
end Go.Proofs.YtlimcimioeepaaaGreatDoor
