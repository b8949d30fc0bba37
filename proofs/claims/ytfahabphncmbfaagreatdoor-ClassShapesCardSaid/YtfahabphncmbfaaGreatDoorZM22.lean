/- The contract of trefoilref05.Same in the seat YtfahabphncmbfaaGreatDoor.
   The contract of trefoilref05.Same in the seat YtfahabphncmbfaaGreatDoor (printed by desc/mk_same.py).
   What the walks over tasks share, in the seat YtfahabphncmbfaaGreatDoor (parted out of DescWalk0 in round 6).
   What the walks of layer 7 share in the seat YtfahabphncmbfaaGreatDoor.
   dag.Total in the seat YtfahabphncmbfaaGreatDoor: its contract.
   The contract of class.Shape, in the seat YtfahabphncmbfaaGreatDoor (printed by class/mk_shape.py).
   The work of a lowered task's nodes, in plain words, in the seat YtfahabphncmbfaaGreatDoor.
   No statement is proved here. -/
import Derived.Test.YtfahabphncmbfaaGreatDoorZM7
import Derived.Test.YtfahabphncmbfaaGreatDoorZM11
import Derived.Test.YtfahabphncmbfaaGreatDoorZM12
import Derived.Test.YtfahabphncmbfaaGreatDoorZM9
import Derived.Test.YtfahabphncmbfaaGreatDoorZM21
import Derived.Test.YtfahabphncmbfaaGreatDoorZM20
import Derived.Test.YtfahabphncmbfaaGreatDoorZM3
import Derived.Test.YtfahabphncmbfaaGreatDoorZM5
set_option linter.unusedSimpArgs false
set_option linter.unusedVariables false
namespace Go.Proofs.YtfahabphncmbfaaGreatDoor
open Go.RowKit

theorem part_fields : (Tryz.prog.fieldsOf 118).toList.map (fun f => (f.name, f.type, f.offset)) = [("Op", 116, 0), ("Arg", 3, 1), ("Work", 3, 2)] := by kernel_rfl
theorem future_fields : (Tryz.prog.fieldsOf 220).toList.map (fun f => (f.name, f.type, f.offset)) = [("Maker", 3, 0), ("User", 3, 1), ("At", 3, 2)] := by kernel_rfl
theorem part3 (t : TypeId) (ht : t = 3 ∨ t = 116) (x y z : Int) (W : World) : (part t #[.int .i64 x, .int .i64 y, .int .i64 z] 0).run Tryz.prog W = .ok (.int .i64 x) W ∧ (part t #[.int .i64 x, .int .i64 y, .int .i64 z] 1).run Tryz.prog W = .ok (.int .i64 y) W ∧ (part t #[.int .i64 x, .int .i64 y, .int .i64 z] 2).run Tryz.prog W = .ok (.int .i64 z) W := by
  rcases ht with rfl | rfl
  · exact ⟨by kernel_rfl, by kernel_rfl, by kernel_rfl⟩
  · exact ⟨by kernel_rfl, by kernel_rfl, by kernel_rfl⟩
theorem part_eq (x y z u v t : Int) (W : World) : (Op.equalIn 10000 118 (.agg #[.int .i64 x, .int .i64 y, .int .i64 z]) (.agg #[.int .i64 u, .int .i64 v, .int .i64 t])).run Tryz.prog W = .ok (x == u && (y == v && z == t)) W := by
  have hf := part_fields
  rw [run_equalIn_agg (d := 9999) W 118 _ _ (by kernel_rfl) (by kernel_rfl)]
  generalize (Tryz.prog.fieldsOf 118).toList = fs at hf
  match fs, hf with
  | [], hf => simp at hf
  | [_], hf => simp at hf
  | [_, _], hf => simp at hf
  | _ :: _ :: _ :: _ :: _, hf => simp at hf
  | [f, g, h], hf =>
    simp only [List.map_cons, List.map_nil, List.cons.injEq, Prod.mk.injEq, and_true] at hf
    obtain ⟨⟨n1, t1, o1⟩, ⟨n2, t2, o2⟩, n3, t3, o3⟩ := hf
    have e1 := fun a b W => run_equalIn_int (P := Tryz.prog) W 9998 3 .i64 .i64 a b Tryz.underlying3
    have e2 := fun a b W => run_equalIn_int (P := Tryz.prog) W 9998 116 .i64 .i64 a b Tryz.underlying116
    have p1 := fun a b c W => (part3 116 (.inr rfl) a b c W).1
    have p2 := fun a b c W => (part3 3 (.inl rfl) a b c W).2.1
    have p3 := fun a b c W => (part3 3 (.inl rfl) a b c W).2.2
    simp only [Op.eqFields, n1, n2, n3, t1, t2, t3, o1, o2, o3]
    by_cases h1 : x = u
    · subst h1
      by_cases h2 : y = v
      · subst h2
        by_cases h3 : z = t
        · simp [p1, p2, p3, e1, e2, h3]
        · simp [p1, p2, p3, e1, e2, h3]
      · simp [p1, p2, p3, e1, e2, h2]
    · simp [p1, p2, p3, e1, e2, h1]
theorem future_eq (x y z u v t : Int) (W : World) : (Op.equalIn 10000 220 (.agg #[.int .i64 x, .int .i64 y, .int .i64 z]) (.agg #[.int .i64 u, .int .i64 v, .int .i64 t])).run Tryz.prog W = .ok (x == u && (y == v && z == t)) W := by
  have hf := future_fields
  rw [run_equalIn_agg (d := 9999) W 220 _ _ (by kernel_rfl) (by kernel_rfl)]
  generalize (Tryz.prog.fieldsOf 220).toList = fs at hf
  match fs, hf with
  | [], hf => simp at hf
  | [_], hf => simp at hf
  | [_, _], hf => simp at hf
  | _ :: _ :: _ :: _ :: _, hf => simp at hf
  | [f, g, h], hf =>
    simp only [List.map_cons, List.map_nil, List.cons.injEq, Prod.mk.injEq, and_true] at hf
    obtain ⟨⟨n1, t1, o1⟩, ⟨n2, t2, o2⟩, n3, t3, o3⟩ := hf
    have e1 := fun a b W => run_equalIn_int (P := Tryz.prog) W 9998 3 .i64 .i64 a b Tryz.underlying3
    have p1 := fun a b c W => (part3 3 (.inl rfl) a b c W).1
    have p2 := fun a b c W => (part3 3 (.inl rfl) a b c W).2.1
    have p3 := fun a b c W => (part3 3 (.inl rfl) a b c W).2.2
    simp only [Op.eqFields, n1, n2, n3, t1, t2, t3, o1, o2, o3]
    by_cases h1 : x = u
    · subst h1
      by_cases h2 : y = v
      · subst h2
        by_cases h3 : z = t
        · simp [p1, p2, p3, e1, h3]
        · simp [p1, p2, p3, e1, h3]
      · simp [p1, p2, p3, e1, h2]
    · simp [p1, p2, p3, e1, h1]
theorem part_neq_run (x y z u v t : Int) (W : World) : (binOp .neq 118 (.agg #[.int .i64 x, .int .i64 y, .int .i64 z]) (.agg #[.int .i64 u, .int .i64 v, .int .i64 t])).run Tryz.prog W = .ok (.bool (!(x == u && (y == v && z == t)))) W := by
  rw [run_neq_struct, part_eq]
  rfl
theorem future_neq_run (x y z u v t : Int) (W : World) : (binOp .neq 220 (.agg #[.int .i64 x, .int .i64 y, .int .i64 z]) (.agg #[.int .i64 u, .int .i64 v, .int .i64 t])).run Tryz.prog W = .ok (.bool (!(x == u && (y == v && z == t)))) W := by
  rw [run_neq_struct, future_eq]
  rfl
theorem trip_neq {x y z u v t : Int} (h : (x, y, z) ≠ (u, v, t)) : (x == u && (y == v && z == t)) = false := by
  rw [Bool.and_eq_false_iff, Bool.and_eq_false_iff]
  by_cases h1 : x = u
  · by_cases h2 : y = v
    · refine .inr (.inr ?_)
      simp only [beq_eq_false_iff_ne]
      exact fun h3 => h (by rw [h1, h2, h3])
    · exact .inr (.inl (by simpa using h2))
  · exact .inl (by simpa using h1)
end Go.Proofs.YtfahabphncmbfaaGreatDoor
set_option linter.unusedVariables false
namespace Go.Proofs.YtfahabphncmbfaaGreatDoor
open Go.RowKit

/-- Two tasks lie in boxes of the call's own (it began in w), and as they came. -/
structure BxS (w : World) (p q : Int) (s : Sh) (T : Task) (p' q' : Int) (s' : Sh) (T' : Task) (w' : World) : Prop where
  b : BxD w p q s.P s.np s.pc s.E s.ne s.ec s.F s.nf s.fc s.R s.nr s.rc w'
  d0 : w'.cell? ⟨w.heap.size + 1, 0, none⟩ = some (.int .i64 p')
  d1 : w'.cell? ⟨w.heap.size + 1, 1, none⟩ = some (.int .i64 q')
  d2 : w'.cell? ⟨w.heap.size + 1, 2, none⟩ = some (.slice s'.P s'.np s'.pc)
  d3 : w'.cell? ⟨w.heap.size + 1, 3, none⟩ = some (.slice s'.E s'.ne s'.ec)
  d4 : w'.cell? ⟨w.heap.size + 1, 4, none⟩ = some (.slice s'.F s'.nf s'.fc)
  d5 : w'.cell? ⟨w.heap.size + 1, 5, none⟩ = some (.slice s'.R s'.nr s'.rc)
  t : IsT w' w'.heap.size s T
  t' : IsT w' w'.heap.size s' T'
theorem BxS.next {w w1 w2 : World} {p q : Int} {s : Sh} {T : Task} {p' q' : Int} {s' : Sh} {T' : Task} (h : BxS w p q s T p' q' s' T' w1) (hb : Below w1.heap.size w1 w2) : BxS w p q s T p' q' s' T' w2 := by
  have hlt : w.heap.size + 1 < w1.heap.size := World.block_lt_of_cell? _ _ h.d0
  exact ⟨h.b.next hb, (hb.cell hlt).trans h.d0, (hb.cell hlt).trans h.d1, (hb.cell hlt).trans h.d2, (hb.cell hlt).trans h.d3, (hb.cell hlt).trans h.d4, (hb.cell hlt).trans h.d5, (h.t.below hb).more hb.size, (h.t'.below hb).more hb.size⟩
theorem BxS.start {w : World} {s s' : Sh} {T T' : Task} (p q p' q' : Int) (h : IsT w w.heap.size s T) (h' : IsT w w.heap.size s' T') :
    BxS w p q s T p' q' s' T' ((w.alloc (.cells #[.int .i64 p, .int .i64 q, .slice s.P s.np s.pc, .slice s.E s.ne s.ec, .slice s.F s.nf s.fc, .slice s.R s.nr s.rc] 64)).alloc (.cells #[.int .i64 p', .int .i64 q', .slice s'.P s'.np s'.pc, .slice s'.E s'.ne s'.ec, .slice s'.F s'.nf s'.fc, .slice s'.R s'.nr s'.rc] 64)) := by
  obtain ⟨w1, h1⟩ : ∃ w1, w1 = w.alloc (.cells #[.int .i64 p, .int .i64 q, .slice s.P s.np s.pc, .slice s.E s.ne s.ec, .slice s.F s.nf s.fc, .slice s.R s.nr s.rc] 64) := ⟨_, rfl⟩
  rw [← h1]
  have s1 : w1.heap.size = w.heap.size + 1 := by rw [h1]; simp
  have b1 : Below w.heap.size w w1 := by rw [h1]; exact below_alloc _
  have hD : BxD w p q s.P s.np s.pc s.E s.ne s.ec s.F s.nf s.fc s.R s.nr s.rc w1 := by rw [h1]; exact BxD.start w p q _ _ _ _ _ _ _ _ _ _ _ _
  have b2 := below_alloc (w := w1) (.cells #[.int .i64 p', .int .i64 q', .slice s'.P s'.np s'.pc, .slice s'.E s'.ne s'.ec, .slice s'.F s'.nf s'.fc, .slice s'.R s'.nr s'.rc] 64)
  refine ⟨hD.next b2, ?_, ?_, ?_, ?_, ?_, ?_, (((h.below b1).more b1.size).below b2).more b2.size, (((h'.below b1).more b1.size).below b2).more b2.size⟩ <;> (rw [World.cell?_alloc_at _ _ _ _ s1.symm]; rfl)
end Go.Proofs.YtfahabphncmbfaaGreatDoor
set_option linter.unusedVariables false
namespace Go.Proofs.YtfahabphncmbfaaGreatDoor
open Go.RowKit

/-- A task, as a row hands it over. -/
structure InD (w : World) (s : Sh) (T : Task) : Prop where
  t : IsT w w.heap.size s T
  lE : s.ne ≤ s.ec
  lF : s.nf ≤ s.fc
theorem InD.isD {w : World} {s : Sh} {T : Task} (h : InD w s T) (hT : DTab w) (hF : FewD T) : IsD w s T := ⟨h.t, hF.few, hT, h.lE, h.lF⟩
theorem own_d {s : Sh} {T : Task} {w : World} (h : IsD w s T) :
    Calls Tryz.prog 31 #[s.arg T.period T.deadline] w fun e w' => ∃ s' : Sh, e = .returned (s'.arg T.period T.deadline) ∧ IsD w' s' T ∧ Below w.heap.size w w' :=
  (down_any s T w h.few h.t).mono fun _ _ k => k.isD h.few h.tab
theorem few_d {s : Sh} {T : Task} {w : World} {p q : Int} (h : IsT w w.heap.size s T) (hF : FewD T) :
    Calls Tryz.prog 29 #[s.arg p q] w fun e w' => e = .returned (.bool true) ∧ Below w.heap.size w w' := dfew_any s T p q true ⟨fun _ => hF, fun _ => rfl⟩ w h
theorem few_n {s : Sh} {T : Task} {w : World} {p q : Int} (h : IsT w w.heap.size s T) (hF : ¬ FewD T) :
    Calls Tryz.prog 29 #[s.arg p q] w fun e w' => e = .returned (.bool false) ∧ Below w.heap.size w w' := dfew_any s T p q false ⟨fun k => Bool.noConfusion k, fun k => absurd k hF⟩ w h
theorem rcheck_dd {s : Sh} {T : Task} {w : World} (h : IsD w s T) :
    Calls Tryz.prog 127 #[s.arg T.period T.deadline] w fun e w' => e = .returned (.int .i64 (chkT T)) ∧ Below w.heap.size w w' := tcheck_any s T w h.few h.t
/-- The boxes' cells. -/
def CellsD (w : World) (s : Sh) (p q : Int) (g : Nat) : Prop :=
  w.cell? ⟨g, 0, none⟩ = some (.int .i64 p) ∧ w.cell? ⟨g, 1, none⟩ = some (.int .i64 q) ∧ w.cell? ⟨g, 2, none⟩ = some (.slice s.P s.np s.pc) ∧ w.cell? ⟨g, 3, none⟩ = some (.slice s.E s.ne s.ec) ∧ w.cell? ⟨g, 4, none⟩ = some (.slice s.F s.nf s.fc) ∧ w.cell? ⟨g, 5, none⟩ = some (.slice s.R s.nr s.rc)
theorem ld_desc {ρ : Operand → Value} {o : Oper} {t : Operand} {w : World} {g : Nat} {s : Sh} {p q : Int} (ho : o.op = .load 64 t) (ht : ρ t = .pointer (some ⟨g, 0, none⟩)) (hc : CellsD w s p q g) : (execOp ρ o).run Tryz.prog w = .ok (.value (s.arg p q)) w := by
  obtain ⟨c0, c1, c2, c3, c4, c5⟩ := hc
  simp [execOp, ho, ht, c0, c1, c2, c3, c4, c5, go_sem]
theorem CellsD.next {w w' : World} {s : Sh} {p q : Int} {g : Nat} (h : CellsD w s p q g) (hb : Below w.heap.size w w') : CellsD w' s p q g := by
  have hlt : g < w.heap.size := World.block_lt_of_cell? _ _ h.1
  exact ⟨(hb.cell hlt).trans h.1, (hb.cell hlt).trans h.2.1, (hb.cell hlt).trans h.2.2.1, (hb.cell hlt).trans h.2.2.2.1, (hb.cell hlt).trans h.2.2.2.2.1, (hb.cell hlt).trans h.2.2.2.2.2⟩
/-- One task lies in a box of the call's own (it began in w), and as it came. -/
structure Bx1D (w : World) (s : Sh) (T : Task) (w' : World) : Prop where
  bel : Below w.heap.size w w'
  c : CellsD w' s T.period T.deadline w.heap.size
  d : IsD w' s T
theorem Bx1D.next {w w1 w2 : World} {s : Sh} {T : Task} (h : Bx1D w s T w1) (hb : Below w1.heap.size w1 w2) : Bx1D w s T w2 := ⟨h.bel.trans (hb.mono h.bel.size), h.c.next hb, h.d.below hb⟩
/-- .. of whatever size. -/
structure Bx1T (w : World) (s : Sh) (T : Task) (w' : World) : Prop where
  bel : Below w.heap.size w w'
  c : CellsD w' s T.period T.deadline w.heap.size
  t : IsT w' w'.heap.size s T
theorem Bx1T.next {w w1 w2 : World} {s : Sh} {T : Task} (h : Bx1T w s T w1) (hb : Below w1.heap.size w1 w2) : Bx1T w s T w2 := ⟨h.bel.trans (hb.mono h.bel.size), h.c.next hb, (h.t.below hb).more hb.size⟩
theorem Bx1T.start {w : World} {s : Sh} {T : Task} (h : IsT w w.heap.size s T) : Bx1T w s T (w.alloc (.cells #[.int .i64 T.period, .int .i64 T.deadline, .slice s.P s.np s.pc, .slice s.E s.ne s.ec, .slice s.F s.nf s.fc, .slice s.R s.nr s.rc] 64)) := by
  refine ⟨below_alloc _, ⟨?_, ?_, ?_, ?_, ?_, ?_⟩, (h.below (below_alloc _)).more (by simp)⟩ <;> (rw [World.cell?_alloc_at _ _ _ _ rfl]; rfl)
theorem Bx1T.few {w w' : World} {s : Sh} {T : Task} (h : Bx1T w s T w') (i : InD w s T) (hT : DTab w) (hF : FewD T) : Bx1D w s T w' := ⟨h.bel, h.c, (i.isD hT hF).below h.bel⟩
end Go.Proofs.YtfahabphncmbfaaGreatDoor
set_option linter.unusedVariables false
namespace Go.Proofs.YtfahabphncmbfaaGreatDoor
open Go.RowKit

/-- A lowered task lies in a box, and is as it was handed out; so does the task itself, in the call's first box. -/
structure BxL (w : World) (s : Sh) (T : Task) (g : Nat) (A : Option Addr) (n c : Nat) (F : Option Addr) (m d : Nat) (R : Option Addr) (k e : Nat) (W : List Int) (E P : List (Int × Int)) (w' : World) : Prop where
  b : Bx1D w s T w'
  c0 : w'.cell? ⟨g, 0, none⟩ = some (.slice A n c)
  c1 : w'.cell? ⟨g, 1, none⟩ = some (.slice F m d)
  c2 : w'.cell? ⟨g, 2, none⟩ = some (.slice R k e)
  l : IsL w' A n c F m d R k e W E P
section
variable {w w1 w2 : World} {s : Sh} {T : Task} {g : Nat} {A : Option Addr} {n c : Nat} {F : Option Addr} {m d : Nat} {R : Option Addr} {k e : Nat} {W : List Int} {E P : List (Int × Int)}
theorem BxL.next (h : BxL w s T g A n c F m d R k e W E P w1) (hb : Below w1.heap.size w1 w2) : BxL w s T g A n c F m d R k e W E P w2 :=
  ⟨h.b.next hb, (hb.cell (World.block_lt_of_cell? _ _ h.c0)).trans h.c0, (hb.cell (World.block_lt_of_cell? _ _ h.c1)).trans h.c1, (hb.cell (World.block_lt_of_cell? _ _ h.c2)).trans h.c2, h.l.below hb⟩
theorem BxL.cells (h : BxL w s T g A n c F m d R k e W E P w1) : w1.cell? ⟨g, 0, none⟩ = some (.slice A n c) ∧ w1.cell? ⟨g, 1, none⟩ = some (.slice F m d) ∧ w1.cell? ⟨g, 2, none⟩ = some (.slice R k e) := ⟨h.c0, h.c1, h.c2⟩
theorem BxL.start (h : Bx1D w s T w1) (hl : IsL w1 A n c F m d R k e W E P) : BxL w s T w1.heap.size A n c F m d R k e W E P (w1.alloc (.cells #[.slice A n c, .slice F m d, .slice R k e] 76)) := by
  refine ⟨h.next (below_alloc _), ?_, ?_, ?_, hl.below (below_alloc _)⟩ <;> (rw [World.cell?_alloc_at _ _ _ _ rfl]; rfl)
theorem lower_sz {n m k : Nat} (hn : (lowWv T).length = n) (hm : (lowEv T).length = m) (hk : (lowPv T).length = k) (hD : IsD w s T) : Calls Tryz.prog 35 #[s.arg T.period T.deadline] w fun e w' =>
    ∃ A c F d R z, e = .returned (.tuple #[.agg #[.slice A n c, .slice F m d, .slice R k z], .int .i64 (lowX T)]) ∧ IsL w' A n c F m d R k z (lowWv T) (lowEv T) (lowPv T) ∧ Below w.heap.size w w' := by
  subst hn hm hk
  exact lower_got s T w hD
end
theorem low_no {T : Task} (h : lowX T ≠ 0) : lowWv T = [] ∧ lowEv T = [] ∧ lowPv T = [] := by
  have hN : ¬ LowOk T := fun h2 => h (lowX_zero.mpr h2)
  unfold lowWv lowEv lowPv
  rw [if_neg hN, if_neg hN, if_neg hN]
  exact ⟨rfl, rfl, rfl⟩
theorem low_yes {T : Task} (h : LowOk T) : lowWv T = lowW T ∧ lowEv T = lowE T ∧ lowPv T = lowP T := by
  unfold lowWv lowEv lowPv
  rw [if_pos h, if_pos h, if_pos h]
  exact ⟨rfl, rfl, rfl⟩
end Go.Proofs.YtfahabphncmbfaaGreatDoor
set_option linter.unusedVariables false
namespace Go.Proofs.YtfahabphncmbfaaGreatDoor
open Go.RowKit

/-- The closure of Total: it adds to what it captured. -/
theorem total_add (z s : Int) (b : Nat) (w : World) (h0 : 0 ≤ s + z) (h1 : s + z ≤ 1000000) (hV : RowV b 3 [.int .i64 s] w) :
    Calls Tryz.prog 88 #[.int .i64 z, .pointer (some ⟨b, 0, none⟩)] w fun e w' => e = .returned (.tuple #[]) ∧ w' = w.setCell ⟨b, 0, none⟩ (.int .i64 (s + z)) := by
  have hc := hV.cell (j := 0) rfl
  have hf := hV.frozen 0
  have hb := hV.lt
  clear hV
  go_enter Tryz.func88, Tryz.ntmps88
  go_wp2
  go_end0
  exact ⟨rfl, rfl⟩

section
variable {A : Option Addr} {n c : Nat} {F : Option Addr} {m d : Nat} {W : List Int} {E : List (Int × Int)}
set_option maxHeartbeats 4000000 in
theorem total_done (w : World) (h : IsG w A n c F m d W E) :
    Calls Tryz.prog 41 #[.agg #[.slice A n c, .slice F m d]] w fun e w' => e = .returned (.int .i64 (totalV W E)) ∧ Below w.heap.size w w' := by
  have H := Lib.hid h
  have C := Lib.hid (fun w' (h : IsG w' A n c F m d W E) => check_done w' h)
  by_cases hM : May W E
  · have hn64 : n ≤ 64 := by rw [← h.hn]; exact hM.nodes
    have HW := Lib.hid hM.work
    rw [chkE_zero.mpr hM] at C
    have HT := Lib.hid (show totalV W E = W.sum by unfold totalV; rw [if_pos hM])
    obtain ⟨r, hr⟩ : ∃ r, r = totalV W E := ⟨_, rfl⟩
    rw [← hr] at HT ⊢
    obtain ⟨w0, hw0⟩ : ∃ w0, w0 = w.alloc (.cells #[.slice A n c, .slice F m d] 25) := ⟨_, rfl⟩
    have HW0 := Lib.hid hw0
    have HN := Lib.hid h.hn
    clear h hM hr hw0
    go_enter Tryz.func41, Tryz.ntmps41
    go_wp2_with fail
    refine (C.out _ (H.out.below (below_alloc _))).mono ?_
    rintro e w1 ⟨rfl, b⟩
    have HB := Lib.hid (show Below w0.heap.size w0 w1 by rw [HW0.out]; exact b)
    have HG := Lib.hid ((H.out.below (below_alloc _)).below b)
    have hs1 : w.heap.size < w1.heap.size := by have := b.size; simp at this; exact this
    have hbox0 : w1.cell? ⟨w.heap.size, 0, none⟩ = some (.slice A n c) := (b.cell (by simp)).trans (by rw [World.cell?_alloc_at _ _ _ _ rfl]; rfl)
    clear b
    go_wp2
    have H0 : Hid (RowV w1.heap.size 3 [.int .i64 0] (w1.alloc (.cells #[.int .i64 0] 3))) := Lib.hid (RowV.new w1 3 [.int .i64 0])
    go_loopw [14] (fun i wr => ∃ (j : Nat) (q : Int), j ≤ n ∧ i = .int .i64 j ∧ 0 ≤ q ∧ q ≤ 1000 * j ∧ Hid (q = (W.take j).sum) ∧ Hid (RowV w1.heap.size 3 [.int .i64 q] wr) ∧ Hid (Below w1.heap.size w1 wr)) (fun i _ => n - (intOf i).toNat)
    case atStart => exact ⟨0, 0, Nat.zero_le _, rfl, by omega, by omega, Lib.hid (by simp), H0, Lib.hid (below_alloc _)⟩
    case round =>
      obtain ⟨j, q, hj, rfl, hq0, hq1, hqe, HV, HB1⟩ := hrel
      clear H0
      have hbl := HV.out.lt
      by_cases hlt : j < n
      · obtain ⟨bk, o, z, rfl, hbg, hzj, hc1⟩ := HG.out.ints.at_ (k := j) (by rw [HN.out]; exact hlt)
        have hd1 : wr.cell? ⟨bk, o + j, none⟩ = some (.int .i64 z) := (HB1.out.cell hbg).trans hc1
        obtain ⟨z0, z1⟩ := HW.out z (List.mem_of_getElem? hzj)
        have HQ := Lib.hid (show q + z = (W.take (j + 1)).sum by rw [take_snoc' hzj, List.sum_append, hqe.out]; simp)
        have C2 := Lib.hid (total_add z q w1.heap.size wr (by omega) (by omega) HV.out)
        clear hzj hc1
        go_wp2_with (go_at_call 88; refine C2.out.mono ?_; rintro e w3 ⟨rfl, rfl⟩)
        go_roundw
        case rel => exact ⟨j + 1, q + z, by omega, by go_num, by omega, by omega, HQ, Lib.hid (HV.out.set 0 (.int .i64 (q + z))), Lib.hid (HB1.out.setCell (Nat.le_refl _) _)⟩
        case measure => simp [intOf]; omega
      · obtain rfl : j = n := by omega
        have hl2 : W.take j = W := List.take_of_length_le (by rw [HN.out]; omega)
        rw [hl2] at hqe
        have hc := HV.out.cell (j := 0) rfl
        go_wp2
        go_ret
        exact ⟨by rw [HT.out, ← hqe.out]; rfl, (below_alloc _).trans (by rw [← HW0.out]; exact (HB.out.trans (HB1.out.mono HB.out.size)).mono (by rw [HW0.out]; simp))⟩
  · have HO : totalV W E = 0 := by unfold totalV; rw [if_neg hM]
    rw [HO]
    have hc : (chkE W E != 0) = true := by
      rw [bne_iff_ne]
      exact fun q => hM (chkE_zero.mp q)
    obtain ⟨r, hr⟩ : ∃ r, r = chkE W E := ⟨_, rfl⟩
    rw [← hr] at C hc
    clear h hM hr HO
    go_enter Tryz.func41, Tryz.ntmps41
    go_wp2_with fail
    refine (C.out _ (H.out.below (below_alloc _))).mono ?_
    rintro e w1 ⟨rfl, b⟩
    have HB := Lib.hid ((below_alloc _).trans (b.mono (by simp)))
    clear b
    go_wp2
    go_ret
    exact ⟨rfl, HB.out⟩
end
end Go.Proofs.YtfahabphncmbfaaGreatDoor
set_option linter.unusedVariables false
set_option linter.unusedSimpArgs false
namespace Go.Proofs.YtfahabphncmbfaaGreatDoor
open Go Go.RowKit

theorem Rwk.set5 {w0 w : World} {L : List (TypeId × List Value)} (h : Rwk w0 L w) (i : Nat) {t : TypeId} {a b c d e : Value} (hi : L[i]? = some (t, [a, b, c, d, e])) (u v x y z : Value) :
    Rwk w0 (L.set i (t, [u, v, x, y, z])) (((((w.setCell ⟨w0.heap.size + i, 0, none⟩ u).setCell ⟨w0.heap.size + i, 1, none⟩ v).setCell ⟨w0.heap.size + i, 2, none⟩ x).setCell ⟨w0.heap.size + i, 3, none⟩ y).setCell ⟨w0.heap.size + i, 4, none⟩ z) := by
  have hl : i < L.length := (List.getElem?_eq_some_iff.mp hi).1
  have h1 := h.set i 0 hi u
  have h2 := h1.set i 1 (List.getElem?_set_self hl) v
  rw [List.set_set] at h2
  have h3 := h2.set i 2 (List.getElem?_set_self hl) x
  rw [List.set_set] at h3
  have h4 := h3.set i 3 (List.getElem?_set_self hl) y
  rw [List.set_set] at h4
  have h5 := h4.set i 4 (List.getElem?_set_self hl) z
  rw [List.set_set] at h5
  exact h5
/-- The boxes of Shape, and the graph that it was lowered to. -/
structure BxShp (wf : World) (L : List (TypeId × List Value)) (g : Nat) (A : Option Addr) (n c : Nat) (F : Option Addr) (m d : Nat) (vR : Value) (W : List Int) (E : List (Int × Int)) (w : World) : Prop where
  b : Rwk wf L w
  r : RowV g 76 [.slice A n c, .slice F m d, vR] w
  l : IsG w A n c F m d W E
theorem BxShp.next {wf : World} {L : List (TypeId × List Value)} {g : Nat} {A : Option Addr} {n c : Nat} {F : Option Addr} {m d : Nat} {vR : Value} {W : List Int} {E : List (Int × Int)} {w w' : World} (h : BxShp wf L g A n c F m d vR W E w) (hb : Below w.heap.size w w') : BxShp wf L g A n c F m d vR W E w' :=
  ⟨h.b.next hb, h.r.below hb h.r.lt, h.l.below hb⟩
def PhiSp (wf : World) (g : Nat) (A : Option Addr) (n c : Nat) (F : Option Addr) (m d : Nat) (tot lg mx D P : Int) : Nat → Value → World → Prop
  | 0, v, w => v = .pointer (some ⟨g, 0, none⟩)
  | 1, v, w => v = .agg #[.slice A n c, .slice F m d]
  | 2, v, w => v = .int .i64 tot
  | 3, v, w => v = .pointer (some ⟨g, 0, none⟩)
  | 4, v, w => v = .agg #[.slice A n c, .slice F m d]
  | 5, v, w => v = .int .i64 lg
  | 6, v, w => v = .pointer (some ⟨g, 0, none⟩)
  | 7, v, w => v = .pointer (some ⟨g, 0, none⟩)
  | 8, v, w => v = .slice A n c
  | 9, v, w => v = .int .i64 mx
  | 10, v, w => v = .pointer (some ⟨wf.heap.size, 1, none⟩)
  | 11, v, w => v = .int .i64 D
  | 12, v, w => v = .pointer (some ⟨wf.heap.size, 0, none⟩)
  | 13, v, w => v = .int .i64 P
  | 14, v, w => v = .agg #[.int .i64 tot, .int .i64 lg, .int .i64 mx, .int .i64 D, .int .i64 P]
  | _, _, _ => True
theorem phiSp_below {wf : World} {g : Nat} {A : Option Addr} {n c : Nat} {F : Option Addr} {m d : Nat} {tot lg mx D P : Int} : ∀ kq v w w', PhiSp wf g A n c F m d tot lg mx D P kq v w → Below w.heap.size w w' → PhiSp wf g A n c F m d tot lg mx D P kq v w' := by
  intro kq v w w' h hb
  match kq, h with
  | 0, h => exact h
  | 1, h => exact h
  | 2, h => exact h
  | 3, h => exact h
  | 4, h => exact h
  | 5, h => exact h
  | 6, h => exact h
  | 7, h => exact h
  | 8, h => exact h
  | 9, h => exact h
  | 10, h => exact h
  | 11, h => exact h
  | 12, h => exact h
  | 13, h => exact h
  | 14, h => exact h
  | kq + 15, h => exact trivial
def ThtSp (wf : World) (dv : List Value) (g : Nat) (A : Option Addr) (n c : Nat) (F : Option Addr) (m d : Nat) (vR : Value) (W : List Int) (E : List (Int × Int)) (tot lg mx D P : Int) (t : Nat) (f : Nat → Value) (w : World) : Prop :=
  15 ≤ t ∧ t ≤ 17 ∧ f 29 = .agg #[.int .i64 tot, .int .i64 lg, .int .i64 mx, .int .i64 D, .int .i64 P] ∧ (t ≤ 15 → BxShp wf [(64, dv), (67, [.int .i64 0, .int .i64 0, .int .i64 0, .int .i64 0, .int .i64 0])] g A n c F m d vR W E w) ∧ (16 ≤ t → Rwk wf [(64, dv), (67, [.int .i64 tot, .int .i64 lg, .int .i64 mx, .int .i64 D, .int .i64 P])] w) ∧ (t = 17 → f 3 = .int .i64 0)
theorem load_shape {w : World} {q : Nat} {a b c d e : Value} (h : RowV q 67 [a, b, c, d, e] w) : (loadVar 67 ⟨q, 0, none⟩).run Tryz.prog w = .ok (.agg #[a, b, c, d, e]) w :=
  run_loadVar_row _ q _ _ _ _ _ h Tryz.underlying67 rfl (by kernel_rfl)
theorem ret_shape {fn : Func} {p u : Tmp} (h : fn.results = #[.cell p 67, .tmp u]) {tmps : Array Value} {w : World} {q : Nat} {a b c d e x : Value} (hp : tmps.getD p undef = .pointer (some ⟨q, 0, none⟩)) (hu : tmps.getD u undef = x) (h1 : RowV q 67 [a, b, c, d, e] w) :
    (results fn tmps).run Tryz.prog w = .ok (.tuple #[.agg #[a, b, c, d, e], x]) w := by
  rw [results_cell_tmp h, hp, hu]
  simp [asAddr, load_shape h1, Result.andThen]
open Classical in
noncomputable def shapeT (T : Task) : Shp := if LowOk T then ⟨totalV (lowWv T) (lowEv T), longV (lowWv T) (lowEv T), maxL (lowWv T), T.deadline, T.period⟩ else ⟨0, 0, 0, 0, 0⟩
theorem low_work {T : Task} (h : LowOk T) : 1 ≤ (lowWv T).length ∧ ∀ z ∈ lowWv T, 0 ≤ z ∧ z ≤ 1000000 := by
  have hM := h.2
  have e := (low_yes h).1
  rw [e]
  refine ⟨?_, fun z hz => by have := hM.work z hz; omega⟩
  rw [lowW_len h.1]
  have := h.1.few
  unfold ManyT at this
  omega
set_option maxRecDepth 100000 in
set_option maxHeartbeats 32000000 in
theorem cshape_any (s : Sh) (T : Task) (wf : World) (hD : IsD wf s T) : Calls Tryz.prog 30 #[s.arg T.period T.deadline] wf
    fun e w' => e = .returned (.tuple #[(shapeT T).val, .int .i64 (lowX T)]) ∧ Below wf.heap.size wf w' := by
  have HLW := Lib.hid (fun W (b : Below wf.heap.size wf W) => lower_got s T W (hD.below b))
  have hsz := lows_few (T := T)
  obtain ⟨sP, np, pc, sE, ne, ec, sF, nf, fc, sR, nr, rc⟩ := s
  clear hD
  by_cases hX : lowX T = 0
  · have hOK := lowX_zero.mp hX
    obtain ⟨hw1, hw2⟩ := low_work hOK
    have hw3 := hsz hX
    have hsv : shapeT T = ⟨totalV (lowWv T) (lowEv T), longV (lowWv T) (lowEv T), maxL (lowWv T), T.deadline, T.period⟩ := if_pos hOK
    rw [hX] at HLW
    rw [hsv, hX]
    unfold Shp.val
    obtain ⟨P, hP⟩ : ∃ P, P = T.period := ⟨_, rfl⟩
    obtain ⟨D, hDe⟩ : ∃ P, P = T.deadline := ⟨_, rfl⟩
    obtain ⟨tot, htot⟩ : ∃ P, P = totalV (lowWv T) (lowEv T) := ⟨_, rfl⟩
    obtain ⟨lg, hlg⟩ : ∃ P, P = longV (lowWv T) (lowEv T) := ⟨_, rfl⟩
    obtain ⟨mx, hmx⟩ : ∃ P, P = maxL (lowWv T) := ⟨_, rfl⟩
    obtain ⟨n, hn⟩ : ∃ n, n = (lowWv T).length := ⟨_, rfl⟩
    obtain ⟨m, hm⟩ : ∃ n, n = (lowEv T).length := ⟨_, rfl⟩
    obtain ⟨z, hz⟩ : ∃ n, n = (lowPv T).length := ⟨_, rfl⟩
    obtain ⟨W, hW⟩ : ∃ W, W = lowWv T := ⟨_, rfl⟩
    obtain ⟨E, hE⟩ : ∃ W, W = lowEv T := ⟨_, rfl⟩
    obtain ⟨Q, hQ⟩ : ∃ W, W = lowPv T := ⟨_, rfl⟩
    dsimp only
    rw [← hP, ← hDe, ← hn, ← hm, ← hz, ← hW, ← hE, ← hQ] at HLW
    rw [← hn] at hw1 hw3
    rw [← hP, ← hDe, ← htot, ← hlg, ← hmx]
    rw [← hW] at hw2 hn hmx
    rw [← hW, ← hE] at htot hlg
    have HTO : ∀ {A c F d} (w : World), IsG w A n c F m d W E → Calls Tryz.prog 41 #[.agg #[.slice A n c, .slice F m d]] w fun e w' => e = .returned (.int .i64 tot) ∧ Below w.heap.size w w' := fun {A c F d} w h => by rw [htot]; exact total_done w h
    have HLO : ∀ {A c F d} (w : World), IsG w A n c F m d W E → Calls Tryz.prog 64 #[.agg #[.slice A n c, .slice F m d]] w fun e w' => e = .returned (.int .i64 lg) ∧ Below w.heap.size w w' := fun {A c F d} w h => by rw [hlg]; exact long_done w h
    have HMX : ∀ {A c F d} (w : World), IsG w A n c F m d W E → Calls Tryz.prog 65 #[.slice A n c] w fun e w' => e = .returned (.int .i64 mx) ∧ w = w' := fun {A c F d} w h => by rw [hmx]; exact smax_any A n c W w hn.symm hw1 (by omega) hw2 h.ints
    clear hm htot hlg hmx hsv hOK hw2 hX hsz hP hDe hz hW hE hQ
    have B0 := Lib.hid (Rwk.start wf [(64, [.int .i64 P, .int .i64 D, .slice sP np pc, .slice sE ne ec, .slice sF nf fc, .slice sR nr rc]), (67, [.int .i64 0, .int .i64 0, .int .i64 0, .int .i64 0, .int .i64 0])])
    obtain ⟨dv, hdv⟩ : ∃ dv : List Value, dv = [.int .i64 P, .int .i64 D, .slice sP np pc, .slice sE ne ec, .slice sF nf fc, .slice sR nr rc] := ⟨_, rfl⟩
    dsimp only [Sh.arg] at HLW ⊢
    have HTO' := @HTO
    have HLO' := @HLO
    have HMX' := @HMX
    clear HTO HLO HMX
    have HN := Lib.hid hn
    clear hn
    go_enter Tryz.func30, Tryz.ntmps30
    go_wp2_with fail
    refine (HLW.out _ B0.out.bel).mono ?_
    rintro e w1 ⟨A, c, F, d, R, k, rfl, hL, b⟩
    have HTO := Lib.hid (fun w h => HTO' (A := A) (c := c) (F := F) (d := d) w h)
    have HLO := Lib.hid (fun w h => HLO' (A := A) (c := c) (F := F) (d := d) w h)
    have HMX := Lib.hid (fun w h => HMX' (A := A) (c := c) (F := F) (d := d) w h)
    clear HTO' HLO' HMX' HLW
    have HB := Lib.hid (show BxShp wf _ w1.heap.size A n c F m d (.slice R z k) W E (w1.alloc (.cells #[.slice A n c, .slice F m d, .slice R z k] 76)) from ⟨(B0.out.next b).next (below_alloc _), RowV.new _ _ _, hL.g.below (below_alloc _)⟩)
    clear b hL B0
    rw [← hdv] at HB
    go_wp2_with fail
    obtain ⟨g, hg⟩ : ∃ g, g = w1.heap.size := ⟨_, rfl⟩
    obtain ⟨w2, hw2⟩ : ∃ w2, w2 = w1.alloc (.cells #[.slice A n c, .slice F m d, .slice R z k] 76) := ⟨_, rfl⟩
    rw [← hw2, ← hg] at HB
    rw [← hw2, ← hg]
    clear hw2 hg
    refine wp_region_tail 15 [15, 16, 17, 18, 19, 20, 21, 22, 23, 24, 25, 26, 27, 28, 29, 1000, 3] [] (by kernel_rfl) (by kernel_rfl) (by intro d hd; simp at hd ⊢; omega) (BxShp wf [(64, dv), (67, [.int .i64 0, .int .i64 0, .int .i64 0, .int .i64 0, .int .i64 0])] g A n c F m d (.slice R z k) W E) (PhiSp wf g A n c F m d tot lg mx D P) (fun _ _ => True) (ThtSp wf dv g A n c F m d (.slice R z k) W E tot lg mx D P)
      (fun y y' h hb => h.next hb) phiSp_below (HB.out.next (Below.refl _ _).drew) ?hstep ?hloose ?hmid ?htail ?hcon ?hend
    case hstep =>
      intro kq o hkm hkF ho a1 w hI hA hd K hK
      obtain ⟨ρ, hρ⟩ : ∃ ρ, a1.eval = ρ := ⟨_, rfl⟩
      rw [hρ] at hA hd
      match kq, hkm, hkF, ho with
      | 0, _, _, ho =>
        have hoo := Option.some.inj ho
        subst hoo
        exact fx_val hK hρ (.pointer (some ⟨g, 0, none⟩)) (by have h := hA.tmp 4 (by decide); simp [execOp, h, go_sem]) rfl
      | 1, _, _, ho =>
        have hoo := Option.some.inj ho
        subst hoo
        have f0 : ρ (.tmp 15) = .pointer (some ⟨g, 0, none⟩) := hd ⟨0, .data⟩ (by simp) (by rfl) (by decide)
        have q0 := hI.r.cell (j := 0) rfl
        have q1 := hI.r.cell (j := 1) rfl
        exact fx_val hK hρ (.agg #[.slice A n c, .slice F m d]) (by simp [execOp, f0, q0, q1, go_sem]) rfl
      | 2, _, _, ho =>
        have hoo := Option.some.inj ho
        subst hoo
        have f1 : ρ (.tmp 16) = .agg #[.slice A n c, .slice F m d] := hd ⟨1, .data⟩ (by simp) (by rfl) (by decide)
        exact fx_call hK hρ 41 _ _ #[.agg #[.slice A n c, .slice F m d]] rfl (by simp only [List.map_toArray, List.map_cons, List.map_nil, hA.const, f1]) (eg_of Tryz.func41 (by kernel_rfl) rfl) ((HTO.out w hI.l).mono fun e w' ⟨he, hb⟩ => ⟨_, he, rfl, hb⟩)
      | 3, _, _, ho =>
        have hoo := Option.some.inj ho
        subst hoo
        exact fx_val hK hρ (.pointer (some ⟨g, 0, none⟩)) (by have h := hA.tmp 4 (by decide); simp [execOp, h, go_sem]) rfl
      | 4, _, _, ho =>
        have hoo := Option.some.inj ho
        subst hoo
        have f3 : ρ (.tmp 18) = .pointer (some ⟨g, 0, none⟩) := hd ⟨3, .data⟩ (by simp) (by rfl) (by decide)
        have q0 := hI.r.cell (j := 0) rfl
        have q1 := hI.r.cell (j := 1) rfl
        exact fx_val hK hρ (.agg #[.slice A n c, .slice F m d]) (by simp [execOp, f3, q0, q1, go_sem]) rfl
      | 5, _, _, ho =>
        have hoo := Option.some.inj ho
        subst hoo
        have f4 : ρ (.tmp 19) = .agg #[.slice A n c, .slice F m d] := hd ⟨4, .data⟩ (by simp) (by rfl) (by decide)
        exact fx_call hK hρ 64 _ _ #[.agg #[.slice A n c, .slice F m d]] rfl (by simp only [List.map_toArray, List.map_cons, List.map_nil, hA.const, f4]) (eg_of Tryz.func64 (by kernel_rfl) rfl) ((HLO.out w hI.l).mono fun e w' ⟨he, hb⟩ => ⟨_, he, rfl, hb⟩)
      | 6, _, _, ho =>
        have hoo := Option.some.inj ho
        subst hoo
        exact fx_val hK hρ (.pointer (some ⟨g, 0, none⟩)) (by have h := hA.tmp 4 (by decide); simp [execOp, h, go_sem]) rfl
      | 7, _, _, ho =>
        have hoo := Option.some.inj ho
        subst hoo
        have f6 : ρ (.tmp 21) = .pointer (some ⟨g, 0, none⟩) := hd ⟨6, .data⟩ (by simp) (by rfl) (by decide)
        exact fx_val hK hρ (.pointer (some ⟨g, 0, none⟩)) (by simp [execOp, f6, go_sem]) rfl
      | 8, _, _, ho =>
        have hoo := Option.some.inj ho
        subst hoo
        have f7 : ρ (.tmp 22) = .pointer (some ⟨g, 0, none⟩) := hd ⟨7, .data⟩ (by simp) (by rfl) (by decide)
        have q0 := hI.r.cell (j := 0) rfl
        exact fx_val hK hρ (.slice A n c) (by simp [execOp, f7, q0, go_sem]) rfl
      | 9, _, _, ho =>
        have hoo := Option.some.inj ho
        subst hoo
        have f8 : ρ (.tmp 23) = .slice A n c := hd ⟨8, .data⟩ (by simp) (by rfl) (by decide)
        exact fx_call hK hρ 65 _ _ #[.slice A n c] rfl (by simp only [List.map_toArray, List.map_cons, List.map_nil, hA.const, f8]) (eg_of Tryz.func65 (by kernel_rfl) rfl) ((HMX.out w hI.l).mono fun e w' ⟨he, hb⟩ => ⟨_, he, rfl, hb ▸ Below.refl _ _⟩)
      | 10, _, _, ho =>
        have hoo := Option.some.inj ho
        subst hoo
        exact fx_val hK hρ (.pointer (some ⟨wf.heap.size, 1, none⟩)) (by have h := hA.tmp 1 (by decide); simp [execOp, h, go_sem]) rfl
      | 11, _, _, ho =>
        have hoo := Option.some.inj ho
        subst hoo
        have f10 : ρ (.tmp 25) = .pointer (some ⟨wf.heap.size, 1, none⟩) := hd ⟨10, .data⟩ (by simp) (by rfl) (by decide)
        have q0 := hI.b.cell 0 1 rfl (by rw [hdv]; rfl)
        simp only [Nat.add_zero] at q0
        exact fx_val hK hρ (.int .i64 D) (by simp [execOp, f10, q0, go_sem]) rfl
      | 12, _, _, ho =>
        have hoo := Option.some.inj ho
        subst hoo
        exact fx_val hK hρ (.pointer (some ⟨wf.heap.size, 0, none⟩)) (by have h := hA.tmp 1 (by decide); simp [execOp, h, go_sem]) rfl
      | 13, _, _, ho =>
        have hoo := Option.some.inj ho
        subst hoo
        have f12 : ρ (.tmp 27) = .pointer (some ⟨wf.heap.size, 0, none⟩) := hd ⟨12, .data⟩ (by simp) (by rfl) (by decide)
        have q0 := hI.b.cell 0 0 rfl (by rw [hdv]; rfl)
        simp only [Nat.add_zero] at q0
        exact fx_val hK hρ (.int .i64 P) (by simp [execOp, f12, q0, go_sem]) rfl
      | 14, _, _, ho =>
        have hoo := Option.some.inj ho
        subst hoo
        have f2 : ρ (.tmp 17) = .int .i64 tot := hd ⟨2, .data⟩ (by simp) (by rfl) (by decide)
        have f5 : ρ (.tmp 20) = .int .i64 lg := hd ⟨5, .data⟩ (by simp) (by rfl) (by decide)
        have f9 : ρ (.tmp 24) = .int .i64 mx := hd ⟨9, .data⟩ (by simp) (by rfl) (by decide)
        have f11 : ρ (.tmp 26) = .int .i64 D := hd ⟨11, .data⟩ (by simp) (by rfl) (by decide)
        have f13 : ρ (.tmp 28) = .int .i64 P := hd ⟨13, .data⟩ (by simp) (by rfl) (by decide)
        exact fx_val hK hρ (.agg #[.int .i64 tot, .int .i64 lg, .int .i64 mx, .int .i64 D, .int .i64 P]) (by simp [execOp, f2, f5, f9, f11, f13, hA.const, go_sem]) rfl
      | kq + 15, h, _, _ => exact absurd h (by omega)
    case hloose =>
      intro kq o hkF ho ρ w hA hd
      exact absurd hkF (by simp)
    case hmid =>
      intro vals w hI hF
      exact ⟨by decide, by decide, hF 14 (by decide) (by decide), fun _ => hI, fun h => absurd h (by decide), fun h => absurd h (by decide)⟩
    case htail =>
      intro t o htm ho a1 w hA hT hL K hK
      have htl : t < 17 := (Array.getElem?_eq_some_iff.1 ho).1
      obtain ⟨ρ, hρ⟩ : ∃ ρ, a1.eval = ρ := ⟨_, rfl⟩
      rw [hρ] at hA
      obtain rfl | rfl : t = 15 ∨ t = 16 := by omega
      · have hoo := Option.some.inj ho
        subst hoo
        obtain ⟨t1, t2, g29, hb, -, -⟩ := hT
        simp only [hρ] at g29
        have hb := hb (by decide)
        have hs := hA.tmp 2 (by decide)
        have e0 := hb.b.frozen 1 0 rfl
        have e1 := hb.b.frozen 1 1 rfl
        have e2 := hb.b.frozen 1 2 rfl
        have e3 := hb.b.frozen 1 3 rfl
        have e4 := hb.b.frozen 1 4 rfl
        have q0 := hb.b.cell 1 0 rfl rfl
        have q1 := hb.b.cell 1 1 rfl rfl
        have q2 := hb.b.cell 1 2 rfl rfl
        have q3 := hb.b.cell 1 3 rfl rfl
        have q4 := hb.b.cell 1 4 rfl rfl
        unfold Oper.wp
        rw [show (execOp a1.eval _).run Tryz.prog w = .ok .skip (((((w.setCell ⟨wf.heap.size + 1, 0, none⟩ (.int .i64 tot)).setCell ⟨wf.heap.size + 1, 1, none⟩ (.int .i64 lg)).setCell ⟨wf.heap.size + 1, 2, none⟩ (.int .i64 mx)).setCell ⟨wf.heap.size + 1, 3, none⟩ (.int .i64 D)).setCell ⟨wf.heap.size + 1, 4, none⟩ (.int .i64 P)) from by rw [hρ]; simp [execOp, hs, g29, e0, e1, e2, e3, e4, q0, q1, q2, q3, q4, go_sem], Oper.upon_skip]
        refine hK undef _ ⟨by decide, by decide, ?_⟩
        simp only [reduceCtorEq, if_false, hρ]
        exact ⟨g29, fun h => absurd h (by decide), fun _ => hb.b.set5 1 rfl _ _ _ _ _, fun h => absurd h (by decide)⟩
      · have hoo := Option.some.inj ho
        subst hoo
        obtain ⟨t1, t2, g29, -, hb, -⟩ := hT
        simp only [hρ] at g29
        have hb := hb (by decide)
        unfold Oper.wp
        rw [show (execOp a1.eval _).run Tryz.prog w = .ok (.value (.int .i64 0)) w from by rw [hρ]; simp [execOp, hA.const, go_sem], Oper.upon_value]
        refine hK _ _ ⟨by decide, by decide, ?_⟩
        simp only [Option.some.injEq, Nat.reduceEqDiff, if_false, if_true, hρ]
        exact ⟨g29, fun h => absurd h (by decide), fun _ => hb, fun _ => if_pos rfl⟩
    case hcon =>
      intro t f g w h hT
      obtain ⟨t1, t2, g29, hb, hb2, h3⟩ := hT
      have q14 := h 14 (by omega) (by simp)
      simp only [List.getD_cons_zero, List.getD_cons_succ] at q14
      refine ⟨t1, t2, q14 ▸ g29, hb, hb2, fun e => ?_⟩
      have q16 := h 16 (by omega) (by simp)
      simp only [List.getD_cons_zero, List.getD_cons_succ] at q16
      exact q16 ▸ h3 e
    case hend =>
      intro vals w3 hT
      obtain ⟨_, _, _, _, hb2, h3⟩ := hT
      have B4 := Lib.hid (hb2 (by decide))
      have h3 := h3 rfl
      clear hb2
      simp only [fillA, fillL, List.contains_cons, List.contains_nil, Nat.reduceBEq, Bool.or_false, Bool.false_or, Bool.or_true, Bool.true_or, cond_true, cond_false, Nat.zero_add, Nat.reduceAdd, h3]
      go_wp2
      refine bodyPost_ret (ret_shape rfl rfl rfl (B4.out.row 1 _ _ rfl)) rfl ?_
      exact ⟨rfl, B4.out.bel⟩
  · have hN : ¬ LowOk T := fun h => hX (lowX_zero.mpr h)
    have hsv : shapeT T = ⟨0, 0, 0, 0, 0⟩ := if_neg hN
    rw [hsv]
    unfold Shp.val
    dsimp only
    obtain ⟨P, hP⟩ : ∃ P, P = T.period := ⟨_, rfl⟩
    obtain ⟨D, hDe⟩ : ∃ P, P = T.deadline := ⟨_, rfl⟩
    obtain ⟨n, hn⟩ : ∃ n, n = (lowWv T).length := ⟨_, rfl⟩
    obtain ⟨m, hm⟩ : ∃ n, n = (lowEv T).length := ⟨_, rfl⟩
    obtain ⟨z, hz⟩ : ∃ n, n = (lowPv T).length := ⟨_, rfl⟩
    obtain ⟨x, hx⟩ : ∃ n, n = lowX T := ⟨_, rfl⟩
    rw [← hP, ← hDe, ← hn, ← hm, ← hz, ← hx] at HLW
    rw [← hx] at hX
    rw [← hP, ← hDe, ← hx]
    have hb : (x != 0) = true := bne_iff_ne.mpr hX
    clear hsv hN hsz hP hDe hn hm hz hx hX
    have B0 := Lib.hid (Rwk.start wf [(64, [.int .i64 P, .int .i64 D, .slice sP np pc, .slice sE ne ec, .slice sF nf fc, .slice sR nr rc]), (67, [.int .i64 0, .int .i64 0, .int .i64 0, .int .i64 0, .int .i64 0])])
    dsimp only [Sh.arg] at HLW ⊢
    go_enter Tryz.func30, Tryz.ntmps30
    go_wp2_with fail
    refine (HLW.out _ B0.out.bel).mono ?_
    rintro e w1 ⟨A, c, F, d, R, k, rfl, hL, b⟩
    have B1 := Lib.hid ((B0.out.next b).alloc (.cells #[.slice A n c, .slice F m d, .slice R z k] 76))
    clear b hL B0 HLW
    have c10 := B1.out.cell 1 0 rfl rfl
    have c11 := B1.out.cell 1 1 rfl rfl
    have c12 := B1.out.cell 1 2 rfl rfl
    have c13 := B1.out.cell 1 3 rfl rfl
    have c14 := B1.out.cell 1 4 rfl rfl
    have z10 := B1.out.frozen 1 0 rfl
    have z11 := B1.out.frozen 1 1 rfl
    have z12 := B1.out.frozen 1 2 rfl
    have z13 := B1.out.frozen 1 3 rfl
    have z14 := B1.out.frozen 1 4 rfl
    go_upto_region 3 with (fail)
    obtain ⟨w2, hw2⟩ : ∃ w2, w2 = w1.alloc (.cells #[.slice A n c, .slice F m d, .slice R z k] 76) := ⟨_, rfl⟩
    rw [← hw2] at B1 c10 c11 c12 c13 c14 z10 z11 z12 z13 z14
    rw [← hw2]
    clear hw2
    go_wp2
    have B2 := B1.out.set5 1 rfl (.int .i64 0) (.int .i64 0) (.int .i64 0) (.int .i64 0) (.int .i64 0)
    refine bodyPost_ret (ret_shape rfl rfl rfl (B2.row 1 _ _ rfl)) rfl ?_
    exact ⟨rfl, B2.bel⟩
end Go.Proofs.YtfahabphncmbfaaGreatDoor
set_option linter.unusedVariables false
namespace Go.Proofs.YtfahabphncmbfaaGreatDoor

theorem stepW_sum : ∀ (b : Int) (l : List Int) (z : Int), (stepW b (l ++ [z])).sum = z - b
  | b, [], z => by simp [stepW]
  | b, e :: l, z => by
    rw [List.cons_append, stepW, List.sum_cons, stepW_sum e l z]
    omega
def workK (ps : List (Int × Int × Int)) (j : Nat) : Int := ((ps.take j).map fun e => e.2.2).sum
theorem workK_succ {ps : List (Int × Int × Int)} {j : Nat} {e : Int × Int × Int} (h : ps[j]? = some e) : workK ps (j + 1) = workK ps j + e.2.2 := by
  unfold workK
  rw [List.take_add_one, h, List.map_append, List.sum_append]
  simp
theorem wPs_sum (fs ps : List (Int × Int × Int)) : ∀ j, j ≤ ps.length → (wPs fs ps j).sum = workK ps j
  | 0, _ => rfl
  | j + 1, h => by
    have hj : ps[j]? = some ps[j] := List.getElem?_eq_getElem (by omega)
    rw [wPs, List.sum_append, wPs_sum fs ps j (by omega), workK_succ hj]
    unfold endsL
    rw [stepW_sum, List.getD_eq_getElem?_getD, hj]
    simp
theorem ones_sum : ∀ n : Nat, (List.replicate n (1 : Int)).sum = n
  | 0 => rfl
  | n + 1 => by rw [List.replicate_succ, List.sum_cons, ones_sum n]; omega
theorem lowW_sum (T : Task) : (lowW T).sum = workK T.parts T.parts.length + T.bars.length := by
  unfold lowW
  rw [List.sum_append, wPs_sum _ _ _ (Nat.le_refl _), ones_sum]
theorem workK_bound {ps : List (Int × Int × Int)} (hp : partsOk ps) : ∀ j, j ≤ ps.length → 0 ≤ workK ps j ∧ workK ps j ≤ 100 * j
  | 0, _ => by simp [workK]
  | j + 1, h => by
    have hj : ps[j]? = some ps[j] := List.getElem?_eq_getElem (by omega)
    have h1 := workK_bound hp j (by omega)
    have h2 : partOk ps[j] := hp _ (List.getElem_mem _)
    unfold partOk at h2
    rw [workK_succ hj]
    omega
theorem stepW_pos : ∀ (b : Int) (l : List Int), l.Pairwise (· < ·) → (∀ e ∈ l, b < e) → ∀ z ∈ stepW b l, 1 ≤ z
  | b, [], _, _, z, hz => by simp [stepW] at hz
  | b, e :: l, hp, hb, z, hz => by
    rw [stepW] at hz
    rcases List.mem_cons.mp hz with rfl | hz
    · have := hb e (by simp)
      omega
    · exact stepW_pos e l (List.pairwise_cons.mp hp).2 (fun x hx => (List.pairwise_cons.mp hp).1 x hx) z hz
theorem touK_rises7 {fs : List (Int × Int × Int)} {x : Int} (hn : (fs.map fun f => f.2).Nodup) : ∀ a, (touK fs x a).Pairwise fun i j => (futAt fs i).2.2 < (futAt fs j).2.2
  | 0 => List.Pairwise.nil
  | a + 1 => by
    show (touK fs x a ++ selF fs x (a + 1) fs.length).Pairwise _
    rw [List.pairwise_append]
    refine ⟨touK_rises7 hn a, ?_, fun i hi j hj => ?_⟩
    · have hone : ∀ i ∈ selF fs x (a + 1) fs.length, ∀ j ∈ selF fs x (a + 1) fs.length, i = j := fun i hi j hj => by
        obtain ⟨h1, h2, h3⟩ := mem_selF.mp hi
        obtain ⟨k1, k2, k3⟩ := mem_selF.mp hj
        have e : (futAt fs i).2 = (futAt fs j).2 := Prod.ext (h2.trans k2.symm) (h3.trans k3.symm)
        unfold futAt at e
        rw [List.getD_eq_getElem?_getD, List.getElem?_eq_getElem h1, List.getD_eq_getElem?_getD, List.getElem?_eq_getElem k1] at e
        have h4 : i < (fs.map fun f => f.2).length := by simpa using h1
        have h5 : j < (fs.map fun f => f.2).length := by simpa using k1
        refine (List.getElem_inj (h₀ := h4) (h₁ := h5) hn).mp ?_
        simpa using e
      have hnd := selF_nodup fs x (a + 1) fs.length
      rcases hs : selF fs x (a + 1) fs.length with _ | ⟨i, _ | ⟨j, l⟩⟩
      · exact List.Pairwise.nil
      · exact List.pairwise_singleton _ _
      · rw [hs] at hone hnd
        have := hone i (by simp) j (by simp)
        subst this
        simp at hnd
    · have h1 := (mem_touK.mp hi).2.2.2
      have h2 := (mem_selF.mp hj).2.2
      omega
theorem ends_rise {ps fs : List (Int × Int × Int)} (hp : partsOk ps) (hf : FutsOk ps fs) {x : Nat} (hx : x < ps.length) : (endsL fs ps x).Pairwise (· < ·) ∧ ∀ e ∈ endsL fs ps x, 0 < e := by
  have hpx : ps[x]? = some ps[x] := List.getElem?_eq_getElem hx
  have hw : partOk ps[x] := hp _ (List.getElem_mem _)
  unfold partOk at hw
  have hg : (ps.getD x (0, 0, 0)).2.2 = ps[x].2.2 := by rw [List.getD_eq_getElem?_getD, hpx]; rfl
  have hone : ∀ k ∈ touL fs (x : Int), 0 < (futAt fs k).2.2 ∧ (futAt fs k).2.2 < ps[x].2.2 := fun k hk => by
    obtain ⟨h1, h2, h3, _⟩ := mem_touK.mp hk
    have e : futAt fs k = fs[k] := by unfold futAt; rw [List.getD_eq_getElem?_getD, List.getElem?_eq_getElem h1]; rfl
    have hF := hf.each fs[k] (List.getElem_mem h1)
    rw [e] at h2 ⊢
    refine ⟨by have := hF.first; omega, hF.last ps[x] ?_⟩
    rw [h2]
    exact hpx
  unfold endsL
  rw [hg]
  refine ⟨?_, fun e he => ?_⟩
  · rw [List.pairwise_append]
    refine ⟨?_, List.pairwise_singleton _ _, fun a ha b hb => ?_⟩
    · rw [List.pairwise_map]
      exact touK_rises7 hf.once 99
    · obtain ⟨k, hk, rfl⟩ := List.mem_map.mp ha
      obtain rfl : b = ps[x].2.2 := by simpa using hb
      exact (hone k hk).2
  · rcases List.mem_append.mp he with he | he
    · obtain ⟨k, hk, rfl⟩ := List.mem_map.mp he
      exact (hone k hk).1
    · obtain rfl : e = ps[x].2.2 := by simpa using he
      omega
theorem wPs_pos {ps fs : List (Int × Int × Int)} (hp : partsOk ps) (hf : FutsOk ps fs) : ∀ j, j ≤ ps.length → ∀ z ∈ wPs fs ps j, 1 ≤ z
  | 0, _, z, hz => by simp [wPs] at hz
  | j + 1, h, z, hz => by
    rw [wPs] at hz
    rcases List.mem_append.mp hz with hz | hz
    · exact wPs_pos hp hf j (by omega) z hz
    · have := ends_rise hp hf (x := j) (by omega)
      exact stepW_pos 0 _ this.1 this.2 z hz
theorem lowW_pos {T : Task} (h : MayT T) : ∀ z ∈ lowW T, 1 ≤ z := by
  intro z hz
  unfold lowW at hz
  rcases List.mem_append.mp hz with hz | hz
  · exact wPs_pos h.parts h.futures _ (Nat.le_refl _) z hz
  · have := (List.mem_replicate.mp hz).2
    omega
end Go.Proofs.YtfahabphncmbfaaGreatDoor
