/- Words for memory in the seat YtcjmljpfhabmnaaDoor: a list of integers that is handed out; natural numbers as integers.
   slices.Clone at integers in the seat YtcjmljpfhabmnaaDoor: its contract; nil compared.
   deque.run, Step and Take in the seat YtcjmljpfhabmnaaDoor: their contracts.
   Lists of the call's own that grow, one by one, beside others (as lower's LowGrow, under names of its own), in the seat YtcjmljpfhabmnaaDoor.
   An operation of a region that makes memory, in the seat YtcjmljpfhabmnaaDoor.
   No statement is proved here. -/
import Derived.Test.YtcjmljpfhabmnaaDoorZM3
import Derived.Lib.Hide
import Derived.Deep.RegionWith
import Derived.Test.YtcjmljpfhabmnaaDoorZDevSteal
import Derived.Test.YtcjmljpfhabmnaaDoorZDevPop
import Derived.Deep.AppendLies
import Derived.Test.YtcjmljpfhabmnaaDoorZM7
set_option linter.unusedSimpArgs false
set_option linter.unusedVariables false
namespace Go.Proofs.YtcjmljpfhabmnaaDoor
open Go.RowKit

/-- A new list of integers, handed out. -/
def GotInts (zs : List Int) (w : World) (e : Ending) (w' : World) : Prop :=
  ∃ A c, e = .returned (.slice A zs.length c) ∧ Ints w' w'.heap.size A zs ∧ Below w.heap.size w w'

theorem OwnI.down {w : World} {b b' : Nat} {v : Value} {zs : List Int} (h : OwnI w b v zs) (hb : b' ≤ b) : OwnI w b' v zs := by
  refine ⟨h.1, ?_⟩
  rcases h.2 with hn | ⟨g, cap, cur, rfl, hg, rest⟩
  · exact .inl hn
  · exact .inr ⟨g, cap, cur, rfl, by omega, rest⟩
theorem OwnI.ints {w : World} {b : Nat} {A : Option Addr} {n c : Nat} {zs : List Int} (h : OwnI w b (.slice A n c) zs) : Ints w w.heap.size A zs := by
  obtain ⟨A', c', e1, hI⟩ := h.slice
  injection e1 with e2 e3 e4
  rw [e2]
  exact hI
/-- A new list of integers of the caller's own, handed out. -/
def GotOwn (zs : List Int) (w : World) (e : Ending) (w' : World) : Prop :=
  ∃ A c, e = .returned (.slice A zs.length c) ∧ OwnI w' w.heap.size (.slice A zs.length c) zs ∧ Below w.heap.size w w'
theorem GotOwn.ints {zs : List Int} {w : World} {e : Ending} {w' : World} (h : GotOwn zs w e w') : GotInts zs w e w' := by
  obtain ⟨A, c, he, hO, b⟩ := h
  obtain ⟨A', c', e1, hI⟩ := hO.slice
  injection e1 with e2 e3 e4
  subst e2
  exact ⟨A, c, he, hI, b⟩
theorem ownI_first (w : World) (o : Obj) : OwnI ((w.alloc o).alloc (.cells #[] 3)) (w.heap.size + 1) (.slice (some ⟨w.heap.size + 1, 0, none⟩) 0 0) [] := by
  have h := OwnI.new (w.alloc o) (w.heap.size + 1) (by simp)
  rwa [show (w.alloc o).heap.size = w.heap.size + 1 by simp] at h
def nums (l : List Nat) : List Int := l.map Int.ofNat
theorem mem_nums {l : List Nat} {a : Nat} : (a : Int) ∈ nums l ↔ a ∈ l := by
  unfold nums
  constructor
  · intro h
    obtain ⟨b, hb, e⟩ := List.mem_map.mp h
    obtain rfl : b = a := Int.ofNat_inj.mp e
    exact hb
  · intro h
    exact List.mem_map.mpr ⟨a, h, rfl⟩
theorem nums_length (l : List Nat) : (nums l).length = l.length := by unfold nums; rw [List.length_map]
theorem nums_snoc (l : List Nat) (a : Nat) : nums (l ++ [a]) = nums l ++ [(a : Int)] := by unfold nums; rw [List.map_append]; rfl
end Go.Proofs.YtcjmljpfhabmnaaDoor
set_option linter.unusedVariables false
namespace Go.Proofs.YtcjmljpfhabmnaaDoor
open Go.RowKit

theorem int_info1 : ∃ i, Tryd.prog.info? 3 = some i ∧ i.zero = some (.int .i64 0) ∧ i.size = 1 ∧ i.bytes = 8 := by
  have h := int_cell_info
  cases hi : Tryd.prog.info? 3 with
  | none => rw [hi] at h; cases h
  | some i =>
    rw [hi] at h
    simp at h
    exact ⟨i, rfl, h.1, h.2.1, h.2.2⟩
theorem wpList_append_plain {P : Program} {ops : Array Oper} {rest : List Oper} {o : Oper} {a : Act} {Q : Exit → Act → World → Prop} {w w' : World} {v : Value} (hgd : o.guard = none) (s x : Operand) (t : TypeId) (vs vx : Value)
    (ho : o.op = .call { callee := .builtin .append, args := #[s, x], argTypes := #[t, t] }) (hs : a.eval s = vs) (hx : a.eval x = vx) (hr : (Builtin.append_ #[t, t] o.type #[vs, vx]).run P w = .ok v w')
    (h : wpList P ops Q rest (a.put o.dst v) w') : wpList P ops Q (o :: rest) a w := by
  refine wpList_plain hgd fun K hK => ?_
  unfold Oper.wp execOp
  simp only [ho, resolve, invoke, builtin, Sem.run_bind, Sem.run_pure, Result.andThen_ok, List.map_toArray, List.map_cons, List.map_nil, hs, hx, hr]
  exact hK _ _ h
theorem equalIn_nil (W : World) (d : Nat) (t e : TypeId) (a : Option Addr) (l c : Nat) (h : Tryd.prog.underlying t = some (.slice e)) : (Op.equalIn (d + 1) t (.slice a l c) (.slice none 0 0)).run Tryd.prog W = .ok a.isNone W := by
  cases a <;> simp [Op.equalIn, run_underlying h]
theorem equal_nil (W : World) (t e : TypeId) (a : Option Addr) (l c : Nat) (h : Tryd.prog.underlying t = some (.slice e)) : (Op.equal t (.slice a l c) (.slice none 0 0)).run Tryd.prog W = .ok a.isNone W := equalIn_nil W 9999 t e a l c h
theorem eql_nil (W : World) (t e : TypeId) (a : Option Addr) (l c : Nat) (h : Tryd.prog.underlying t = some (.slice e)) : (binOp .eql t (.slice a l c) (.slice none 0 0)).run Tryd.prog W = .ok (.bool a.isNone) W := by
  simp [binOp, equal_nil W t e a l c h]
theorem new_ints8 (W : World) (ty : TypeId) (A : Option Addr) (c : Nat) (zs : List Int) (hl : zs.length ≤ 1000) (hZ : Ints W W.heap.size A zs) (hA : A = none → zs.length = 0 ∧ c = 0) :
    ∃ v' w', (Builtin.append_ #[25, 25] ty #[.slice (some ⟨W.heap.size, 0, none⟩) 0 0, .slice A zs.length c]).run Tryd.prog (W.alloc (.cells #[] 3)) = .ok v' w' ∧ OwnI w' W.heap.size v' zs ∧ Below W.heap.size W w' := by
  obtain ⟨i0, hi, hz0, hz1, hz2⟩ := int_info1
  obtain ⟨v', w', hr, ho, hb⟩ := fresh_append (P := Tryd.prog) (W.alloc (.cells #[] 3)) 25 ty 3 i0 (.int .i64 0) 1 8 Tryd.underlying25 hi hz0 hz1 hz2 rfl (by decide) W.heap.size W.heap.size (heap_alloc_new W _) (Nat.le_refl _) (by simp) A zs.length c (zs.map (Value.int .i64)) (by simp) hA (fun ad e => by subst e; exact (hZ.below (below_alloc _)).cells) (oneCell_ints zs) (by unfold maxLen; omega) (by omega)
  exact ⟨v', w', hr, ho, (below_alloc _).trans (hb.mono (by simp))⟩
set_option maxRecDepth 100000 in
set_option maxHeartbeats 2000000 in
theorem clone_i (w : World) (A : Option Addr) (n c : Nat) (zs : List Int) (hn : zs.length = n) (hl : n ≤ 1000) (hZ : Ints w w.heap.size A zs) (hA : A = none → n = 0 ∧ c = 0) :
    Calls Tryd.prog 21 #[.slice A n c] w (GotOwn zs w) := by
  subst hn
  rcases A with _ | ad
  · obtain ⟨h0, rfl⟩ := hA rfl
    obtain rfl : zs = [] := List.eq_nil_of_length_eq_zero h0
    clear hZ hA h0
    have hnil := fun W a l c => eql_nil W 25 3 a l c Tryd.underlying25
    go_enter Tryd.func21, Tryd.ntmps21
    go_wp2
    go_ret
    exact ⟨none, 0, rfl, ⟨rfl, .inl ⟨rfl, rfl⟩⟩, Below.refl _ _⟩
  · obtain ⟨v', w1, hr, hO, hB⟩ := new_ints8 w 25 (some ad) c zs hl hZ hA
    obtain ⟨A', c', rfl, _⟩ := hO.slice
    have HO := Lib.hid hO
    have HB := Lib.hid hB
    obtain ⟨n, hn⟩ : ∃ n, n = zs.length := ⟨_, rfl⟩
    unfold GotOwn
    rw [← hn] at hr hl HO ⊢
    clear hZ hA hO hB hn
    have hnil := fun W a l c => eql_nil W 25 3 a l c Tryd.underlying25
    go_enter Tryd.func21, Tryd.ntmps21
    go_wp2_with (at_builtin; refine wpList_append_plain rfl _ _ 25 _ _ rfl rfl rfl hr ?_)
    go_ret
    exact ⟨A', c', rfl, HO.out, HB.out⟩
end Go.Proofs.YtcjmljpfhabmnaaDoor
set_option linter.unusedVariables false
set_option linter.unusedSimpArgs false
namespace Go.Proofs.YtcjmljpfhabmnaaDoor
open Go Go.RowKit

section
variable {A : Option Addr} {n c : Nat} {R : List Int}
/-- What a step hands out: with no error a ring of its own that reads the same. -/
def GotRun (n : Nat) (R : List Int) (s : Int × Int × Int × Tkr) (w : World) (e : Ending) (w' : World) : Prop :=
  ∃ A' n' c', e = .returned (.tuple #[.agg #[.slice A' n' c', .int .i64 s.2.1, .int .i64 s.2.2.1], vT s.2.2.2, .int .i64 s.1]) ∧ OwnI w' w.heap.size (.slice A' n' c') (if s.1 = 0 then R else []) ∧ (if s.1 = 0 then R else []).length = n' ∧ n' ≤ 1000 ∧ Below w.heap.size w w'
/-- The ring that was copied in the meantime: it is the box's now. -/
def rowsC (A : Option Addr) (n c : Nat) (T B : Int) (t : Tkr) (one : Bool) (e : Int) (b : Bool) (v x y : Value) (u : Tkr) : List (TypeId × List Value) :=
  [(27, [.slice A n c, .int .i64 T, .int .i64 B]), (42, cT t), (4, [.bool one]), (27, [v, x, y]), (42, cT u), (32, [.int .i64 e]), (4, [.bool b])]
theorem own_isQ {w : World} {b : Nat} {A : Option Addr} {n c : Nat} {R : List Int} (hu : OwnI w b (.slice A n c) R) (hn : R.length = n) (hl : n ≤ 1000) : IsQ w A n c R :=
  ⟨hn, hl, hu.ints, fun e => by
    subst e
    rcases hu.2 with ⟨hv, _⟩ | ⟨g, cap, cur, hv, _⟩
    · injection hv with _ h1 h2
      exact ⟨h1, h2⟩
    · injection hv with h1
      cases h1⟩
theorem OwnI.setFar {w : World} {base g j : Nat} {v u : Value} {zs : List Int} (h : OwnI w base v zs) (hg : g < base) : OwnI (w.setCell ⟨g, j, none⟩ u) base v zs := by
  unfold OwnI at h ⊢
  refine ⟨h.1, ?_⟩
  rcases h.2 with hn | ⟨g', cap, cur, rfl, hg', hgg, rest⟩
  · exact .inl hn
  · refine .inr ⟨g', cap, cur, rfl, hg', ?_, rest⟩
    rw [heap_setCell_other _ _ _ _ (by show g' ≠ g; omega)]
    exact hgg
set_option maxRecDepth 100000 in
set_option maxHeartbeats 16000000 in
theorem drun_any (T B : Int) (t : Tkr) (one : Bool) (f : Nat) (w : World) (hq : IsQ w A n c R) (hT : DTab w) (hf : Enough one false t f) :
    Calls Tryd.prog 22 #[.agg #[.slice A n c, .int .i64 T, .int .i64 B], vT t, .bool one] w (GotRun n R (goD R one f false T B t) w) := by
  have B0 := Lib.hid (Rws.start w (rowsR A n c T B t one 0 false))
  obtain ⟨w0, hw0⟩ : ∃ w0, w0 = allocs w (rowsR A n c T B t one 0 false) := ⟨_, rfl⟩
  rw [← hw0] at B0
  obtain ⟨S, hS⟩ : ∃ S, S = goD R one f false T B t := ⟨_, rfl⟩
  rw [← hS]
  have CG : Hid (Calls Tryd.prog (if t.steal = true then 27 else 28) #[.pointer (some ⟨w.heap.size, 0, none⟩), .pointer (some ⟨w.heap.size + 1, 0, none⟩), .func (.func 25) #[] #[.pointer (some ⟨w.heap.size, 0, none⟩), .pointer (some ⟨w.heap.size + 1 + 1 + 1 + 1 + 1, 0, none⟩), .pointer (some ⟨w.heap.size + 1 + 1 + 1 + 1 + 1 + 1, 0, none⟩), .pointer (some ⟨w.heap.size + 1 + 1, 0, none⟩), .pointer (some ⟨w.heap.size + 1, 0, none⟩)]] w0 (GoneGo w A n c one S)) := Lib.hid (by
    rw [hS]
    cases hs : t.steal
    · exact dpop_any T B t one false 0 f w w0 hq hT hs hf B0.out
    · exact dsteal_any T B t one false 0 f w w0 hq hT hs hf B0.out)
  obtain ⟨st, a, tp, bt, gt, en⟩ := t
  have HW : Hid (w0 = (((((((w.alloc (.cells #[.slice A n c, .int .i64 T, .int .i64 B] 27)).alloc (.cells #[.bool st, .int .i64 a, .int .i64 tp, .int .i64 bt, .int .i64 gt, .int .i64 en] 42)).alloc (.cells #[.bool one] 4)).alloc (.cells #[.slice none 0 0, .int .i64 0, .int .i64 0] 27)).alloc (.cells #[.bool false, .int .i64 0, .int .i64 0, .int .i64 0, .int .i64 0, .int .i64 0] 42)).alloc (.cells #[.int .i64 0] 32)).alloc (.cells #[.bool false] 4))) := Lib.hid hw0
  have HQ := Lib.hid hq
  have hln := hq.ln
  simp only at CG
  unfold vT
  clear hw0 hS hq hT hf B0
  cases st
  all_goals
    simp only [if_true, Bool.false_eq_true, if_false] at CG
    go_enter Tryd.func22, Tryd.ntmps22
    go_wp2_with fail
    rw [← HW.out]
    refine CG.out.mono ?_
    rintro e w1 ⟨rfl, T1, B1, t1, z, b1, hrw, hS⟩
    have HB := Lib.hid hrw
    have HS := Lib.hid hS
    clear hrw hS CG HW
    obtain ⟨st1, a1, tp1, bt1, gt1, en1⟩ := t1
    have HL1 : Hid (w.heap.size + 6 < w1.heap.size) := Lib.hid (HB.out.row 6 _ _ rfl).lt
    have c00 := HB.out.cell 0 0 rfl rfl
    have zc00 := HB.out.frozen 0 0 rfl
    have c01 := HB.out.cell 0 1 rfl rfl
    have zc01 := HB.out.frozen 0 1 rfl
    have c02 := HB.out.cell 0 2 rfl rfl
    have zc02 := HB.out.frozen 0 2 rfl
    have c10 := HB.out.cell 1 0 rfl rfl
    have zc10 := HB.out.frozen 1 0 rfl
    have c11 := HB.out.cell 1 1 rfl rfl
    have zc11 := HB.out.frozen 1 1 rfl
    have c12 := HB.out.cell 1 2 rfl rfl
    have zc12 := HB.out.frozen 1 2 rfl
    have c13 := HB.out.cell 1 3 rfl rfl
    have zc13 := HB.out.frozen 1 3 rfl
    have c14 := HB.out.cell 1 4 rfl rfl
    have zc14 := HB.out.frozen 1 4 rfl
    have c15 := HB.out.cell 1 5 rfl rfl
    have zc15 := HB.out.frozen 1 5 rfl
    have c20 := HB.out.cell 2 0 rfl rfl
    have zc20 := HB.out.frozen 2 0 rfl
    have c30 := HB.out.cell 3 0 rfl rfl
    have zc30 := HB.out.frozen 3 0 rfl
    have c31 := HB.out.cell 3 1 rfl rfl
    have zc31 := HB.out.frozen 3 1 rfl
    have c32 := HB.out.cell 3 2 rfl rfl
    have zc32 := HB.out.frozen 3 2 rfl
    have c40 := HB.out.cell 4 0 rfl rfl
    have zc40 := HB.out.frozen 4 0 rfl
    have c41 := HB.out.cell 4 1 rfl rfl
    have zc41 := HB.out.frozen 4 1 rfl
    have c42 := HB.out.cell 4 2 rfl rfl
    have zc42 := HB.out.frozen 4 2 rfl
    have c43 := HB.out.cell 4 3 rfl rfl
    have zc43 := HB.out.frozen 4 3 rfl
    have c44 := HB.out.cell 4 4 rfl rfl
    have zc44 := HB.out.frozen 4 4 rfl
    have c45 := HB.out.cell 4 5 rfl rfl
    have zc45 := HB.out.frozen 4 5 rfl
    have c50 := HB.out.cell 5 0 rfl rfl
    have zc50 := HB.out.frozen 5 0 rfl
    have c60 := HB.out.cell 6 0 rfl rfl
    have zc60 := HB.out.frozen 6 0 rfl
    simp only [Nat.add_zero] at c00 c01 c02 zc00 zc01 zc02
    by_cases hz : z = 0
    · subst hz
      have HE : Hid (S = (0, T1, B1, ⟨st1, a1, tp1, bt1, gt1, en1⟩)) := Lib.hid HS.out
      have hq1 := HQ.out.below HB.out.bel
      have CC := Lib.hid (clone_i w1 A n c R HQ.out.hn hln hq1.ints HQ.out.hA)
      have HN := Lib.hid HQ.out.hn
      clear HS HQ hq1
      go_wp2_with fail
      refine CC.out.mono ?_
      rintro e w2 ⟨A2, c2, he, ho, hb2⟩
      rw [HN.out] at he ho
      subst he
      have B2 := Lib.hid (HB.out.next hb2)
      have HO := Lib.hid ho
      have HL2 : Hid (w1.heap.size ≤ w2.heap.size) := Lib.hid hb2.size
      clear HB ho hb2 CC
      clear c00 zc00 c01 zc01 c02 zc02 c10 zc10 c11 zc11 c12 zc12 c13 zc13 c14 zc14 c15 zc15 c20 zc20 c30 zc30 c31 zc31 c32 zc32 c40 zc40 c41 zc41 c42 zc42 c43 zc43 c44 zc44 c45 zc45 c50 zc50 c60 zc60
      have c00 := B2.out.cell 0 0 rfl rfl
      have zc00 := B2.out.frozen 0 0 rfl
      have c01 := B2.out.cell 0 1 rfl rfl
      have zc01 := B2.out.frozen 0 1 rfl
      have c02 := B2.out.cell 0 2 rfl rfl
      have zc02 := B2.out.frozen 0 2 rfl
      have c10 := B2.out.cell 1 0 rfl rfl
      have zc10 := B2.out.frozen 1 0 rfl
      have c11 := B2.out.cell 1 1 rfl rfl
      have zc11 := B2.out.frozen 1 1 rfl
      have c12 := B2.out.cell 1 2 rfl rfl
      have zc12 := B2.out.frozen 1 2 rfl
      have c13 := B2.out.cell 1 3 rfl rfl
      have zc13 := B2.out.frozen 1 3 rfl
      have c14 := B2.out.cell 1 4 rfl rfl
      have zc14 := B2.out.frozen 1 4 rfl
      have c15 := B2.out.cell 1 5 rfl rfl
      have zc15 := B2.out.frozen 1 5 rfl
      have c20 := B2.out.cell 2 0 rfl rfl
      have zc20 := B2.out.frozen 2 0 rfl
      have c30 := B2.out.cell 3 0 rfl rfl
      have zc30 := B2.out.frozen 3 0 rfl
      have c31 := B2.out.cell 3 1 rfl rfl
      have zc31 := B2.out.frozen 3 1 rfl
      have c32 := B2.out.cell 3 2 rfl rfl
      have zc32 := B2.out.frozen 3 2 rfl
      have c40 := B2.out.cell 4 0 rfl rfl
      have zc40 := B2.out.frozen 4 0 rfl
      have c41 := B2.out.cell 4 1 rfl rfl
      have zc41 := B2.out.frozen 4 1 rfl
      have c42 := B2.out.cell 4 2 rfl rfl
      have zc42 := B2.out.frozen 4 2 rfl
      have c43 := B2.out.cell 4 3 rfl rfl
      have zc43 := B2.out.frozen 4 3 rfl
      have c44 := B2.out.cell 4 4 rfl rfl
      have zc44 := B2.out.frozen 4 4 rfl
      have c45 := B2.out.cell 4 5 rfl rfl
      have zc45 := B2.out.frozen 4 5 rfl
      have c50 := B2.out.cell 5 0 rfl rfl
      have zc50 := B2.out.frozen 5 0 rfl
      have c60 := B2.out.cell 6 0 rfl rfl
      have zc60 := B2.out.frozen 6 0 rfl
      simp only [Nat.add_zero] at c00 c01 c02 zc00 zc01 zc02
      have B3 := Lib.hid ((((B2.out.set 0 0 rfl (.slice A2 n c2)).setQ 3 rfl (.slice A2 n c2) (.int .i64 T1) (.int .i64 B1)).setT 4 rfl (.bool st1) (.int .i64 a1) (.int .i64 tp1) (.int .i64 bt1) (.int .i64 gt1) (.int .i64 en1)).drew 1)
      have hl7 : w.heap.size + 6 < w1.heap.size := HL1.out
      have HO2 : Hid (OwnI (((((((((((w2.setCell ⟨w.heap.size, 0, none⟩ (.slice A2 n c2)).setCell ⟨w.heap.size + 3, 0, none⟩ (.slice A2 n c2)).setCell ⟨w.heap.size + 3, 1, none⟩ (.int .i64 T1)).setCell ⟨w.heap.size + 3, 2, none⟩ (.int .i64 B1)).setCell ⟨w.heap.size + 4, 0, none⟩ (.bool st1)).setCell ⟨w.heap.size + 4, 1, none⟩ (.int .i64 a1)).setCell ⟨w.heap.size + 4, 2, none⟩ (.int .i64 tp1)).setCell ⟨w.heap.size + 4, 3, none⟩ (.int .i64 bt1)).setCell ⟨w.heap.size + 4, 4, none⟩ (.int .i64 gt1)).setCell ⟨w.heap.size + 4, 5, none⟩ (.int .i64 en1)).drewN 1) w1.heap.size (.slice A2 n c2) R) := Lib.hid (OwnI.below (((((((((((HO.out.setFar (by omega)).setFar (by omega)).setFar (by omega)).setFar (by omega)).setFar (by omega)).setFar (by omega)).setFar (by omega)).setFar (by omega)).setFar (by omega)).setFar (by omega))) (below_drewN (Below.refl _ _) 1))
      have HLW : Hid (w.heap.size ≤ w1.heap.size) := Lib.hid (by omega)
      clear hl7
      go_wp2
      go_region
      all_goals go_wp2
      all_goals refine bodyPost_ret (ret_qte rfl rfl rfl rfl (B3.out.row 3 _ _ rfl) rfl (B3.out.row 4 _ _ rfl) rfl) rfl ⟨A2, n, c2, by rw [HE.out]; rfl, by rw [HE.out, if_pos rfl]; exact OwnI.down HO2.out HLW.out, by rw [HE.out, if_pos rfl]; exact HN.out, hln, B3.out.bel⟩
    · have HE : Hid (S = (z, 0, 0, newTk false)) := Lib.hid (by rw [HS.out, if_neg hz])
      have hzb : (z != 0) = true := bne_iff_ne.mpr hz
      have HZ := Lib.hid hz
      clear HS hz HQ
      have B3 := Lib.hid (((HB.out.setQ 3 rfl (.slice none 0 0) (.int .i64 0) (.int .i64 0)).setT 4 rfl (.bool false) (.int .i64 0) (.int .i64 0) (.int .i64 0) (.int .i64 0) (.int .i64 0)).drew 1)
      clear HB
      go_wp2
      go_region
      all_goals go_wp2
      all_goals refine bodyPost_ret (ret_qte rfl rfl rfl rfl (B3.out.row 3 _ _ rfl) rfl (B3.out.row 4 _ _ rfl) rfl) rfl ⟨none, 0, 0, by rw [HE.out]; rfl, by rw [HE.out, if_neg HZ.out]; exact ⟨rfl, .inl ⟨rfl, rfl⟩⟩, by rw [HE.out, if_neg HZ.out]; rfl, by decide, B3.out.bel⟩
set_option maxHeartbeats 4000000 in
theorem dstep_any (T B : Int) (t : Tkr) (w : World) (hq : IsQ w A n c R) (hT : DTab w) :
    Calls Tryd.prog 14 #[.agg #[.slice A n c, .int .i64 T, .int .i64 B], vT t] w (GotRun n R (stepQ R T B t) w) := by
  have B0 := Lib.hid (Rws.start w [(27, [.slice A n c, .int .i64 T, .int .i64 B]), (42, cT t), (27, [.slice none 0 0, .int .i64 0, .int .i64 0]), (42, cT (newTk false))])
  obtain ⟨w0, hw0⟩ : ∃ w0, w0 = allocs w [(27, [.slice A n c, .int .i64 T, .int .i64 B]), (42, cT t), (27, [.slice none 0 0, .int .i64 0, .int .i64 0]), (42, cT (newTk false))] := ⟨_, rfl⟩
  rw [← hw0] at B0
  have CR := Lib.hid (drun_any T B t true 2 w0 (hq.below B0.out.bel) (hT.via B0.out.bel) ⟨by decide, .inl ⟨rfl, fun _ => Nat.le_refl _⟩⟩)
  rw [go_step] at CR
  obtain ⟨s, hs⟩ : ∃ s, s = stepQ R T B t := ⟨_, rfl⟩
  rw [← hs] at CR ⊢
  obtain ⟨st, a, tp, bt, gt, en⟩ := t
  have HW : Hid (w0 = ((((w.alloc (.cells #[.slice A n c, .int .i64 T, .int .i64 B] 27)).alloc (.cells #[.bool st, .int .i64 a, .int .i64 tp, .int .i64 bt, .int .i64 gt, .int .i64 en] 42)).alloc (.cells #[.slice none 0 0, .int .i64 0, .int .i64 0] 27)).alloc (.cells #[.bool false, .int .i64 0, .int .i64 0, .int .i64 0, .int .i64 0, .int .i64 0] 42))) := Lib.hid hw0
  obtain ⟨z, T2, B2, st2, a2, tp2, bt2, gt2, en2⟩ := s
  unfold GotRun vT at CR
  unfold vT
  clear hq hT hw0 hs
  go_enter Tryd.func14, Tryd.ntmps14
  go_wp2_with fail
  rw [← HW.out]
  refine CR.out.mono ?_
  rintro e w1 ⟨A', n', c', rfl, ho, hn2, hl2, hb1⟩
  have B1 := Lib.hid (B0.out.next hb1)
  have HO := Lib.hid ho
  have HN := Lib.hid hn2
  have HS0 : Hid (w0.heap.size = w.heap.size + 4) := Lib.hid (by rw [HW.out]; simp)
  clear hb1 ho hn2 B0 CR HW
  have c00 := B1.out.cell 0 0 rfl rfl
  have zc00 := B1.out.frozen 0 0 rfl
  have c01 := B1.out.cell 0 1 rfl rfl
  have zc01 := B1.out.frozen 0 1 rfl
  have c02 := B1.out.cell 0 2 rfl rfl
  have zc02 := B1.out.frozen 0 2 rfl
  have c10 := B1.out.cell 1 0 rfl rfl
  have zc10 := B1.out.frozen 1 0 rfl
  have c11 := B1.out.cell 1 1 rfl rfl
  have zc11 := B1.out.frozen 1 1 rfl
  have c12 := B1.out.cell 1 2 rfl rfl
  have zc12 := B1.out.frozen 1 2 rfl
  have c13 := B1.out.cell 1 3 rfl rfl
  have zc13 := B1.out.frozen 1 3 rfl
  have c14 := B1.out.cell 1 4 rfl rfl
  have zc14 := B1.out.frozen 1 4 rfl
  have c15 := B1.out.cell 1 5 rfl rfl
  have zc15 := B1.out.frozen 1 5 rfl
  have c20 := B1.out.cell 2 0 rfl rfl
  have zc20 := B1.out.frozen 2 0 rfl
  have c21 := B1.out.cell 2 1 rfl rfl
  have zc21 := B1.out.frozen 2 1 rfl
  have c22 := B1.out.cell 2 2 rfl rfl
  have zc22 := B1.out.frozen 2 2 rfl
  have c30 := B1.out.cell 3 0 rfl rfl
  have zc30 := B1.out.frozen 3 0 rfl
  have c31 := B1.out.cell 3 1 rfl rfl
  have zc31 := B1.out.frozen 3 1 rfl
  have c32 := B1.out.cell 3 2 rfl rfl
  have zc32 := B1.out.frozen 3 2 rfl
  have c33 := B1.out.cell 3 3 rfl rfl
  have zc33 := B1.out.frozen 3 3 rfl
  have c34 := B1.out.cell 3 4 rfl rfl
  have zc34 := B1.out.frozen 3 4 rfl
  have c35 := B1.out.cell 3 5 rfl rfl
  have zc35 := B1.out.frozen 3 5 rfl
  simp only [Nat.add_zero] at c00 c01 c02 zc00 zc01 zc02
  have B3 := Lib.hid ((B1.out.setQ 2 rfl (.slice A' n' c') (.int .i64 T2) (.int .i64 B2)).setT 3 rfl (.bool st2) (.int .i64 a2) (.int .i64 tp2) (.int .i64 bt2) (.int .i64 gt2) (.int .i64 en2))
  have HO3 : Hid (OwnI (((((((((w1.setCell ⟨w.heap.size + 2, 0, none⟩ (.slice A' n' c')).setCell ⟨w.heap.size + 2, 1, none⟩ (.int .i64 T2)).setCell ⟨w.heap.size + 2, 2, none⟩ (.int .i64 B2)).setCell ⟨w.heap.size + 3, 0, none⟩ (.bool st2)).setCell ⟨w.heap.size + 3, 1, none⟩ (.int .i64 a2)).setCell ⟨w.heap.size + 3, 2, none⟩ (.int .i64 tp2)).setCell ⟨w.heap.size + 3, 3, none⟩ (.int .i64 bt2)).setCell ⟨w.heap.size + 3, 4, none⟩ (.int .i64 gt2)).setCell ⟨w.heap.size + 3, 5, none⟩ (.int .i64 en2)) w.heap.size (.slice A' n' c') (if z = 0 then R else [])) := Lib.hid (OwnI.down (((((((((HO.out.setFar (by have := HS0.out; omega)).setFar (by have := HS0.out; omega)).setFar (by have := HS0.out; omega)).setFar (by have := HS0.out; omega)).setFar (by have := HS0.out; omega)).setFar (by have := HS0.out; omega)).setFar (by have := HS0.out; omega)).setFar (by have := HS0.out; omega)).setFar (by have := HS0.out; omega)) (by have := HS0.out; omega))
  go_wp2
  refine bodyPost_ret (ret_qte rfl rfl rfl rfl (B3.out.row 2 _ _ rfl) rfl (B3.out.row 3 _ _ rfl) rfl) rfl ⟨A', n', c', rfl, HO3.out, HN.out, hl2, B3.out.bel⟩
set_option maxHeartbeats 4000000 in
theorem dtake_any (T B : Int) (st : Bool) (w : World) (hq : IsQ w A n c R) (hT : DTab w) :
    Calls Tryd.prog 13 #[.agg #[.slice A n c, .int .i64 T, .int .i64 B], .bool st] w (GotRun n R (takeQ R T B st) w) := by
  have B0 := Lib.hid (Rws.start w [(27, [.slice A n c, .int .i64 T, .int .i64 B]), (27, [.slice none 0 0, .int .i64 0, .int .i64 0]), (42, cT (newTk false))])
  obtain ⟨w0, hw0⟩ : ∃ w0, w0 = allocs w [(27, [.slice A n c, .int .i64 T, .int .i64 B]), (27, [.slice none 0 0, .int .i64 0, .int .i64 0]), (42, cT (newTk false))] := ⟨_, rfl⟩
  rw [← hw0] at B0
  have CR := Lib.hid (drun_any T B (newTk st) false 7 w0 (hq.below B0.out.bel) (hT.via B0.out.bel) ⟨by decide, .inr ⟨rfl, Nat.le_refl _⟩⟩)
  rw [go_take] at CR
  obtain ⟨s, hs⟩ : ∃ s, s = takeQ R T B st := ⟨_, rfl⟩
  rw [← hs] at CR ⊢
  have HW : Hid (w0 = (((w.alloc (.cells #[.slice A n c, .int .i64 T, .int .i64 B] 27)).alloc (.cells #[.slice none 0 0, .int .i64 0, .int .i64 0] 27)).alloc (.cells #[.bool false, .int .i64 0, .int .i64 0, .int .i64 0, .int .i64 0, .int .i64 0] 42))) := Lib.hid hw0
  obtain ⟨z, T2, B2, st2, a2, tp2, bt2, gt2, en2⟩ := s
  unfold GotRun vT newTk at CR
  clear hq hT hw0 hs
  go_enter Tryd.func13, Tryd.ntmps13
  go_wp2_with fail
  rw [← HW.out]
  refine CR.out.mono ?_
  rintro e w1 ⟨A', n', c', rfl, ho, hn2, hl2, hb1⟩
  have B1 := Lib.hid (B0.out.next hb1)
  have HO := Lib.hid ho
  have HN := Lib.hid hn2
  have HS0 : Hid (w0.heap.size = w.heap.size + 3) := Lib.hid (by rw [HW.out]; simp)
  clear hb1 ho hn2 B0 CR HW
  have c00 := B1.out.cell 0 0 rfl rfl
  have zc00 := B1.out.frozen 0 0 rfl
  have c01 := B1.out.cell 0 1 rfl rfl
  have zc01 := B1.out.frozen 0 1 rfl
  have c02 := B1.out.cell 0 2 rfl rfl
  have zc02 := B1.out.frozen 0 2 rfl
  have c10 := B1.out.cell 1 0 rfl rfl
  have zc10 := B1.out.frozen 1 0 rfl
  have c11 := B1.out.cell 1 1 rfl rfl
  have zc11 := B1.out.frozen 1 1 rfl
  have c12 := B1.out.cell 1 2 rfl rfl
  have zc12 := B1.out.frozen 1 2 rfl
  have c20 := B1.out.cell 2 0 rfl rfl
  have zc20 := B1.out.frozen 2 0 rfl
  have c21 := B1.out.cell 2 1 rfl rfl
  have zc21 := B1.out.frozen 2 1 rfl
  have c22 := B1.out.cell 2 2 rfl rfl
  have zc22 := B1.out.frozen 2 2 rfl
  have c23 := B1.out.cell 2 3 rfl rfl
  have zc23 := B1.out.frozen 2 3 rfl
  have c24 := B1.out.cell 2 4 rfl rfl
  have zc24 := B1.out.frozen 2 4 rfl
  have c25 := B1.out.cell 2 5 rfl rfl
  have zc25 := B1.out.frozen 2 5 rfl
  simp only [Nat.add_zero] at c00 c01 c02 zc00 zc01 zc02
  have B3 := Lib.hid ((B1.out.setQ 1 rfl (.slice A' n' c') (.int .i64 T2) (.int .i64 B2)).setT 2 rfl (.bool st2) (.int .i64 a2) (.int .i64 tp2) (.int .i64 bt2) (.int .i64 gt2) (.int .i64 en2))
  have HO3 : Hid (OwnI (((((((((w1.setCell ⟨w.heap.size + 1, 0, none⟩ (.slice A' n' c')).setCell ⟨w.heap.size + 1, 1, none⟩ (.int .i64 T2)).setCell ⟨w.heap.size + 1, 2, none⟩ (.int .i64 B2)).setCell ⟨w.heap.size + 2, 0, none⟩ (.bool st2)).setCell ⟨w.heap.size + 2, 1, none⟩ (.int .i64 a2)).setCell ⟨w.heap.size + 2, 2, none⟩ (.int .i64 tp2)).setCell ⟨w.heap.size + 2, 3, none⟩ (.int .i64 bt2)).setCell ⟨w.heap.size + 2, 4, none⟩ (.int .i64 gt2)).setCell ⟨w.heap.size + 2, 5, none⟩ (.int .i64 en2)) w.heap.size (.slice A' n' c') (if z = 0 then R else [])) := Lib.hid (OwnI.down (((((((((HO.out.setFar (by have := HS0.out; omega)).setFar (by have := HS0.out; omega)).setFar (by have := HS0.out; omega)).setFar (by have := HS0.out; omega)).setFar (by have := HS0.out; omega)).setFar (by have := HS0.out; omega)).setFar (by have := HS0.out; omega)).setFar (by have := HS0.out; omega)).setFar (by have := HS0.out; omega)) (by have := HS0.out; omega))
  go_wp2
  refine bodyPost_ret (ret_qte rfl rfl rfl rfl (B3.out.row 1 _ _ rfl) rfl (B3.out.row 2 _ _ rfl) rfl) rfl ⟨A', n', c', rfl, HO3.out, HN.out, hl2, B3.out.bel⟩
end
end Go.Proofs.YtcjmljpfhabmnaaDoor
set_option linter.unusedVariables false
namespace Go.Proofs.YtcjmljpfhabmnaaDoor
open Go.RowKit

theorem info_partsS {P : Program} {t : TypeId} {z : Value} {s b : Nat} (h : (P.info? t).map (fun i => (i.zero, i.size, i.bytes)) = some (some z, s, b)) : ∃ i, P.info? t = some i ∧ i.zero = some z ∧ i.size = s ∧ i.bytes = b := by
  cases hi : P.info? t with
  | none => rw [hi] at h; cases h
  | some i =>
    rw [hi] at h
    simp at h
    exact ⟨i, rfl, h.1, h.2.1, h.2.2⟩
/-- New blocks, or one row of elements of type t (from base on) that grows. -/
def RXs (t : TypeId) (base : Nat) (row : Option Nat) (w w' : World) : Prop :=
  Below w.heap.size w w' ∨ (w.grownBy w' row ∧ ∀ b, row = some b → base ≤ b ∧ ∃ cs fr, w.heap[b]? = some (.cells cs t fr))
theorem RXs.size {t : TypeId} {base : Nat} {row : Option Nat} {w w' : World} (h : RXs t base row w w') : w.heap.size ≤ w'.heap.size := by
  rcases h with h | ⟨h, _⟩
  · exact h.size
  · exact h.size
theorem RXs.heap {u : TypeId} {base : Nat} {row : Option Nat} {w w' : World} (h : RXs u base row w w') {k : Nat} {cs : Array Value} {t : TypeId} {fr : Nat × Nat} (hk : w.heap[k]? = some (.cells cs t fr)) (ht : t ≠ u) : w'.heap[k]? = some (.cells cs t fr) := by
  have hlt : k < w.heap.size := (Array.getElem?_eq_some_iff.1 hk).1
  rcases h with h | ⟨h, h2⟩
  · rw [h.block k hlt]; exact hk
  · rw [h.block k hlt (fun e => by
      obtain ⟨_, cs', fr', h3⟩ := h2 k e.symm
      rw [hk] at h3
      injection h3 with h3
      injection h3 with _ h4 _
      exact ht h4)]
    exact hk
theorem RXs.own {u : TypeId} {base base' : Nat} {row : Option Nat} {w w' : World} (h : RXs u base row w w') {t : TypeId} {s n : Nat} {v : Value} {xs : List Value} (ho : w.ownsRow base' t s v n xs) (ht : t ≠ u) : w'.ownsRow base' t s v n xs := by
  refine ⟨ho.1, ?_⟩
  rcases ho.2 with hn | ⟨g, cap, cur, rfl, hg, hgg, rest⟩
  · exact .inl hn
  · exact .inr ⟨g, cap, cur, rfl, hg, h.heap hgg ht, rest⟩
theorem RXs.below {t : TypeId} {base : Nat} {row : Option Nat} {w w' : World} (h : RXs t base row w w') (hb : base ≤ w.heap.size) : Below base w w' := by
  rcases h with h | ⟨h, h2⟩
  · exact h.mono hb
  · refine ⟨h.os, h.tape, h.output, h.size, fun k hk => h.block k (by omega) (fun e => ?_)⟩
    have := (h2 k e.symm).1
    omega
/-- One new element of type t, in a block of its own. -/
def OwnXs (t : TypeId) (row : Option Nat) (news : List Value) (v : Value) (w : World) : Prop :=
  ∃ h, v = .slice (some ⟨h, 0, none⟩) 1 1 ∧ w.heap[h]? = some (.cells news.toArray t (0, 0)) ∧ row ≠ some h
theorem OwnXs.rx {t u : TypeId} {base : Nat} {row : Option Nat} {news : List Value} {v : Value} {w w' : World} (h : OwnXs t row news v w) (hr : RXs u base row w w') : OwnXs t row news v w' := by
  obtain ⟨k, e, hk, hne⟩ := h
  have hlt : k < w.heap.size := (Array.getElem?_eq_some_iff.1 hk).1
  refine ⟨k, e, ?_, hne⟩
  rcases hr with hr | ⟨hr, _⟩
  · rw [hr.block k hlt]; exact hk
  · rw [hr.block k hlt (fun e => hne e.symm)]; exact hk
theorem row_lts {w : World} {base : Nat} {t : TypeId} {s n : Nat} {v : Value} {xs : List Value} (h : w.ownsRow base t s v n xs) : ∀ b, v.ownBlock = some b → base ≤ b ∧ b < w.heap.size ∧ ∃ cs fr, w.heap[b]? = some (.cells cs t fr) := by
  intro b hb
  rcases h.2 with ⟨rfl, _⟩ | ⟨g, cap, cur, rfl, hg, hgg, _⟩
  · simp [Value.ownBlock] at hb
  · obtain rfl : g = b := by simpa [Value.ownBlock] using hb
    exact ⟨hg, (Array.getElem?_eq_some_iff.1 hgg).1, _, _, hgg⟩
/-- What a row of that many elements, one more, has become. -/
def Grews (t : TypeId) (base s n : Nat) (xs : List Value) (v : Value) (w : World) : Prop := ∃ F d, v = .slice F n d ∧ w.ownsRow base t s (.slice F n d) n xs
theorem Grews.below {t : TypeId} {base s n : Nat} {xs : List Value} {v : Value} {w w' : World} (h : Grews t base s n xs v w) (hb : Below w.heap.size w w') : Grews t base s n xs v w' := by
  obtain ⟨F, d, e, ho⟩ := h
  exact ⟨F, d, e, own_below ho hb⟩
theorem ownXs_append {w : World} {base : Nat} {t tl : TypeId} {s bytes n : Nat} {z u v : Value} {xs news : List Value} (hu : Tryd.prog.underlying tl = some (.slice t)) (hinf : (Tryd.prog.info? t).map (fun i => (i.zero, i.size, i.bytes)) = some (some z, s, bytes)) (hzs : z.cells.size = s) (hs0 : 0 < s) (hby : bytes ≤ 48)
    (hO : w.ownsRow base t s u n xs) (hE : OwnXs t u.ownBlock news v w) (hs : news.length = s) (h1 : ∀ x ∈ news, x.oneCell' = true) (hl : n ≤ 1000) (hb : base ≤ w.heap.size) :
    ∃ v' w', (Builtin.append_ #[tl, tl] tl #[u, v]).run Tryd.prog w = .ok v' w' ∧ Grews t base s (n + 1) (xs ++ news) v' w' ∧ RXs t base u.ownBlock w w' ∧ ∀ k, v'.ownBlock = some k → u.ownBlock = some k ∨ w.heap.size ≤ k := by
  obtain ⟨h, rfl, hh, hne⟩ := hE
  obtain ⟨i0, hi0, hz0, hz1, hz2⟩ := info_partsS hinf
  have hlt := row_lts hO
  obtain ⟨g, cap, w', hr, how, hg, hat, hgl⟩ := run_append_lies (P := Tryd.prog) w tl tl base t i0 z s bytes hu hi0 hz0 hz1 hz2 hzs hs0 u n xs hO
    ⟨h, 0, none⟩ 1 1 news (by rw [hs, Nat.one_mul]) (fun j x hx => World.news_of_block hh j x (by simpa using hx)) h1 (by omega) (by unfold maxLen; omega) (by have : (n + 1) * bytes ≤ 1001 * 48 := Nat.mul_le_mul (by omega) hby; omega) hb _ rfl
  exact ⟨_, w', hr, ⟨_, _, rfl, how⟩, .inr ⟨hg, fun b hb' => ⟨(hlt b hb').1, (hlt b hb').2.2⟩⟩, fun k hk => by
    obtain rfl : g = k := by simpa [Value.ownBlock] using hk
    rcases hat with h | h
    · exact .inl h
    · exact .inr (by omega)⟩
theorem wpList_append_runs {P : Program} {ops : Array Oper} {rest : List Oper} {o : Oper} {a : Act} {Q : Exit → Act → World → Prop} {w w' : World} {v : Value} (hgd : o.guard = none) (s x : Operand) (t : TypeId) (vs vx : Value)
    (ho : o.op = .call { callee := .builtin .append, args := #[s, x], argTypes := #[t, t] }) (hs : a.eval s = vs) (hx : a.eval x = vx) (hr : (Builtin.append_ #[t, t] o.type #[vs, vx]).run P w = .ok v w')
    (h : wpList P ops Q rest (a.put o.dst v) w') : wpList P ops Q (o :: rest) a w := by
  refine wpList_plain hgd fun K hK => ?_
  unfold Oper.wp execOp
  simp only [ho, resolve, invoke, builtin, Sem.run_bind, Sem.run_pure, Result.andThen_ok, List.map_toArray, List.map_cons, List.map_nil, hs, hx, hr]
  exact hK _ _ h
/-- 'append(l, e)': e lies in a block of its own, laid just ahead. -/
theorem wpList_pushXs {ops : Array Oper} {rest : List Oper} {o : Oper} {a : Act} {Q : Exit → Act → World → Prop} (hgd : o.guard = none) (s x : Operand) (t tl : TypeId) (size bytes : Nat) (z : Value) (hu : Tryd.prog.underlying tl = some (.slice t))
    (hinf : (Tryd.prog.info? t).map (fun i => (i.zero, i.size, i.bytes)) = some (some z, size, bytes)) (hzs : z.cells.size = size) (hs0 : 0 < size) (hby : bytes ≤ 48) (hty : o.type = tl)
    (ho : o.op = .call { callee := .builtin .append, args := #[s, x], argTypes := #[tl, tl] }) (w1 : World) (base n : Nat) (u : Value) (xs news : List Value) (hO : w1.ownsRow base t size u n xs) (hn : news.length = size) (h1 : ∀ x ∈ news, x.oneCell' = true) (hl : n ≤ 1000) (hb : base ≤ w1.heap.size)
    (hs : a.eval s = u) (hx : a.eval x = .slice (some ⟨w1.heap.size, 0, none⟩) 1 1)
    (h : ∀ F d w', w'.ownsRow base t size (.slice F (n + 1) d) (n + 1) (xs ++ news) → RXs t base u.ownBlock w1 w' → (∀ k, (Value.slice F (n + 1) d).ownBlock = some k → u.ownBlock = some k ∨ w1.heap.size ≤ k) → wpList Tryd.prog ops Q rest (a.put o.dst (.slice F (n + 1) d)) w') :
    wpList Tryd.prog ops Q (o :: rest) a (w1.alloc (.cells news.toArray t)) := by
  have hE : OwnXs t u.ownBlock news (.slice (some ⟨w1.heap.size, 0, none⟩) 1 1) (w1.alloc (.cells news.toArray t)) := ⟨w1.heap.size, rfl, heap_alloc_new w1 _, fun e => by have := (row_lts hO _ e).2.1; omega⟩
  obtain ⟨v', w', hr, ⟨F, d, rfl, ho'⟩, hR, hat⟩ := ownXs_append (tl := tl) hu hinf hzs hs0 hby (own_below hO (below_alloc _)) hE hn h1 hl (by simp; omega)
  have hR' : RXs t base u.ownBlock w1 w' := by
    rcases hR with hR | ⟨hg, h2⟩
    · exact .inl ((below_alloc _).trans (hR.mono (by simp)))
    · refine .inr ⟨⟨hg.os, hg.tape, hg.output, Nat.le_trans (by simp) hg.size, fun k hk hne => ?_⟩, fun b hb' => ⟨(h2 b hb').1, (row_lts hO b hb').2.2⟩⟩
      rw [hg.block k (by simp; omega) hne]
      exact (below_alloc _).block k hk
  exact wpList_append_runs hgd s x tl u _ ho hs hx (by rw [hty]; exact hr) (h F d w' ho' hR' (fun k hk => (hat k hk).imp id (fun h => by simp at h; omega)))
end Go.Proofs.YtcjmljpfhabmnaaDoor
namespace Go.Proofs.YtcjmljpfhabmnaaDoor
open Go Go.RowKit
section
variable {P : Program} {Q : Exit → Act → World → Prop}
/-- An operation that makes memory. -/
theorem fx_make {o : Oper} {a : Act} {w : World} {k : Nat} {Φ : Nat → Value → World → Prop} {K : Act → World → Prop} (hK : ∀ v w', Φ k v w' → Below w.heap.size w w' → K (a.put o.dst v) w') {ρ : Operand → Value} (hρ : a.eval = ρ) (v : Value) (w' : World) (hr : (execOp ρ o).run P w = .ok (.value v) w') (hv : Φ k v w') (hb : Below w.heap.size w w') : o.wp P a w K Q := by
  subst hρ
  unfold Oper.wp
  rw [hr, Oper.upon_value]
  exact hK v w' hv hb
end
end Go.Proofs.YtcjmljpfhabmnaaDoor
