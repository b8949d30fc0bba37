/- The walk of EvalOps in the seat YtecjpclkiiaidaaGreatDoor. No statement is proved here. -/
import Derived.Test.YtecjpclkiiaidaaGreatDoorZEvalAwake
import Derived.Test.YtecjpclkiiaidaaGreatDoorZM30
import Derived.Test.YtecjpclkiiaidaaGreatDoorZM26
set_option linter.unusedSimpArgs false
set_option linter.unusedVariables false
namespace Go.Proofs.YtecjpclkiiaidaaGreatDoor
open Go.RowKit

/-- An operation that yields, and makes new blocks. -/
theorem fx_run {P : Program} {o : Oper} {a : Act} {w w' : World} {k : Nat} {Φ : Nat → Value → World → Prop} {K : Act → World → Prop} {Q : Exit → Act → World → Prop} (hK : ∀ v w', Φ k v w' → Below w.heap.size w w' → K (a.put o.dst v) w') {ρ : Operand → Value} (hρ : a.eval = ρ) (v : Value) (hr : (execOp ρ o).run P w = .ok (.value v) w') (hv : Φ k v w') (hb : Below w.heap.size w w') : o.wp P a w K Q := by
  subst hρ
  unfold Oper.wp
  rw [hr, Oper.upon_value]
  exact hK v w' hv hb
def OpsF (base : Nat) (op arg wk : Int) (inp : List Int) (A : Option Addr) (n c : Nat) (F : Option Addr) (m d : Nat) (vals : List Int) (z : Int) : Nat → Value → World → Prop
  | 0, v, _ => v = .agg #[.int .i64 op, .int .i64 arg, .int .i64 wk]
  | 1, v, w => NewRow 3 w base v
  | 2, v, _ => v = .slice A n c
  | 3, v, w => ∃ A' c', v = .slice A' n c' ∧ OwnI w base (.slice A' n c') inp
  | 4, v, w => NewRow 3 w base v
  | 5, v, _ => v = .slice F m d
  | 6, v, w => ∃ A' c', v = .slice A' m c' ∧ OwnI w base (.slice A' m c') vals
  | 7, v, _ => v = .int .i64 z
  | 8, v, _ => v = .int .i64 z
  | _, _, _ => True
theorem opsF_below {base : Nat} {op arg wk : Int} {inp : List Int} {A : Option Addr} {n c : Nat} {F : Option Addr} {m d : Nat} {vals : List Int} {z : Int} : ∀ q v w w', OpsF base op arg wk inp A n c F m d vals z q v w → Below w.heap.size w w' → OpsF base op arg wk inp A n c F m d vals z q v w'
  | 0, _, _, _, h, _ | 2, _, _, _, h, _ | 5, _, _, _, h, _ | 7, _, _, _, h, _ | 8, _, _, _, h, _ => h
  | 1, _, _, _, h, hb => NewRow.below h hb
  | 4, _, _, _, h, hb => NewRow.below h hb
  | 3, _, _, _, ⟨A', c', h1, h2⟩, hb => ⟨A', c', h1, OwnI.below h2 hb⟩
  | 6, _, _, _, ⟨A', c', h1, h2⟩, hb => ⟨A', c', h1, OwnI.below h2 hb⟩
  | _ + 9, _, _, _, _, _ => trivial
section
variable {Ai : Option Addr} {ni ci : Nat} {inp : List Int} {F : Option Addr} {m d : Nat} {vals : List Int}
theorem BxO.start {w : World} (op arg wk : Int) (hi : Ints w w.heap.size Ai inp) (hv : Ints w w.heap.size F vals) : BxO w op arg wk Ai inp F vals (w.alloc (.cells #[.int .i64 op, .int .i64 arg, .int .i64 wk] 24)) :=
  ⟨below_alloc _, heap_alloc_new w _, (hi.below (below_alloc _)).more (below_alloc _).size, (hv.below (below_alloc _)).more (below_alloc _).size⟩
set_option maxRecDepth 100000 in
set_option maxHeartbeats 8000000 in
theorem ops_many (w : World) (op arg wk : Int) (hi : InI w Ai ni ci inp) (hv : InI w F m d vals) (hT : DTab w) (h : 60 < ni ∨ (ni ≤ 60 ∧ 60 < m)) :
    Calls Tryz.prog 3 #[.agg #[.int .i64 op, .int .i64 arg, .int .i64 wk], .slice Ai ni ci, .slice F m d] w fun z w' => z = .returned (.bool true) ∧ Below w.heap.size w w' := by
  have HTW := Lib.hid (fun W (h : Below w.heap.size w W) => DTab.via hT h)
  have B0 := Lib.hid (BxO.start op arg wk hi.ints hv.ints)
  clear hi hv hT
  rcases h with h | ⟨h1, h2⟩
  · have g1 : decide ((60 : Int) < (ni : Int)) = true := decide_eq_true (by omega)
    have g2 : decide (60 < ni) = true := decide_eq_true h
    go_enter Tryz.func3, Tryz.ntmps3
    go_wp2_with fail
    refine (awakeE_any _ (HTW.out _ B0.out.bel)).mono ?_
    rintro e w1 ⟨rfl, b1⟩
    have B1 := Lib.hid (B0.out.next b1)
    clear b1
    go_wp2_with fail
    refine (awakeE_any _ (HTW.out _ B1.out.bel)).mono ?_
    rintro e w2 ⟨rfl, b2⟩
    have B2 := Lib.hid (B1.out.next b2)
    clear b2
    go_wp2_with fail
    go_ret
    exact ⟨rfl, B2.out.bel⟩
  · have g1 : decide ((60 : Int) < (ni : Int)) = false := decide_eq_false (by omega)
    have g2 : decide (60 < ni) = false := decide_eq_false (by omega)
    have g3 : decide ((60 : Int) < (m : Int)) = true := decide_eq_true (by omega)
    have g4 : decide (60 < m) = true := decide_eq_true h2
    go_enter Tryz.func3, Tryz.ntmps3
    go_wp2_with fail
    refine (awakeE_any _ (HTW.out _ B0.out.bel)).mono ?_
    rintro e w1 ⟨rfl, b1⟩
    have B1 := Lib.hid (B0.out.next b1)
    clear b1
    go_wp2_with fail
    refine (awakeE_any _ (HTW.out _ B1.out.bel)).mono ?_
    rintro e w2 ⟨rfl, b2⟩
    have B2 := Lib.hid (B1.out.next b2)
    clear b2
    go_wp2_with fail
    go_ret
    exact ⟨rfl, B2.out.bel⟩
set_option maxRecDepth 100000 in
set_option maxHeartbeats 16000000 in
theorem ops_few (w : World) (op arg wk : Int) (ha : -9223372036854775808 ≤ arg ∧ arg ≤ 9223372036854775807) (hi : InI w Ai ni ci inp) (hv : InI w F m d vals) (hT : DTab w) (li : ni ≤ 60) (lv : m ≤ 60) :
    Calls Tryz.prog 3 #[.agg #[.int .i64 op, .int .i64 arg, .int .i64 wk], .slice Ai ni ci, .slice F m d] w fun z w' => z = .returned (.bool true) ∧ Below w.heap.size w w' := by
  obtain ⟨i0, hi0, hz0, hz1, hz2⟩ := info_parts5 int_cell_info
  have HTW := Lib.hid (fun W (h : Below w.heap.size w W) => DTab.via hT h)
  have B0 := Lib.hid (BxO.start op arg wk hi.ints hv.ints)
  have HN := Lib.hid hi.hn
  have HM := Lib.hid hv.hn
  have HAI := Lib.hid hi.hA
  have HAV := Lib.hid hv.hA
  have hzb := comeV_in op arg inp vals
  obtain ⟨z, hz⟩ : ∃ z, z = comeV op arg inp vals := ⟨_, rfl⟩
  rw [← hz] at hzb
  have HZ := Lib.hid hz
  have g1 : decide ((60 : Int) < (ni : Int)) = false := decide_eq_false (by omega)
  have g2 : decide (60 < ni) = false := decide_eq_false (by omega)
  have g3 : decide ((60 : Int) < (m : Int)) = false := decide_eq_false (by omega)
  have g4 : decide (60 < m) = false := decide_eq_false (by omega)
  clear hi hv hT hz
  go_enter Tryz.func3, Tryz.ntmps3
  go_wp2_with fail
  refine (awakeE_any _ (HTW.out _ B0.out.bel)).mono ?_
  rintro e w1 ⟨rfl, b1⟩
  have B1 := Lib.hid (B0.out.next b1)
  clear b1 B0
  go_wp2_with fail
  clear g1 g2 g3 g4
  refine wp_region_facts' [21, 22, 23, 24, 25, 26, 27, 28, 7] [] [] (by kernel_rfl) (by kernel_rfl) (by kernel_rfl) (by intro d hd; simp at hd ⊢; omega) (fun y => BxO w op arg wk Ai inp F vals y ∧ Below w1.heap.size w1 y) (OpsF w1.heap.size op arg wk inp Ai ni ci F m d vals z)
    (fun x y h hb => ⟨h.1.next hb, h.2.trans (hb.mono h.2.size)⟩) opsF_below ⟨B1.out.next (Below.refl _ _).drew, (Below.refl _ _).drew⟩ (fun p hp => by simp at hp) (fun kq hkq => by simp at hkq) ?hstep ?hend
  case hstep =>
    intro kq o ho hw a y hI hA hd K hK
    obtain ⟨ρ, hρ⟩ : ∃ ρ, a.eval = ρ := ⟨_, rfl⟩
    rw [hρ] at hA hd
    have hgt := hI.2.size
    match kq, ho with
    | 0, ho =>
      have hoo := Option.some.inj ho
      subst hoo
      exact fx_val hK hρ _ (by have h := hA.tmp 3 (by decide); have c0 := cell_of_row y _ 0 _ _ _ hI.1.r; have c1 := cell_of_row y _ 1 _ _ _ hI.1.r; have c2 := cell_of_row y _ 2 _ _ _ hI.1.r; simp at c0 c1 c2; simp [execOp, h, c0, c1, c2, go_sem]) rfl
    | 1, ho =>
      have hoo := Option.some.inj ho
      subst hoo
      exact fx_run hK hρ (.slice (some ⟨y.heap.size, 0, none⟩) 0 0) (w' := y.alloc (.cells #[] 3)) (by simp [execOp, go_sem]) (newRow_here _ y _ hgt) (below_alloc _)
    | 2, ho =>
      have hoo := Option.some.inj ho
      subst hoo
      exact fx_val hK hρ (.slice Ai ni ci) (by have h := hA.tmp 1 (by decide); simp [execOp, h, go_sem]) rfl
    | 3, ho =>
      have hoo := Option.some.inj ho
      subst hoo
      obtain ⟨g, h2, hg, hgl⟩ := hd ⟨1, .data⟩ (by simp) (by rfl)
      have h2' : ρ (.tmp 22) = _ := h2
      have h3 : ρ (.tmp 23) = .slice Ai ni ci := hd ⟨2, .data⟩ (by simp) (by rfl)
      obtain ⟨v', w2, hr, how, hb⟩ := fresh_append (P := Tryz.prog) y 25 25 3 i0 (.int .i64 0) 1 8 Tryz.underlying25 hi0 hz0 hz1 hz2 rfl (by omega) w1.heap.size g hg hgl hgt Ai ni ci (inp.map (Value.int .i64)) (by simp [HN.out]) HAI.out
        (fun ad e => by have q := hI.1.i; rw [e] at q; exact q.cells) (oneCell_ints inp) (by unfold maxLen; omega) (by omega)
      have how' : OwnI w2 w1.heap.size v' inp := by unfold OwnI; rw [HN.out]; exact how
      obtain ⟨A', c', he, _⟩ := how'.slice
      rw [HN.out] at he
      subst he
      exact fx_run hK hρ _ (w' := w2) (by simp [execOp, resolve, invoke, builtin, h2', h3, hr, Result.andThen]) ⟨A', c', rfl, how'⟩ hb
    | 4, ho =>
      have hoo := Option.some.inj ho
      subst hoo
      exact fx_run hK hρ (.slice (some ⟨y.heap.size, 0, none⟩) 0 0) (w' := y.alloc (.cells #[] 3)) (by simp [execOp, go_sem]) (newRow_here _ y _ hgt) (below_alloc _)
    | 5, ho =>
      have hoo := Option.some.inj ho
      subst hoo
      exact fx_val hK hρ (.slice F m d) (by have h := hA.tmp 2 (by decide); simp [execOp, h, go_sem]) rfl
    | 6, ho =>
      have hoo := Option.some.inj ho
      subst hoo
      obtain ⟨g, h2, hg, hgl⟩ := hd ⟨4, .data⟩ (by simp) (by rfl)
      have h2' : ρ (.tmp 25) = _ := h2
      have h3 : ρ (.tmp 26) = .slice F m d := hd ⟨5, .data⟩ (by simp) (by rfl)
      obtain ⟨v', w2, hr, how, hb⟩ := fresh_append (P := Tryz.prog) y 25 25 3 i0 (.int .i64 0) 1 8 Tryz.underlying25 hi0 hz0 hz1 hz2 rfl (by omega) w1.heap.size g hg hgl hgt F m d (vals.map (Value.int .i64)) (by simp [HM.out]) HAV.out
        (fun ad e => by have q := hI.1.v; rw [e] at q; exact q.cells) (oneCell_ints vals) (by unfold maxLen; omega) (by omega)
      have how' : OwnI w2 w1.heap.size v' vals := by unfold OwnI; rw [HM.out]; exact how
      obtain ⟨A', c', he, _⟩ := how'.slice
      rw [HM.out] at he
      subst he
      exact fx_run hK hρ _ (w' := w2) (by simp [execOp, resolve, invoke, builtin, h2', h3, hr, Result.andThen]) ⟨A', c', rfl, how'⟩ hb
    | 7, ho =>
      have hoo := Option.some.inj ho
      subst hoo
      have f0 : ρ (.tmp 21) = .agg #[.int .i64 op, .int .i64 arg, .int .i64 wk] := hd ⟨0, .data⟩ (by simp) (by rfl)
      obtain ⟨A', c', f3', o3⟩ := hd ⟨3, .data⟩ (by simp) (by rfl)
      obtain ⟨F', d', f6', o6⟩ := hd ⟨6, .data⟩ (by simp) (by rfl)
      have f3 : ρ (.tmp 24) = .slice A' ni c' := f3'
      have f6 : ρ (.tmp 27) = .slice F' m d' := f6'
      exact fx_call hK hρ 12 _ _ #[.agg #[.int .i64 op, .int .i64 arg, .int .i64 wk], .slice A' ni c', .slice F' m d'] rfl (by simp only [List.map_toArray, List.map_cons, List.map_nil, f0, f3, f6]) (eg_of Tryz.func12 (by kernel_rfl) rfl) ((op_any op arg wk A' ni c' inp F' m d' vals y ha.1 ha.2 HN.out (by omega) HM.out (by omega) o3.ints o6.ints).mono fun e w' ⟨he, hb⟩ => ⟨_, he, by show Value.int .i64 _ = .int .i64 z; rw [HZ.out], hb⟩)
    | 8, ho =>
      have hoo := Option.some.inj ho
      subst hoo
      have f7 : ρ (.tmp 28) = .int .i64 z := hd ⟨7, .data⟩ (by simp) (by rfl)
      exact fx_val hK hρ (.int .i64 z) (by simp [execOp, f7, go_sem]) rfl
    | kq + 9, ho => simp at ho
  case hend =>
    intro vals2 xw hI hF
    have fz : vals2 7 = .int .i64 z := hF 8 (by decide)
    simp only [fillA, fillL, List.contains_cons, List.contains_nil, Nat.reduceBEq, Bool.or_false, Bool.or_true, cond_true, cond_false, Nat.zero_add, Nat.reduceAdd]
    rw [fz]
    have HJ := Lib.hid hI.1
    have c0 := cell_of_row xw _ 0 _ _ _ hI.1.r
    have c1 := cell_of_row xw _ 1 _ _ _ hI.1.r
    have c2 := cell_of_row xw _ 2 _ _ _ hI.1.r
    simp at c0 c1 c2
    have k1 : decide (0 ≤ z) = true := decide_eq_true hzb.1
    have k2 : decide (z ≤ 4294967295) = true := decide_eq_true (by omega)
    have k3 : decide (z < 4294967296) = true := decide_eq_true hzb.2
    clear hF hI fz
    go_wp2_with fail
    refine (rop_any op arg wk Ai ni ci inp F m d vals xw ha.1 ha.2 HN.out (by omega) HJ.out.i HM.out (by omega) HJ.out.v).mono ?_
    rintro e w3 ⟨rfl, b3⟩
    rw [← HZ.out]
    have HB := Lib.hid (HJ.out.bel.trans (b3.mono HJ.out.bel.size))
    clear b3
    go_wp2
    go_ret
    exact ⟨rfl, HB.out⟩
theorem walk_EvalOps (w : World) (op : Int) (w1 : -9223372036854775808 ≤ op ∧ op ≤ 9223372036854775807) (arg : Int) (w2 : -9223372036854775808 ≤ arg ∧ arg ≤ 9223372036854775807) (wk : Int) (w3 : -9223372036854775808 ≤ wk ∧ wk ≤ 9223372036854775807) (hi : InI w Ai ni ci inp) (hv : InI w F m d vals) (hT : DTab w) :
    Calls Tryz.prog 3 #[.agg #[.int .i64 op, .int .i64 arg, .int .i64 wk], .slice Ai ni ci, .slice F m d] w fun z w' => z = .returned (.bool true) ∧ Below w.heap.size w w' := by
  by_cases h1 : ni ≤ 60
  · by_cases h2 : m ≤ 60
    · exact ops_few w op arg wk w2 hi hv hT h1 h2
    · exact ops_many w op arg wk hi hv hT (.inr ⟨h1, by omega⟩)
  · exact ops_many w op arg wk hi hv hT (.inl (by omega))
end
end Go.Proofs.YtecjpclkiiaidaaGreatDoor
